import PyProof.Rows.All
import Wide.All
import OpenK.AllK
import Wide.FinOn
import Lean
import PyProof.EqAt
import PyProof.EqKinds
import PyProof.TupleCall
import PyProof.TupleOfStr
import PyProof.ListStr
import PyProof.ListRange
import KE.KSortTup
import PyProof.Rows.SortShellK
import PyProof.MeetsSeq2
import PyProof.FactsAll.list_4
import PyProof.AutoSeq1
import PyProof.ConsumeWalk
import PyProof.SetKind
import PyProof.Rows.SetFrom
import PyProof.ZipIter
import PyProof.TupleIter
import PyProof.AutoListH
import PyProof.ListNew
import PyProof.FactsAll.list_2
import PyProof.CollectWalk
import PyProof.FactsAll.tuple_2
import PyProof.WalksMore
import PyProof.ListMulRoad
import PyProof.Rows.SeqMore
import KE.KTryMore
import OpenK.KOwn
import PyProof.Rows.CatchBare
import KE.KIsAll
import PyProof.ExcArgsOwn
import PyProof.ExcAttrAll.ValueError
import KE.RegKTryMore
import KE.RegKIsAll
import PyProof.StrCalls2
import PyProof.StrLawsChain
import PyProof.StrLawsTight
import PyProof.Rows.StrNews
import KE.KIntText
import PyProof.Rows.StrNews2
import PyProof.Rows.StrLast
import PyProof.IsRules
import PyProof.EnumMake
import PyProof.AttrMissHeap
import PyProof.MeetsDictList
import PyProof.Rows.SortStr
import PyProof.Rows.StrItems
import PyProof.StrLawsFrom
import PySem.Challenge.RW_askwithin_k66_whole_texts_tell_one_quest
open PySem renaming PyData->aA,Str->aB,Addr->aD,Value->aE,Shared->aG,wpAny_bind->aI,wpAny->aN,model->aR,wpAny_pure->aT,Heap->aU,Expr->aW,Obj->aY,World->bB,starEach->bI,Stmt->bR,Program->bS,eval->bZ,Pos->cC,Around->cE,mainGlobals->cK,SetTable->eB,rawInt->eI,backTo->eM,Paired->eR,Env->eT,FuncData->gD,compareOp->iC,boot_len->iE,Scope->iP,wpAny_newObj_type->jQ,wpAny_holding->jR,sysModules->kE,Spec->kG,wpAny_mono->kW,wpAny_call_entry->kX,pyNext->kY,binaryOp->kZ,codeAny->mD,Reads->mE,Keyword->mF,bootBuiltins->mO,NameKind->mT,sizeLine_eq->nM,ReadsAll->nP,pyIter->oP,codeAny_builtin->oQ,wpAny_setState_of->pQ,wpAny_ite_split->pR,swapsWith->pT,DictEntry->pZ,holding->rJ,IsPart->rT,wpAny_typeOf->tM,wpAny_truthy_bool->tN,plainId_quiet->tO,getItem->tP,foldedSetIterable->tQ,codeAny_mono->tR,wpAny_updateSeq->wR,wpAny_specialOf->wU,wpAny_callSpecial?_slot->wV,valueAt->wW,updateSeq->wX,typeIs_str->wY,sliceBounds->wZ,relabel->xA,keywordEach->xB,callerA->xC,bindArgs->xD,backToKw->xE,attributeBase->xF,GenState->xO,BindsTo->xQ,wpAny_setField_rec->AD,wpAny_setEntries_of->AE,wpAny_seqItems->AG,wpAny_isInstance->AH,wpAny_fieldsOf->AI,wpAny_attempt->AJ,wpAny_askSetting->AK,behindInMarks->AL,wpAny_pyIter_slot->FD,wpAny_passesOwn->FE,wpAny_forIn_list->FF,wpAny_Call_Name_kw->FG,scanBound->FH,ofAClassStatement->FI,hashByValue->FK,call_meets->FM,mem_of_lookup->FO,intText?->FP,wpAny_typeNameOf_keyiter->LQ,wpAny_typeNameOfWhole_keyiter->LR,wpAny_runValue->LS,wpAny_pyIter_list->LU,wpAny_of_eq->LV,subscripted->LW,letOwnedTupleGo->LX,concat_meets->LY,wpAny_dictEntries->Am,noFill_tuple_add->An,codeAny_extend_loopS->Ao,builtinLookup_eq_fast->Ap,SetTable->Bc,Builtin->Bg
open PySem.W renaming Frag->aK,nsIn->dE,mg_none_of->iF,mg_of->lE,fnOf->lF,kia_one->mP,keepIn->rL,codeIn->AO,exmOne->FQ,hideAll_get->MB,excIn->MC,of_hideAll->Ar,methodObj->As,lookIn->Au,kitx_list->Av,kitx_dict->Ax,kitOne->Ay,instObj->Az,callWith_K->Ba,OpenLaw->Bb
open Or renaming inl->aX,inr->bD
open PySem.PyData renaming str->bN,canLay0->cD,int->cO,eqv->cV,depthAll->dJ,bool->eO,tuple->fR,depth->gA,list->rM,strOk->tV,eqvAll->AQ,canLayAll0->AR
open List renaming mem_map->bP,mem_cons_self->bQ,mem_cons_of_mem->cA,mem_cons->cN,range->cR,length_map->cX,mem_singleton->dX,all_eq_true->dZ,size_toArray->eF,map_cons->fE,length_cons->fI,length_append->fL,getElem?_map->fM,getElem?_eq_some_iff->fN,map_map->fS,getElem?_eq_getElem->gV,mem_range->iG,mem_of_getElem?->iH,mem_append->iR,toArray->lJ,filter_eq_self->lL,replicate->mU,map_append->mV,length_take->mW,foldl_cons->mX,mem_append_right->nQ,lookup_cons->nR,nodup_cons->oR,find?_cons->oU,getElem?_cons_succ->pX,mem_flatten->rO,getElem?_set_self->rP,getElem?_set_ne->rQ,getElem?_append_left->rR,append_nil->rS,mem_append_left->tZ,length_drop->uA,flatten_cons->uB,eq_nil_of_length_eq_zero->uC,pairwise_map->xH,mem_filterMap->xI,length_singleton->xJ,length->xK,getElem?_cons_zero->xM,getElem?_append_right->xN,take_length->AZ,mem_flatMap->BA,map_inj_right->BB,map_congr_left->BC,cons_lt_cons_iff->BD,any_cons->BE,take_of_length_le->FY,mem_of_mem_take->FZ,mem_filter->GA,getElem_mem->GB,drop_of_length_le->GC,all_map->GD,take_add_one->ML,mem_of_mem_drop->MM,foldl_append->MN,exists_cons_of_ne_nil->MO,all_cons->MP,zip_cons_cons->Bn,take_append->Bo,of_mem_zip->Bp,not_mem_nil->Bq,nodup_range->Br,nodup_append->Bs,mem_or_eq_of_mem_set->Bt,mem_iff_getElem->Bu,getElem?_take_of_lt->Bv,getElem?_eq_none->Bw,filterMap_cons->Bx,ext_getElem?->By,drop_length->Bz,drop_eq_getElem_cons->Ca,drop_append->Cb,cons_append->Cc,all_toArray->Ce,pairwise_iff_getElem->Zt,length_filterMap_le->Zu,length_eraseIdx_of_lt->Zv,length_eq_zero_iff->Zw
open Nat renaming le_refl->bU,ne_of_lt->cZ,zero_le->fA,lt_of_lt_of_le->iQ,le_trans->jB,ne_of_gt->mQ,lt_succ_of_lt->mR,lt_irrefl->mS,lt_or_ge->pW,mod_lt->tX,le_of_lt->tY,lt_succ_self->xG,pow_succ->AW,mul_le_mul_right->AX,min_eq_left->AY,mul_assoc->FU,mul_add->FV,lt_trichotomy->FW,toDigits->ME,succ_mul->MF,mul_mul_mul_comm->MG,min_eq_right->MH,lt_trans->MI,add_zero->MJ,add_assoc->MK,mul_left_comm->Bl,lt_of_le_of_lt->Bm,toDigits_of_lt_base->Zs
open Option renaming bind_some->cH,map_eq_some_iff->lG,map_some->tW,join_some->AU,isSome_iff_exists->Bk
open PySem.Heap renaming lt_size->cL,get?_push_of_some->cP,get?_push_size->eP,SameBut->oW,get?_update_self->pY,get?_update_other->rV,size_push->BG
open PySem.Str renaming join->cU,ofString->kF,length->AN
open PySem.Value renaming ref->fQ,none->fZ,type->iD
open PySem.NameKind renaming free->gC
open PySem.Obj renaming mapSeq->gL,putSet->AV
open Option.some renaming inj->gU,injEq->FT
open Array renaming length_toList->gW,getElem?_eq_getElem->kJ,getElem?_toList->nA,getElem?_eq_some_iff->uD,toList_inj->GI,toList_filterMap->NB,getElem?_eq_none->NC,getD_eq_getD_getElem?->ND,forIn_toList->NF,all_eq_true'->Cr,all_append->Cs
open PySem.Builtin.Str renaming occurrences->iS,strSliceIndices->oX,strSub->rW,strKind->MX,partsBetween->Ck
open Bool renaming false_eq_true->iV,and_eq_true->jI,false_ne_true->qA,and_eq_true_iff->qB,not_true->BK,eq_iff_iff->BL,or_false->Co,and_self->Cp,and_false->Cq
open PyProof.Rows renaming envOfC->jA,seqObj->nN,AllBare->qC,boot_tuple->tU,listUpdate_at->FJ,boot_str->FR,slot_tuple_getitem->Bh,boot_list->Bi,boot_int->Bj,callWith_type1->Zr
open Sum renaming inr->jS,inl->tT
open Int renaming eq_ofNat_of_zero_le->kH,toNat_natCast->mY,ofNat->oV
open PySem.F renaming called_set->kI,slot_tuple_hash->GE,slot_dict_keyiterator_next->GF,plainAttrs_str->MD,slot_set_iter->MT,plain_list_iadd->MU,slot_tuple_add->Bd,entry_tuple_add->Be,args_tuple_add_2->Bf,slot_str_split->Cf,plain_extend_loop->Cg,entry_str_split->Ci,args_str_split_2->Cj,plainAttrs_list->Zp,excBase_ValueError->Zq,entry_dict_keyiterator_next->Zx,args_dict_keyiterator_next_1->Zy
open PySem.Txt renaming split->lC,partition->nO,startswith->LZ
open Ne renaming symm->lH
open False renaming elim->mZ
open PySem.Paired renaming length->pU
open True renaming intro->rK
open PySem.PassesOwn renaming never->rN
open PySem.Builtin.List renaming listExtendWith->rX,listSameRef->xP,listLengthHint->MZ,listTooLong->Cn
open PySem.Around renaming under_plainId->rY
open PySem.StrLaws renaming At->AM,join_split->Aq
open ForInStep renaming yield->BH
open PyProof.Rows.F renaming plain_set_update_loop->BI,entry_set_update_loop->MV
open PySem.Builtin.Tuple renaming tupleHashOf->BJ,tupleExact->MW
open PySem.SetTable renaming fresh->FN,fill->MA
open PySem.PyData.tuple renaming inj->FS
open Classical renaming choose_spec->GG,byContradiction->GH
open Array.Perm renaming refl->GJ
open List.Pairwise renaming imp_of_mem->MQ
open List.Nodup renaming length_le_of_subset->MR
open PySem.Heap.SameBut renaming update->MS
open PySem.Builtin.Slice renaming slicePlaces->MY,sliceAdjust->Cm
open PySem.Builtin.Frozenset renaming sizeOf->NA
open List.cons renaming inj->Cd
theorem XBs {α β:Type}{x:Option α}{f:α->Option β}{b:β}(h:x.bind f=some b) : ∃ a,x=some a/\f a=some b:=Option.bind_eq_some_iff.mp h
set_option Elab.async false
set_option bootstrap.genMatcherCode false
set_option genSizeOfSpec false
set_option linter.all false
set_option maxRecDepth 100000
set_option exponentiation.threshold 2000
namespace L2
open PySem PySem.Spec PyProof.Rows
noncomputable instance decEqData:DecidableEq aA:=fun a b=>Classical.propDecidable (a=b)
mutual
noncomputable def bF:aA->Bool
 | .int _=>true
 | .str x=>cD (.str x)
 | .tuple ds=>cG ds
 | _=>false
noncomputable def cG:List aA->Bool
 | []=>true
 | d::r=>bF d&&cG r
end
mutual
theorem IL : ∀ d:aA,bF d=true->d.canLay0=true
 | .int _,_=>by simp[cD]
 | .str x,h=>by simpa [bF] using h
 | .tuple ds,h=>by
  simp only[cD]
  exact TJ ds (by simpa [bF] using h)
 | .none,h=>by simp[bF] at h
 | .bool _,h=>by simp[bF] at h
 | .list _,h=>by simp[bF] at h
 | .dict _,h=>by simp[bF] at h
theorem TJ : ∀ ds:List aA,cG ds=true->AR ds=true
 | [],_=>by simp[AR]
 | d::r,h=>by
  have h':bF d=true/\cG r=true:=by simpa [cG] using h
  simp only[AR,IL d h'.1,TJ r h'.2,Cp]
end
mutual
theorem RL : ∀ x y:aA,bF x=true->bF y=true->cV x y=decide (x=y)
 | .int i,.int j,_,_=>by
  by_cases e:i=j
  ·subst e; simp[cV]
  ·have : ¬ cO i = .int j:=fun q=>e (PyData.int.inj q)
   simp[cV,e]
 | .str i,.str j,_,_=>by
  by_cases e:i=j
  ·subst e; simp[cV]
  ·simp[cV,e]
 | .tuple xs,.tuple ys,h1,h2=>by
  have e:=DH xs ys (by simpa [bF] using h1) (by simpa [bF] using h2)
  simp only[cV,e]
  by_cases q:xs=ys
  ·subst q; simp
  ·have : ¬ fR xs = .tuple ys:=fun z=>q (FS z)
   rw[decide_eq_false q,decide_eq_false this]
 | .int _,.str _,_,_=>by simp[cV]
 | .int _,.tuple _,_,_=>by simp[cV]
 | .str _,.int _,_,_=>by simp[cV]
 | .str _,.tuple _,_,_=>by simp[cV]
 | .tuple _,.int _,_,_=>by simp[cV]
 | .tuple _,.str _,_,_=>by simp[cV]
 | .none,_,h,_=>by simp[bF] at h
 | .bool _,_,h,_=>by simp[bF] at h
 | .list _,_,h,_=>by simp[bF] at h
 | .dict _,_,h,_=>by simp[bF] at h
 | .int _,.none,_,h=>by simp[bF] at h
 | .int _,.bool _,_,h=>by simp[bF] at h
 | .int _,.list _,_,h=>by simp[bF] at h
 | .int _,.dict _,_,h=>by simp[bF] at h
 | .str _,.none,_,h=>by simp[bF] at h
 | .str _,.bool _,_,h=>by simp[bF] at h
 | .str _,.list _,_,h=>by simp[bF] at h
 | .str _,.dict _,_,h=>by simp[bF] at h
 | .tuple _,.none,_,h=>by simp[bF] at h
 | .tuple _,.bool _,_,h=>by simp[bF] at h
 | .tuple _,.list _,_,h=>by simp[bF] at h
 | .tuple _,.dict _,_,h=>by simp[bF] at h
theorem DH : ∀ xs ys:List aA,cG xs=true->cG ys=true->AQ xs ys=decide (xs=ys)
 | [],[],_,_=>by simp[AQ]
 | [],_::_,_,_=>by simp[AQ]
 | _::_,[],_,_=>by simp[AQ]
 | x::xs,y::ys,h1,h2=>by
  have h1':bF x=true/\cG xs=true:=by simpa [cG] using h1
  have h2':bF y=true/\cG ys=true:=by simpa [cG] using h2
  simp only[AQ,RL x y h1'.1 h2'.1,DH xs ys h1'.2 h2'.2]
  by_cases e:x=y
  ·subst e
   by_cases q:xs=ys
   ·subst q; simp
   ·simp[q]
  ·simp[e]
end
mutual
noncomputable def dF (w:bB):aA->Int
 | .int i=>hashInt i
 | .str x=>hashStr w x
 | .tuple ds=>reduceHash (BJ (lW w ds))
 | _=>0
noncomputable def lW (w:bB):List aA->List Int
 | []=>[]
 | d::r=>dF w d::lW w r
end
mutual
noncomputable def qJ:aA->Nat
 | .tuple ds=>oB ds+1
 | _=>1
noncomputable def oB:List aA->Nat
 | []=>0
 | d::r=>qJ d+oB r
end
theorem XC (a b:List aA):oB (a++b)=oB a+oB b:=by
 induction a with
 | nil=>simp[oB]
 | cons x r ih=>simp only[Cc,oB,ih]; omega
theorem XG (w:bB)(a b:List aA):lW w (a++b)=lW w a++lW w b:=by
 induction a with
 | nil=>rfl
 | cons x r ih=>simp only[Cc,lW,ih]
section
variable {prog:bS}{w:bB}
theorem qY {h:aU}{v:aE}{ks:List aA}{as:List aD}(r:mE h v (.tuple ks) as) : ∃ a o vs n,v = .ref a/\h.get? a=some o/\o.cls = .type "tuple" /\ o.data = .seq vs n/\nP h vs.toList ks as:=by
 cases r with
 | tuple h1 h2 h3 h4=>exact⟨_,_,_,_,rfl,h1,h2,h3,h4⟩
mutual
theorem WB : ∀ (d:aA) {A:cE} {E:aE->aG->Prop} {s:aG} {v:aE} {as:List aD} {Q:Int->aG->Prop},A.units+d.depth<cLine->bF d=true->mE s.heap v d as ->
  Q (dF w d) { s with toks:=s.toks+qJ d }->aN (aR prog w) A (pyHash v) Q E s
 | .int i,A,E,s,v,as,Q,hu,hk,r,h=>by
  cases r with
  | int _ t=>exact wpAny_pyHash_int (by simpa [dF,qJ] using h)
 | .str x,A,E,s,v,as,Q,hu,hk,r,h=>by
  cases r with
  | str _ t=>exact wpAny_pyHash_str (by simpa [dF,qJ] using h)
 | .tuple ks,A,E,s,v,as,Q,hu,hk,r,h=>by
  obtain⟨a,o,items,n,rfl,ho,hc,hd,hi⟩:=qY r
  have hT:s.TypeIs (.ref a) "tuple":=⟨o,ho,hc⟩
  have hdep:A.units+(dJ ks+1)<cLine:=by simpa [gA] using hu
  unfold pyHash
  first | unfold pyHashByItsType | skip
  first | refine aI (wpAny_cRoomFor_or (.inr (by omega)) ?_) | skip
  refine aI (wU hT GE.lookup ?_)
  rw[if_neg (by rw[beq_builtin_none]; exact qA)]
  refine aI (wU hT GE.lookup ?_)
  refine aI (wpAny_callSpecialIfBoundUnlessNone?_slot hT GE (kX GE hT F.entry_tuple_hash ?_ (F.args_tuple_hash_1 _)))
  show aN _ _ (Builtin.Tuple.tupleItemsOf (.ref a) >>= _) _ _ s
  refine aI (wpAny_tupleItemsOf ho hd ?_)
  refine aI ?_
  rw[← NF]
  refine FF _
   (fun rest (b:Array Int) s'=>∃ done left bs,ks=done++left/\nP s.heap rest left bs/\b.toList=lW w done/\s' = { s with toks:=s.toks+oB done })
   _ ?_ ?_ _ _ ⟨[],ks,as,rfl,hi,rfl,rfl⟩
  ·rintro x rest b s' ⟨done,left,bs,e,hl,hb,rfl⟩
   cases hl with
   | @cons _ _ d ds as1 bs1 h1 hl'=>
    have hm:d∈ks:=by rw[e]; exact nQ _ bQ
    have hk':cG ks=true:=by simpa [bF] using hk
    refine aI (WW ks hm (by
     have:A.in1.units=A.units+1:=rfl
     omega) hk' h1 ?_)
    first
     | exact aT ⟨done++[d],ds,bs1,by simp[e],hl',by simp[hb,XG,lW],by simp[XC,oB,MK]⟩
     | exact aI (aT (aT ⟨done++[d],ds,bs1,by simp[e],hl',by simp[hb,XG,lW],by simp[XC,oB,MK]⟩))
  ·rintro b s' ⟨done,left,bs,e,hl,hb,rfl⟩
   cases hl
   rw[rS] at e
   subst e
   show aN _ _ (retInt (BJ b.toList)) _ _ _
   rw[hb]
   refine wpAny_ret_mkInt ?_
   show aN _ _ (if (decide (-(2:Int) ^ 63≤BJ (lW w ks))&&decide (BJ (lW w ks)<2 ^ 63))=true then _ else _) Q E _
   simp only[dF,qJ] at h
   unfold reduceHash at h
   by_cases hr:(decide (-(2:Int) ^ 63≤BJ (lW w ks))&&decide (BJ (lW w ks)<2 ^ 63))=true
   ·rw[if_pos hr]
    rw[if_pos hr] at h
    exact aT (by simpa [MK] using h)
   ·rw[if_neg hr]
    rw[if_neg hr] at h
    exact aI (wpAny_rule (aT (by simpa [MK] using h)))
 | .none,A,E,s,v,as,Q,hu,hk,r,h=>by simp[bF] at hk
 | .bool _,A,E,s,v,as,Q,hu,hk,r,h=>by simp[bF] at hk
 | .list _,A,E,s,v,as,Q,hu,hk,r,h=>by simp[bF] at hk
 | .dict _,A,E,s,v,as,Q,hu,hk,r,h=>by simp[bF] at hk
theorem WW : ∀ (ks:List aA) {d:aA},d∈ks -> ∀ {A:cE} {E:aE->aG->Prop} {s:aG} {v:aE} {as:List aD} {Q:Int->aG->Prop},A.units+dJ ks<cLine->cG ks=true->mE s.heap v d as ->
  Q (dF w d) { s with toks:=s.toks+qJ d }->aN (aR prog w) A (pyHash v) Q E s
 | [],_,hm,_,_,_,_,_,_,_,_,_,_=>by simp at hm
 | k::ks,d,hm,A,E,s,v,as,Q,hu,hk,r,h=>by
  have hk':bF k=true/\cG ks=true:=by simpa [cG] using hk
  have hdep:A.units+max k.depth (dJ ks)<cLine:=by simpa [dJ] using hu
  by_cases e:d=k
  ·exact WB k (by omega) hk'.1 (e ▸ r) (by rw[← e]; exact h)
  ·have hm':d∈ks:=by
    rcases cN.mp hm with q | q
    ·exact absurd q e
    ·exact q
   exact WW ks hm' (by omega) hk'.2 r h
end
end
section
variable {prog:bS}{w:bB}
mutual
theorem DN : ∀ (d:aA) (n:Nat) {A:cE} {E:aE->aG->Prop} {s:aG} {v:aE} {as:List aD} {Q:Bool->aG->Prop},d.depth≤n->bF d=true->mE s.heap v d as ->
  Q true s->aN (aR prog w) A (eqIsQuiet n v) Q E s
 | .int i,n,A,E,s,v,as,Q,hu,hk,r,h=>by
  cases r with
  | int _ t=>
   rw[eqIsQuiet_byValue n (by rfl)]
   exact aT h
 | .str x,n,A,E,s,v,as,Q,hu,hk,r,h=>by
  cases r with
  | str _ t=>
   rw[eqIsQuiet_byValue n (by rfl)]
   exact aT h
 | .tuple ks,n,A,E,s,v,as,Q,hu,hk,r,h=>by
  obtain⟨a,o,items,m,rfl,ho,hc,hd,hi⟩:=qY r
  have hT:s.TypeIs (.ref a) "tuple":=⟨o,ho,hc⟩
  have hdep:dJ ks+1≤n:=by simpa [gA] using hu
  obtain⟨n,rfl⟩ : ∃ m,n=m+1:=⟨n - 1,by omega⟩
  have hk':cG ks=true:=by simpa [bF] using hk
  unfold eqIsQuiet
  refine aI (wU hT F.slot_tuple_eq.lookup ?_)
  refine aI (AH hT isSubtype_tuple_tuple ?_)
  simp only[BK,iV,if_false]
  refine aI (AG ho hd ?_)
  refine aI ?_
  rw[← NF]
  refine FF _ (fun rest r s'=>r.1=none/\s'=s /\ ∃ ds bs,nP s.heap rest ds bs /\ ∀ d∈ds,d∈ks) _ ?_ ?_ _ _ ⟨rfl,rfl,ks,as,hi,fun _ h=>h⟩
  ·rintro v rest r s' ⟨hr,rfl,ds,bs,hl,hall⟩
   cases hl with
   | @cons _ _ d ds as1 bs1 h1 hl'=>
    refine aI (VZ ks (hall d bQ) n (by omega) hk' h1 ?_)
    simp only[BK,iV,if_false]
    exact aT ⟨rfl,rfl,ds,bs1,hl',fun u hu'=>hall u (cA _ hu')⟩
  ·rintro⟨r1,r2⟩ s' ⟨hr,rfl,_⟩
   simp only at hr
   subst hr
   exact aT h
 | .none,n,A,E,s,v,as,Q,hu,hk,r,h=>by simp[bF] at hk
 | .bool _,n,A,E,s,v,as,Q,hu,hk,r,h=>by simp[bF] at hk
 | .list _,n,A,E,s,v,as,Q,hu,hk,r,h=>by simp[bF] at hk
 | .dict _,n,A,E,s,v,as,Q,hu,hk,r,h=>by simp[bF] at hk
theorem VZ : ∀ (ks:List aA) {d:aA},d∈ks -> ∀ (n:Nat) {A:cE} {E:aE->aG->Prop} {s:aG} {v:aE} {as:List aD} {Q:Bool->aG->Prop},dJ ks≤n->cG ks=true->mE s.heap v d as ->
  Q true s->aN (aR prog w) A (eqIsQuiet n v) Q E s
 | [],_,hm,_,_,_,_,_,_,_,_,_,_,_=>by simp at hm
 | k::ks,d,hm,n,A,E,s,v,as,Q,hu,hk,r,h=>by
  have hk':bF k=true/\cG ks=true:=by simpa [cG] using hk
  have hdep:max k.depth (dJ ks)≤n:=by simpa [dJ] using hu
  by_cases e:d=k
  ·exact DN k n (by omega) hk'.1 (e ▸ r) h
  ·have hm':d∈ks:=by
    rcases cN.mp hm with q | q
    ·exact absurd q e
    ·exact q
   exact VZ ks hm' n (by omega) hk'.2 r h
end
mutual
theorem WE {h h':aU}(kp : ∀ b o vs n,h.get? b=some o->o.cls = .type "tuple" -> o.data = .seq vs n->h'.get? b=some o) : ∀ (d:aA) {v:aE} {as:List aD},bF d=true->mE h v d as->mE h' v d as
 | .int i,v,as,hk,r=>by
  cases r with
  | int _ t=>exact .int i t
 | .str x,v,as,hk,r=>by
  cases r with
  | str _ t=>exact .str x t
 | .tuple ks,v,as,hk,r=>by
  obtain⟨a,o,items,m,rfl,ho,hc,hd,hi⟩:=qY r
  exact .tuple (kp _ _ _ _ ho hc hd) hc hd (XD kp ks (by simpa [bF] using hk) hi)
 | .none,v,as,hk,r=>by simp[bF] at hk
 | .bool _,v,as,hk,r=>by simp[bF] at hk
 | .list _,v,as,hk,r=>by simp[bF] at hk
 | .dict _,v,as,hk,r=>by simp[bF] at hk
theorem XD {h h':aU}(kp : ∀ b o vs n,h.get? b=some o->o.cls = .type "tuple" -> o.data = .seq vs n->h'.get? b=some o) : ∀ (ds:List aA) {vs:List aE} {as:List aD},cG ds=true->nP h vs ds as->nP h' vs ds as
 | [],vs,as,hk,r=>by
  cases r with
  | nil=>exact .nil
 | d::ds,vs,as,hk,r=>by
  have hk':bF d=true/\cG ds=true:=by simpa [cG] using hk
  cases r with
  | cons r1 r2=>exact .cons (WE kp d hk'.1 r1) (XD kp ds hk'.2 r2)
end
def Adx (h:aU)(ks:List aA)(a:aD):Prop:=cG ks=true/\dJ ks≤6 /\ ∃ as,mE h (.ref a) (.tuple ks) as
theorem Adx.keep {h h':aU}{ks:List aA}{a:aD}(kp : ∀ b o vs n,h.get? b=some o->o.cls = .type "tuple" -> o.data = .seq vs n->h'.get? b=some o)(k:Adx h ks a):Adx h' ks a:=
 ⟨k.1,k.2.1,k.2.2.choose,WE kp (.tuple ks) (by simpa [bF] using k.1) k.2.2.choose_spec⟩
noncomputable def qS (prog:bS)(w:bB):HeapKind prog w (List aA) where
 is:=Adx
 hash:=fun ks=>dF w (.tuple ks)
 draws:=fun ks=>qJ (.tuple ks)
 room:=fun A=>A.units+20<cLine
 inj:=fun {h a x y} hx hy=>by
  obtain⟨k1,_,as,r1⟩:=hx
  obtain⟨k2,_,bs,r2⟩:=hy
  exact FS (reads_det (fun _ _ e _=>e) r2 r1).1
 keeps:=fun {h h' k a d o es ep} x ho hd hs=>x.keep fun b ob vs n hb _ hd'=>by
  have hne:b≠d:=by
   rintro rfl
   rw[ho] at hb
   cases hb
   rw[hd] at hd'
   cases hd'
  exact(hs.2 b hne).trans hb
 pyHash:=fun {A E s k a Q} hu hk h=>by
  obtain⟨k1,k2,as,r⟩:=hk
  exact WB (.tuple k) (by simp only[gA]; omega) (by simpa [bF] using k1) r h
 eqBool:=fun {A E s x y a b Q} hu hx hy h=>by
  obtain⟨k1,d1,as,r1⟩:=hx
  obtain⟨k2,d2,bs,r2⟩:=hy
  have e:=RL (.tuple x) (.tuple y) (by simpa [bF] using k1) (by simpa [bF] using k2)
  have e2:decide ((fR x) = .tuple y)=decide (x=y):=by
   by_cases q:x=y
   ·subst q; simp
   ·rw[decide_eq_false q,decide_eq_false (fun z=>q (FS z))]
  have:=SeqAt.eqAt_reads (.tuple x) (.tuple y) A s (.ref a) (.ref b) as bs r1 r2 (IL _ (by simpa [bF] using k1)) (IL _ (by simpa [bF] using k2)) (by simp only[gA]; omega)
  rw[e,e2] at this
  exact this prog w E Q h
 quiet:=fun {A E s k a Q} hk h=>by
  obtain⟨k1,k2,as,r⟩:=hk
  exact DN (.tuple k) 8 (by simp only[gA]; omega) (by simpa [bF] using k1) r h
end
abbrev aO:=Sum Int aB
noncomputable def uN:aO->aE->Bool
 | .inl k,v=>Value.isInt k v
 | .inr x,v=>Value.isStrOf x v
noncomputable def Dd (w:bB):aO->Int
 | .inl k=>hashInt k
 | .inr x=>hashStr w x
theorem oH : ∀ {k:aO} {v:aE},uN k v=true->(∃ i t,k=tT i/\v=Value.int i t) \/ (∃ x t,k=jS x/\v=Value.str x t)
 | .inl i,v,h=>by
  obtain⟨t,e⟩:=Value.isInt_shape (k:=i) (v:=v) h
  exact .inl ⟨i,t,rfl,e⟩
 | .inr x,v,h=>by
  obtain⟨t,e⟩:=Value.isStrOf_shape (x:=x) (v:=v) h
  exact .inr ⟨x,t,rfl,e⟩
theorem Yy (i:Int)(t:Tok):uN (.inl i) (.int i t)=true:=by simp[uN,Value.isInt]
theorem Nv (x:aB)(t:Tok):uN (.inr x) (.str x t)=true:=by simp[uN,Value.isStrOf]
theorem Hu (a b:Int):decide ((tT a:aO)=tT b)=(a == b):=by
 by_cases e:a=b
 ·subst e; simp
 ·have h : ¬ (tT a:aO)=tT b:=fun q=>e (Sum.inl.inj q)
  rw[decide_eq_false h]
  exact(beq_eq_false_iff_ne.mpr e).symm
theorem Ia (a b:aB):decide ((jS a:aO)=jS b)=decide (a=b):=by
 by_cases e:a=b
 ·subst e; simp
 ·have h : ¬ (jS a:aO)=jS b:=fun q=>e (Sum.inr.inj q)
  rw[decide_eq_false h,decide_eq_false e]
theorem Gc (a:Int)(b:aB):decide ((tT a:aO)=jS b)=false:=decide_eq_false (fun q=>nomatch q)
theorem Ga (a:aB)(b:Int):decide ((jS a:aO)=tT b)=false:=decide_eq_false (fun q=>nomatch q)
noncomputable def iZ (prog:bS)(w:bB):PySem.KeyKind prog w aO where
 is:=uN
 hash:=Dd w
 inj:=fun v a b ha hb=>by
  rcases oH ha with⟨i,t,rfl,rfl⟩ | ⟨x,t,rfl,rfl⟩
  ·rcases oH hb with⟨j,u,rfl,e⟩ | ⟨y,u,rfl,e⟩
   ·injection e with e1 _; rw[e1]
   ·exact nomatch e
  ·rcases oH hb with⟨j,u,rfl,e⟩ | ⟨y,u,rfl,e⟩
   ·exact nomatch e
   ·injection e with e1 _; rw[e1]
 byValue:=fun k v h=>by
  rcases oH h with⟨i,t,rfl,rfl⟩ | ⟨x,t,rfl,rfl⟩ <;> rfl
 pyHash:=fun hv h=>by
  rcases oH hv with⟨i,t,rfl,rfl⟩ | ⟨x,t,rfl,rfl⟩
  ·exact wpAny_pyHash_int h
  ·exact wpAny_pyHash_str h
 eqBool:=fun hu hv h=>by
  rcases oH hu with⟨i,t,rfl,rfl⟩ | ⟨x,t,rfl,rfl⟩
  ·rcases oH hv with⟨j,u,rfl,rfl⟩ | ⟨y,u,rfl,rfl⟩
   ·rw[Hu] at h; exact wpAny_eqBool_int h
   ·rw[Gc] at h; exact SeqAt.EqAt.int_str i t y u _ _ _ _ h
  ·rcases oH hv with⟨j,u,rfl,rfl⟩ | ⟨y,u,rfl,rfl⟩
   ·rw[Ga] at h; exact SeqAt.EqAt.str_int x t j u _ _ _ _ h
   ·rw[Ia] at h; exact wpAny_eqBool_str h
 «strs»:=fun k x t v h=>by
  rcases oH h with⟨i,u,rfl,e⟩ | ⟨y,u,rfl,e⟩
  ·exact nomatch e
  ·injection e with e1 _
   subst e1
   cases v <;> rfl
theorem KN (prog:bS)(w:bB)(i:Int)(t:Tok):(iZ prog w).is (.inl i) (.int i t)=true:=Yy i t
theorem KI (prog:bS)(w:bB)(x:aB)(t:Tok):(iZ prog w).is (.inr x) (.str x t)=true:=Nv x t
inductive V where
 | non | bl (b:Bool) | int (i:Int) | str (x:aB) | byt (b:Array UInt8) | flt (b:UInt64) | ref (a:aD) | ty (n:String)
 deriving DecidableEq
def RelV:V->aE->Prop
 | .non,u=>u=fZ
 | .bl b,u=>u=Value.bool b
 | .int i,u=>∃ t,u=Value.int i t
 | .str x,u=>∃ t,u=Value.str x t
 | .byt b,u=>∃ t,u=Value.bytes b t
 | .flt b,u=>∃ t,u=Value.float b t
 | .ref a,u=>u=fQ a
 | .ty n,u=>u=iD n
abbrev Vals:List V->List aE->Prop:=eR RelV
theorem Vals.length {xs:List V}{us:List aE}(r:Vals xs us):xs.length=us.length:=pU r
theorem Vals.get : ∀ {xs:List V} {us:List aE} {i:Nat} {x:V},Vals xs us->xs[i]?=some x -> ∃ u,us[i]?=some u/\RelV x u
 | _,_,_,_,.nil,e=>by simp at e
 | _,_,0,_,.cons r _,e=>by simp at e; subst e; exact⟨_,rfl,r⟩
 | _,_,i+1,x,.cons _ t,e=>by
  obtain⟨u,h1,h2⟩:=Vals.get (i:=i) (x:=x) t (by simpa using e)
  exact⟨u,by simpa using h1,h2⟩
theorem Vals.set {x:V}{u:aE}(r:RelV x u) : ∀ {xs:List V} {us:List aE} (i:Nat),Vals xs us->Vals (xs.set i x) (us.set i u)
 | _,_,_,.nil=>.nil
 | _,_,0,.cons _ t=>.cons r t
 | _,_,i+1,.cons q t=>.cons q (Vals.set r i t)
theorem Vals.append : ∀ {xs ys:List V} {us ws:List aE},Vals xs us->Vals ys ws->Vals (xs++ys) (us++ws)
 | _,_,_,_,.nil,s=>s
 | _,_,_,_,.cons r t,s=>.cons r (Vals.append t s)
theorem Vals.take : ∀ {xs:List V} {us:List aE} (n:Nat),Vals xs us->Vals (xs.take n) (us.take n)
 | _,_,0,_=>.nil
 | _,_,_+1,.nil=>.nil
 | _,_,n+1,.cons r t=>.cons r (Vals.take n t)
theorem Vals.drop : ∀ {xs:List V} {us:List aE} (n:Nat),Vals xs us->Vals (xs.drop n) (us.drop n)
 | _,_,0,r=>r
 | _,_,_+1,.nil=>.nil
 | _,_,n+1,.cons _ t=>Vals.drop n t
def A3g:Option V->Option aE->Prop
 | some v,some u=>RelV v u
 | none,none=>True
 | _,_=>False
def KV {κ:Type}:List (κ×V)->List (κ×aE)->Prop:=eR fun(p:κ×V) (q:κ×aE)=>p.1=q.1/\RelV p.2 q.2
noncomputable def kV:aO->V
 | .inl i=>.int i
 | .inr x=>.str x
inductive HO where
 | lst (xs:List V)
 | tup (xs:List V)
 | dK (ep:Nat) (kvs:List (aO×V)) | dT (ep:Nat) (kvs:List (List aA×V))
 | set (S:Int->Bool) (n:Nat)
 | ins (C dx:aD) (fs:List (aB×V))
 | own (x:aD)
 | xd (fs:List (aB×V))
 | met (f x:aD)
 | rng (lo hi:Int)
 | frz (o:aY) (u:HO)
 | tbl (ps:Array aE)
 | ext (φ:aU->Prop)
abbrev Hp:=aD->Option HO
noncomputable def upd (H:Hp)(a:aD)(o:HO):Hp:=fun b=>if b=a then some o else H b
theorem kC {H:Hp}{a:aD}{o:HO}:upd H a o a=some o:=by unfold upd; rw[if_pos rfl]
theorem fG {H:Hp}{a b:aD}{o:HO}(h:b≠a):upd H a o b=H b:=by unfold upd; rw[if_neg h]
theorem Ef {H:Hp}{a b:aD}{o u:HO}(h:H a=some o)(h':H b=some u)(d:o≠u):a≠b:=by
 intro e; subst e; rw[h] at h'; exact d (gU h')
theorem nK {H:Hp}{a b:aD}{o:HO}(h:H a=some o)(h':H b=none):a≠b:=by
 intro e; subst e; rw[h] at h'; cases h'
mutual
def Ale (H:Hp):aA->V->Prop
 | .int i,v=>v = .int i
 | .str x,v=>v = .str x
 | .tuple ds,v=>∃ a xs,v = .ref a/\H a=some (.tup xs)/\Ail H ds xs
 | _,_=>False
def Ail (H:Hp):List aA->List V->Prop
 | [],vs=>vs=[]
 | d::r,vs=>∃ x rr,vs=x::rr/\Ale H d x/\Ail H r rr
end
mutual
theorem Ale.keep {H H':Hp}(ht : ∀ b xs,H b=some (.tup xs)->H' b=some (.tup xs)) : ∀ {d:aA} {v:V},Ale H d v->Ale H' d v
 | .int _,_,k=>by simpa [Ale] using k
 | .str _,_,k=>by simpa [Ale] using k
 | .tuple ds,_,k=>by
  simp only[Ale] at k ⊢
  obtain⟨a,xs,e,h,ks⟩:=k
  exact⟨a,xs,e,ht _ _ h,Ail.keep ht ks⟩
 | .none,_,k=>by simp[Ale] at k
 | .bool _,_,k=>by simp[Ale] at k
 | .list _,_,k=>by simp[Ale] at k
 | .dict _,_,k=>by simp[Ale] at k
theorem Ail.keep {H H':Hp}(ht : ∀ b xs,H b=some (.tup xs)->H' b=some (.tup xs)) : ∀ {ds:List aA} {vs:List V},Ail H ds vs->Ail H' ds vs
 | [],_,k=>by simpa [Ail] using k
 | d::ds,_,k=>by
  simp only[Ail] at k ⊢
  obtain⟨x,r,e,k1,k2⟩:=k
  exact⟨x,r,e,Ale.keep ht k1,Ail.keep ht k2⟩
end
def A4z (H:Hp)(ks:List aA)(a:aD):Prop:=cG ks=true/\dJ ks≤6 /\ ∃ xs,H a=some (.tup xs)/\Ail H ks xs
theorem A4z.keep {H H':Hp}{ks:List aA}{a:aD}(k:A4z H ks a)(ht : ∀ b xs,H b=some (.tup xs)->H' b=some (.tup xs)):A4z H' ks a:=
 ⟨k.1,k.2.1,k.2.2.choose,ht _ _ k.2.2.choose_spec.1,k.2.2.choose_spec.2.keep ht⟩
def Bcr (h:aU)(a:aD)(its:Array aE):Prop:=IsTup h a its /\ ∃ o,h.get? a=some o/\o.dict=none
theorem Bcr.new (h:aU)(its:Array aE):Bcr (h.push { cls:=.type "tuple",data:=.seq its }) h.objs.size its:=⟨IsTup.new _ _,_,eP _ rfl,rfl⟩
section
variable (P:bS)(w:bB)
def Ac4 (H:Hp)(h:aU)(a:aD):HO->Prop
 | .lst xs=>xs.length≤sizeLine /\ ∃ (its:List aE) (n:Nat),Vals xs its/\h.get? a=some { cls:=.type "list",data:=.seq its.toArray n }
 | .tup xs=>xs.length≤sizeLine /\ ∃ its:List aE,Vals xs its/\Bcr h a its.toArray
 | .dK ep kvs=>kvs.length≤sizeLine/\(a == kE)=false /\ ∃ vs,KV kvs vs/\h.DictAt (iZ P w) a vs ep
 | .dT ep kvs=>kvs.length≤sizeLine/\(a == kE)=false /\ ∃ xs:List (List aA×aD×aE),
   eR (fun(p:List aA×V) (q:List aA×aD×aE)=>p.1=q.1/\A4z H p.1 q.2.1/\RelV p.2 q.2.2) kvs xs /\
   ∃ o es,h.get? a=some o/\o.ExactDict/\o.data = .dict es ep/\es.toList=xs.map (entryOfKey (qS P w))/\(xs.map (·.1)).Nodup
 | .set S n=>h.SetOf (intKind P w) a S n
 | .ins C dx fs=>H dx=some (.own a)/\fs.length≤1000/\dx≠a/\h.get? a=some (Az C dx) /\
   ∃ mA,h.Ns1 dx mA/\(∀ f,A3g (fs.lookup f) (mA f))/\PySem.Within mA (fs.map (·.1))
 | .own _=>∃ o,h.get? a=some o
 | .xd fs=>∃ mA,h.Ns1 a mA /\ ∀ f,A3g (fs.lookup f) (mA f)
 | .rng lo hi=>∃ t u v,h.get? a=some { cls:=.type "range",data:=.fields #[.int lo t,.int hi u,.int 1 v] }
 | .frz o u=>h.get? a=some o/\Ac4 H h a u
 | .tbl ps=>h.get? a=some { cls:=.none,data:=.fields ps }
 | .met f x=>h.get? a=some (As (.ref f) (.ref x))
 | .ext φ=>φ h/\(∃ o,h.get? a=some o) /\ ∀ h1 h2:aU,φ h1->(∀ o,h1.get? a=some o->h2.get? a=some o)->φ h2
def HOk (H:Hp)(h:aU):Prop:=∀ a o,H a=some o->Ac4 P w H h a o
end
section
variable {P:bS}{w:bB}{H H':Hp}{h h':aU}{a:aD}{o:HO}
theorem Ac4.lt (x:Ac4 P w H h a o):a<h.objs.size:=by
 cases o with
 | lst xs=>obtain⟨_,_,_,_,e⟩:=x; exact cL e
 | tup xs=>obtain⟨_,_,_,p⟩:=x; exact p.1.lt
 | dK ep kvs=>obtain⟨_,_,_,_,o,_,e,_⟩:=x; exact cL e
 | dT ep kvs=>obtain⟨_,_,_,_,o,_,e,_⟩:=x; exact cL e
 | set S n=>obtain⟨o,_,_,_,e,_⟩:=x; exact cL e
 | ins C dx fs=>obtain⟨_,_,_,e,_⟩:=x; exact cL e
 | own y=>obtain⟨_,e⟩:=x; exact cL e
 | xd fs=>obtain⟨_,⟨_,_,_,e,_⟩,_⟩:=x; exact cL e
 | rng lo hi=>obtain⟨_,_,_,e⟩:=x; exact cL e
 | frz ob u=>obtain⟨e,_⟩:=x; exact cL e
 | tbl ps=>exact cL (show h.get? a=some _ from x)
 | met f y=>exact cL (show h.get? a=some _ from x)
 | ext φ=>obtain⟨_,⟨_,e⟩,_⟩:=x; exact cL e
theorem Paired.mapP {α β:Type}{F G:α->β->Prop} : ∀ {l₁:List α} {l₂:List β},eR F l₁ l₂->(∀ a b,F a b->G a b)->eR G l₁ l₂:=by
 intro l₁ l₂ h
 induction h with
 | nil=>exact fun _=>.nil
 | cons r _ ih=>exact fun f=>.cons (f _ _ r) (ih f)
theorem Ac4.stay (x:Ac4 P w H h a o)(k : ∀ b u,(b=a \/ H b=some (.own a))->h.get? b=some u->h'.get? b=some u)
  (ho : ∀ b,H b=some (.own a)->H' b=some (.own a)) (ht : ∀ b xs,H b=some (.tup xs)->H' b=some (.tup xs)):Ac4 P w H' h' a o:=by
 induction o with
 | lst xs=>obtain⟨z,its,n,r,e⟩:=x; exact⟨z,its,n,r,k _ _ (.inl rfl) e⟩
 | tup xs=>obtain⟨z,its,r,⟨ob,e,c⟩,ob2,e2,c2⟩:=x; exact⟨z,its,r,⟨ob,k _ _ (.inl rfl) e,c⟩,ob2,k _ _ (.inl rfl) e2,c2⟩
 | dK ep kvs=>obtain⟨z,y,vs,r,ob,es,e,c⟩:=x; exact⟨z,y,vs,r,ob,es,k _ _ (.inl rfl) e,c⟩
 | dT ep kvs=>
  obtain⟨z,y,xs,r,ob,es,e,c⟩:=x
  exact⟨z,y,xs,Paired.mapP r fun p q z=>⟨z.1,z.2.1.keep ht,z.2.2⟩,ob,es,k _ _ (.inl rfl) e,c⟩
 | set S n=>obtain⟨ob,es,ep,t,e,c⟩:=x; exact⟨ob,es,ep,t,k _ _ (.inl rfl) e,c⟩
 | ins C dx fs=>
  obtain⟨d,z,ne,e,mA,⟨od,es,ep,e2,c⟩,r⟩:=x
  exact⟨ho _ d,z,ne,k _ _ (.inl rfl) e,mA,⟨od,es,ep,k _ _ (.inr d) e2,c⟩,r⟩
 | own y=>obtain⟨ob,e⟩:=x; exact⟨ob,k _ _ (.inl rfl) e⟩
 | xd fs=>obtain⟨mA,⟨od,es,ep,e,c⟩,r⟩:=x; exact⟨mA,⟨od,es,ep,k _ _ (.inl rfl) e,c⟩,r⟩
 | rng lo hi=>obtain⟨t,u,v,e⟩:=x; exact⟨t,u,v,k _ _ (.inl rfl) e⟩
 | frz ob u ih=>obtain⟨e,q⟩:=x; exact⟨k _ _ (.inl rfl) e,ih q⟩
 | tbl ps=>
  have e:h.get? a=some { cls:=.none,data:=.fields ps }:=x
  show h'.get? a=some { cls:=.none,data:=.fields ps }
  exact k a _ (.inl rfl) e
 | met f y=>
  have e:h.get? a=some (As (.ref f) (.ref y)):=x
  show h'.get? a=some (As (.ref f) (.ref y))
  exact k a _ (.inl rfl) e
 | ext φ=>obtain⟨p,⟨o,e⟩,st⟩:=x; exact⟨st _ _ p fun o q=>k _ _ (.inl rfl) q,⟨o,k _ _ (.inl rfl) e⟩,st⟩
theorem HOk.lt (x:HOk P w H h)(e:H a=some o):a<h.objs.size:=(x a o e).lt
theorem HOk.fresh (x:HOk P w H h)(e:h.objs.size≤a):H a=none:=by
 cases q:H a with
 | none=>rfl
 | some u=>exact absurd (iQ (x.lt q) e) (mS _)
theorem HOk.kept (x:HOk P w H h)(k : ∀ b u,h.get? b=some u->h'.get? b=some u):HOk P w H h':=fun a o e=>
 (x a o e).stay (fun b u _ q=>k b u q) (fun _ q=>q) fun _ _ q=>q
theorem HOk.laid (x:HOk P w H h)(k : ∀ b u,h.get? b=some u->h'.get? b=some u)(hp:h.objs.size≤a)(new:Ac4 P w (upd H a o) h' a o):HOk P w (upd H a o) h':=fun b u e=>by
 have hn:=x.fresh hp
 by_cases hb:b=a
 ·subst hb; rw[kC] at e; cases e; exact new
 ·rw[fG hb] at e
  exact(x b u e).stay (fun c v _ q=>k c v q) (fun c q=>by rw[fG (nK q hn)]; exact q) fun c xs q=>by rw[fG (nK q hn)]; exact q
end
def Rd (H:Hp)(a:aD)(u:HO):Prop:=H a=some u \/ ∃ o,H a=some (.frz o u)
theorem Rd.ok {P:bS}{w:bB}{H:Hp}{h:aU}{a:aD}{u:HO}(r:Rd H a u)(x:HOk P w H h):Ac4 P w H h a u:=by
 rcases r with r | ⟨o,r⟩
 ·exact x a u r
 ·obtain⟨_,q⟩:=x a _ r
  exact q
def xR:Option HO->Prop
 | some (.lst _)=>True
 | some (.dK _ _)=>True
 | some (.dT _ _)=>True
 | some (.set _ _)=>True
 | some (.ins _ _ _)=>True
 | some (.ext _)=>True
 | _=>False
section
variable {P:bS}{w:bB}{H:Hp}{h h':aU}{x e:aD}{o':HO}
theorem HOk.write (ok:HOk P w H h)(mu:xR (H x))(he:e=x \/ H e=some (.own x))(k : ∀ b u,b≠e->h.get? b=some u->h'.get? b=some u)(heo : ∃ u,h'.get? e=some u)
  (new:Ac4 P w (upd H x o') h' x o'):HOk P w (upd H x o') h':=fun b u q=>by
 have nown : ∀ c y,H c=some (.own y)->c≠x:=fun c y r z=>by subst z; rw[r] at mu; exact mu
 have ntup : ∀ c xs,H c=some (.tup xs)->c≠x:=fun c xs r z=>by subst z; rw[r] at mu; exact mu
 by_cases hb:b=x
 ·subst hb; rw[kC] at q; cases q; exact new
 ·rw[fG hb] at q
  by_cases hbe:b=e
  ·have q':H b=some (.own x):=by
    rcases he with z | z
    ·exact absurd (hbe.trans z) hb
    ·rw[hbe]; exact z
   rw[q] at q'; cases q'
   obtain⟨v,hv⟩:=heo
   exact⟨v,by rw[hbe]; exact hv⟩
  ·refine(ok b u q).stay (fun c v hc r=>k c v ?_ r) (fun c r=>by rw[fG (nown c b r)]; exact r) fun c xs r=>by rw[fG (ntup c xs r)]; exact r
   rcases hc with rfl | hc
   ·exact hbe
   ·rintro rfl
    rcases he with z | z
    ·exact nown c b hc z
    ·rw[hc] at z; cases z; exact hb rfl
end
structure Un (fs ex:List aD)(H H':Hp)(h h':aU):Prop where
 keep : ∀ b o,h.get? b=some o->H b=none->b∉fs->b∉ex->h'.get? b=some o
 slot : ∀ b o,h.get? b=some o->H b=none->b∈fs->b∉ex -> ∃ sl,h'.get? b=some { o with slots:=sl }
 free : ∀ b o,h.get? b=some o->H b=none->b∉ex->H' b=none
 there : ∀ b o,h.get? b=some o->b∉ex -> ∃ o',h'.get? b=some o'
 tups : ∀ b xs,H b=some (.tup xs)->H' b=some (.tup xs)
 frzs : ∀ b o u,H b=some (.frz o u)->H' b=some (.frz o u)
 tbls : ∀ b ps,H b=some (.tbl ps) -> ∃ more,H' b=some (.tbl (ps++more))
section
variable {fs fs' ex ex':List aD}{H H1 H2:Hp}{h h1 h2 h':aU}{a x e:aD}{o:HO}
theorem Un.any (u:Un fs ex H H1 h h1){b:aD}{ob:aY}(q:h.get? b=some ob)(n:H b=none)(hx:b∉ex) : ∃ sl,h1.get? b=some { ob with slots:=sl }:=by
 by_cases hb:b∈fs
 ·exact u.slot b ob q n hb hx
 ·exact⟨ob.slots,u.keep b ob q n hb hx⟩
theorem Un.kept (k : ∀ b u,h.get? b=some u->h'.get? b=some u):Un fs ex H H h h':=
 ⟨fun b ob q _ _ _=>k b ob q,fun b ob q _ _ _=>⟨ob.slots,k b ob q⟩,fun _ _ _ n _=>n,fun b ob q _=>⟨ob,k b ob q⟩,fun _ _ q=>q,fun _ _ _ q=>q,fun _ ps q=>⟨#[],by rw[q]; simp⟩⟩
theorem Un.refl:Un fs ex H H h h:=Un.kept fun _ _ q=>q
theorem Un.laid (k : ∀ b u,h.get? b=some u->h'.get? b=some u)(hp:h.objs.size≤a)(hn:H a=none):Un fs ex H (upd H a o) h h' where
 keep:=fun b u q _ _ _=>k b u q
 slot:=fun b u q _ _ _=>⟨u.slots,k b u q⟩
 free:=fun b u q n _=>by rw[fG (cZ (iQ (cL q) hp))]; exact n
 there:=fun b u q _=>⟨u,k b u q⟩
 tups:=fun b xs q=>by rw[fG (nK q hn)]; exact q
 frzs:=fun b u xs q=>by rw[fG (nK q hn)]; exact q
 tbls:=fun b ps q=>⟨#[],by rw[fG (nK q hn),q]; simp⟩
theorem Un.write (mu:xR (H x))(he:e=x \/ H e=some (.own x))(k : ∀ b u,b≠e->h.get? b=some u->h'.get? b=some u)(heo : ∃ u,h'.get? e=some u):Un fs ex H (upd H x o) h h':=by
 have hx : ∀ b,H b=none->b≠x:=fun b n z=>by subst z; rw[n] at mu; exact mu
 have hb : ∀ b,H b=none->b≠e:=fun b n z=>by
  subst z
  rcases he with r | r
  ·exact hx b n r
  ·rw[n] at r; cases r
 have hm : ∀ b u,H b=some u -> ¬ xR (some u)->b≠x:=fun b u q nm z=>by subst z; rw[q] at mu; exact nm mu
 refine⟨fun b u q n _ _=>k b u (hb b n) q,fun b u q n _ _=>⟨u.slots,k b u (hb b n) q⟩,fun b u q n _=>by rw[fG (hx b n)]; exact n,fun b u q _=>?_,
  fun b xs q=>by rw[fG (hm b _ q fun z=>z)]; exact q,fun b u xs q=>by rw[fG (hm b _ q fun z=>z)]; exact q,fun b ps q=>⟨#[],by rw[fG (hm b _ q fun z=>z),q]; simp⟩⟩
 by_cases hbe:b=e
 ·subst hbe; exact heo
 ·exact⟨u,k b u hbe q⟩
end
noncomputable def trk (h:aU)(H:Hp):List aD:=(cR h.objs.size).filter fun a=>(H a).isSome
noncomputable def pO (h:aU)(H:Hp):aU:=PySem.W.hideAll h (trk h H)
theorem Xk (h:aU)(H:Hp):(pO h H).objs.size=h.objs.size:=PySem.W.hideAll_size _ _
theorem Ue {h:aU}{H:Hp}{b:aD}{o:aY}(e:h.get? b=some o)(n:H b=none):(pO h H).get? b=some o:=
 MB _ e fun hm=>by
  have q:(H b).isSome=true:=(GA.mp hm).2
  rw[n] at q; simp at q
theorem Ly {h:aU}{H:Hp}{b:aD}{o:aY}(e:(pO h H).get? b=some o):h.get? b=some o/\H b=none:=by
 have e':h.get? b=some o:=Ar (trk h H) e
 refine⟨e',?_⟩
 cases q:H b with
 | none=>rfl
 | some x=>
  have hm:b∈trk h H:=GA.mpr ⟨iG.mpr (cL e'),by simp[q]⟩
  have z:(pO h H).get? b=none:=PySem.W.hideAll_none (trk h H) hm
  rw[z] at e; cases e
noncomputable def Jx (g h:aU)(L:aD):List (aD×aY):=(cR h.objs.size).filterMap fun a=>if a=L \/ (g.get? a).isSome=true then none else(h.get? a).map fun o=>(a,o)
noncomputable def rest (g h:aU)(L d:aD):List (aD×aY):=(Jx g h L).filter fun p=>decide (p.1≠d)
structure Mod (K:aK)(mg:aB->Option aE)(base:aU):Prop where
 kin:K.In base
 glob:base.Ns cK mg
 blt : ∃ mb,base.Ns builtinsNs mb /\ ∀ x:aB,x ≠ "__name__" -> mb x=mO x
 nolimit:base.NoLimit
structure Cx where
 prog:bS
 w:bB
 K:aK
 mg:aB->Option aE
 base:aU
 A:cE
 N:List aB
 s₀:aG
 H₀:Hp
 env:eT
 outer:List eT
 stack:List eT
 ex:List aD
 fn:aB->Bool
 calm:Bool
 pn:List (aD×aY)
 xe:aE->aG->Prop
noncomputable def frs (l:List eT):List aD:=l.filterMap (·.frame)
noncomputable abbrev Cx.fs (X:Cx):List aD:=frs X.outer
def nU (sc:iP)(x:aB):Prop:=sc.names.lookup x=some .local \/ sc.names.lookup x=some .cell \/ sc.names.lookup x=some .free
def nV (sc:iP)(x:aB):Prop:=sc.names.lookup x=some .local \/ sc.names.lookup x=some .cell
def Look (env:eT)(h:aU)(m:aB->Option aE)(x:aB)(u:aE):Prop:=
 (env.kindOf x=some .local/\m x=some u) \/ ((env.kindOf x=some .cell \/ env.kindOf x=some .free) /\ ∃ c,env.cells.lookup x=some c/\h.IsCell c (some u))
structure Cx.Ok (X:Cx):Prop where
 mod:Mod X.K X.mg X.base
 kind:X.env.scope.kind = .function
 glob:X.env.globals=cK
 blt:X.env.builtins=builtinsNs
 above:X.s₀.heap.objs.size≤X.env.locals
 inj : ∀ x y c,X.env.cells.lookup x=some c->X.env.cells.lookup y=some c->x=y
 has : ∀ x,(X.env.kindOf x=some .cell \/ X.env.kindOf x=some .free) -> ∃ c,X.env.cells.lookup x=some c
 cab : ∀ x c,X.fn x=true->X.env.cells.lookup x=some c->X.s₀.heap.objs.size≤c
 hd:X.calm=true->X.A.handled=none
 frames:X.A.frames=some X.stack
 stk:X.stack=X.outer \/ (X.stack=X.env::X.outer/\X.env.frame=some X.env.locals)
 exf : ∀ b∈X.ex,b≠X.env.locals /\ ∀ x c,X.env.cells.lookup x=some c->c≠b
 bs : ∀ b o,X.base.get? b=some o->X.s₀.heap.get? b=some o/\X.H₀ b=none
 bsz:X.base.objs.size≤X.s₀.heap.objs.size
 noex : ∀ b o,X.base.get? b=some o->b∉X.ex
 exfs : ∀ b∈X.ex,b∉X.fs
 funs:X.s₀.heap.FunFrames X.base X.outer
 frf : ∀ b∈X.fs,X.H₀ b=none
structure Inv (X:Cx)(pins:List (aD×aY))(σ:List (Option V))(H:Hp)(s:aG):Prop where
 ok:X.Ok
 os:s.os=X.s₀.os
 bare:qC s.gens
 base:Un X.fs X.ex X.H₀ H X.s₀.heap s.heap
 loc : ∃ m,s.heap.Ns X.env.locals m /\ ∀ (i:Nat) (x:aB) (v:V),X.N[i]?=some x->σ[i]?=some (some v)->nU X.env.scope x -> ∃ u,RelV v u/\Look X.env s.heap m x u
 cell : ∀ x c,X.env.cells.lookup x=some c -> ∃ v,s.heap.IsCell c v
 free:H X.env.locals=none
 freeC : ∀ x c,X.env.cells.lookup x=some c->H c=none
 pin : ∀ p∈X.pn++pins,s.heap.get? p.1=some p.2/\H p.1=none/\p.1≠X.env.locals/\p.1∉X.fs /\ ∀ v,p.2.data ≠ .cell v
 hok:HOk X.prog X.w H s.heap
 len:σ.length=X.N.length
section
variable {X:Cx}{pins:List (aD×aY)}{σ:List (Option V)}{H H':Hp}{s:aG}{h':aU}
theorem Cx.Ok.nofr (ok:X.Ok){b:aD}{o:aY}(e:X.base.get? b=some o):b∉X.fs:=fun hb=>by
 have:=(ok.funs.mem hb).1
 rw[e] at this; cases this
theorem Inv.bs (I:Inv X pins σ H s) : ∀ b o,X.base.get? b=some o->s.heap.get? b=some o/\H b=none:=fun b o e=>
 ⟨I.base.keep b o (I.ok.bs b o e).1 (I.ok.bs b o e).2 (I.ok.nofr e) (I.ok.noex b o e),I.base.free b o (I.ok.bs b o e).1 (I.ok.bs b o e).2 (I.ok.noex b o e)⟩
theorem Inv.bk (I:Inv X pins σ H s) : ∀ b o,X.base.get? b=some o->s.heap.get? b=some o:=fun b o e=>(I.bs b o e).1
theorem Inv.mod (I:Inv X pins σ H s):Mod X.K X.mg X.base:=I.ok.mod
theorem Inv.kIn (I:Inv X pins σ H s):X.K.In s.heap:=I.ok.mod.kin.keeps I.bk
theorem Inv.lt (I:Inv X pins σ H s):X.env.locals<s.heap.objs.size:=let ⟨_,hn,_⟩:=I.loc; hn.lt
theorem Inv.sz (I:Inv X pins σ H s):X.s₀.heap.objs.size≤s.heap.objs.size:=jB I.ok.above (tY I.lt)
theorem Inv.nofs (I:Inv X pins σ H s){a:aD}(h:s.heap.objs.size≤a):a∉X.fs:=fun hb=>by
 obtain⟨_,o,ho,_⟩:=I.ok.funs.mem hb
 exact absurd (iQ (cL ho) (jB I.sz h)) (mS _)
theorem Inv.cne (I:Inv X pins σ H s) : ∀ x c,X.env.cells.lookup x=some c->c≠X.env.locals:=fun x c e z=>by
 obtain⟨v,o,ho,hd⟩:=I.cell x c e
 obtain⟨m,⟨o',es,ep,ho',hd',_⟩,_⟩:=I.loc
 rw[z,ho'] at ho; cases ho; rw[hd'] at hd; cases hd
theorem Inv.funs (I:Inv X pins σ H s):s.heap.FunFrames X.base X.outer:=by
 have all : ∀ (l:List eT),(∀ b∈frs l,b∈X.fs)->X.s₀.heap.FunFrames X.base l->s.heap.FunFrames X.base l:=by
  intro l
  induction l with
  | nil=>intro _ _; trivial
  | cons env r ih=>
   intro hs hl
   obtain⟨hk,⟨L,o,hf,hn,ho,hd⟩,hr⟩:=hl
   have hL:L∈X.fs:=hs L (by unfold frs; rw[Bx,hf]; exact bQ)
   obtain⟨sl,e⟩:=I.base.slot L o ho (I.ok.frf L hL) hL fun z=>I.ok.exfs L z hL
   exact⟨hk,⟨L,_,hf,hn,e,hd⟩,ih (fun b hb=>hs b (by unfold frs; rw[Bx,hf]; exact cA _ hb)) hr⟩
 exact all X.outer (fun _ hb=>hb) I.ok.funs
theorem Inv.stack (I:Inv X pins σ H s):s.heap.FunFrames X.base X.stack:=by
 rcases I.ok.stk with e | ⟨e,hf⟩
 ·rw[e]; exact I.funs
 ·rw[e]
  obtain⟨m,hn,_⟩:=I.loc
  refine .cons (by rw[I.ok.kind]; decide) hf hn ?_ I.funs
  exact Heap.get?_none_of_le (jB I.ok.bsz I.ok.above)
theorem Inv.stkSub (I:Inv X pins σ H s) : ∀ b∈frs X.stack,b∈X.env.locals::X.fs:=fun b hb=>by
 rcases I.ok.stk with e | ⟨e,hf⟩
 ·rw[e] at hb; exact cA _ hb
 ·rw[e] at hb
  unfold frs at hb
  rw[Bx,hf] at hb
  exact hb
theorem Inv.stkFree (I:Inv X pins σ H s) : ∀ b∈frs X.stack,H b=none:=fun b hb=>by
 rcases cN.mp (I.stkSub b hb) with e | hb
 ·rw[e]; exact I.free
 ·obtain⟨_,o,ho,_⟩:=I.ok.funs.mem hb
  exact I.base.free b o ho (I.ok.frf b hb) fun z=>I.ok.exfs b z hb
theorem Inv.step {g':Array xO}{t':Nat}{d':Drawn}{ch:List aD}(I:Inv X pins σ H s)
  (hch : ∀ b∈ch,(b∈X.ex \/ X.s₀.heap.objs.size≤b)/\b≠X.env.locals/\(∀ x c,X.env.cells.lookup x=some c->c≠b) /\ ∀ p∈X.pn++pins,p.1≠b)
  (keep : ∀ b o,b≠X.env.locals->b∉X.fs->b∉ch->s.heap.get? b=some o->H b=none->h'.get? b=some o)
  (slot : ∀ b o,b≠X.env.locals->b∈X.fs->b∉ch->s.heap.get? b=some o->H b=none -> ∃ sl,h'.get? b=some { o with slots:=sl }) (free : ∀ b o,b∉ch->s.heap.get? b=some o->H b=none->H' b=none)
  (there : ∀ b o,b∉ch->s.heap.get? b=some o -> ∃ o',h'.get? b=some o')
  (tups : ∀ b xs,H b=some (.tup xs)->H' b=some (.tup xs)) (frzs : ∀ b o u,H b=some (.frz o u)->H' b=some (.frz o u)) (tbls : ∀ b ps,H b=some (.tbl ps) -> ∃ more,H' b=some (.tbl (ps++more)))
  (ns : ∀ m,s.heap.Ns X.env.locals m->h'.Ns X.env.locals m) (hok:HOk X.prog X.w H' h') (hg:qC g') :
  Inv X pins σ H' { s with heap:=h',gens:=g',drawn:=d',toks:=t' }:=by
 have neL : ∀ b o,X.s₀.heap.get? b=some o->b≠X.env.locals:=fun b o e=>cZ (iQ (cL e) I.ok.above)
 have neC : ∀ b o,X.s₀.heap.get? b=some o->b∉X.ex->b∉ch:=fun b o e hx hb=>by
  rcases(hch b hb).1 with z | z
  ·exact hx z
  ·exact absurd (iQ (cL e) z) (mS _)
 have cellK : ∀ x c,X.env.cells.lookup x=some c -> ∀ v,s.heap.IsCell c v->h'.IsCell c v:=fun x c e v gh=>by
  obtain⟨o,ho,hd⟩:=gh
  have nch:c∉ch:=fun z=>(hch c z).2.2.1 x c e rfl
  by_cases hc:c∈X.fs
  ·obtain⟨sl,q⟩:=slot c o (I.cne x c e) hc nch ho (I.freeC x c e)
   exact⟨_,q,hd⟩
  ·exact⟨o,keep c o (I.cne x c e) hc nch ho (I.freeC x c e),hd⟩
 refine⟨I.ok,I.os,hg,⟨fun b o e n hb hx=>?_,fun b o e n hb hx=>?_,fun b o e n hx=>?_,fun b o e hx=>?_,fun b xs e=>tups b xs (I.base.tups b xs e),fun b o xs e=>frzs b o xs (I.base.frzs b o xs e),fun b ps e=>?_⟩,?_,fun x c e=>?_,?_,fun x c e=>?_,fun p hp=>?_,hok,I.len⟩
 ·exact keep b o (neL b o e) hb (neC b o e hx) (I.base.keep b o e n hb hx) (I.base.free b o e n hx)
 ·obtain⟨sl,e1⟩:=I.base.slot b o e n hb hx
  obtain⟨sl',e2⟩:=slot b _ (neL b o e) hb (neC b o e hx) e1 (I.base.free b o e n hx)
  exact⟨sl',e2⟩
 ·obtain⟨o',e1⟩:=I.base.there b o e hx
  exact free b o' (neC b o e hx) e1 (I.base.free b o e n hx)
 ·obtain⟨o',e1⟩:=I.base.there b o e hx
  exact there b o' (neC b o e hx) e1
 ·obtain⟨m1,e1⟩:=I.base.tbls b ps e
  obtain⟨m2,e2⟩:=tbls b _ e1
  exact⟨m1++m2,by rw[e2,Array.append_assoc]⟩
 ·obtain⟨m,hn,hl⟩:=I.loc
  refine⟨m,ns m hn,fun i x v e1 e2 e3=>?_⟩
  obtain⟨u,r,l⟩:=hl i x v e1 e2 e3
  refine⟨u,r,?_⟩
  rcases l with l | ⟨k,c,e,z⟩
  ·exact .inl l
  ·exact .inr ⟨k,c,e,cellK x c e _ z⟩
 ·obtain⟨v,z⟩:=I.cell x c e
  exact⟨v,cellK x c e v z⟩
 ·obtain⟨m,⟨o,_,_,ho,_⟩,_⟩:=I.loc
  exact free _ o (fun z=>(hch _ z).2.1 rfl) ho I.free
 ·obtain⟨v,o,ho,hd⟩:=I.cell x c e
  exact free c o (fun z=>(hch c z).2.2.1 x c e rfl) ho (I.freeC x c e)
 ·obtain⟨e,n,ne,nf,d⟩:=I.pin p hp
  have nch:p.1∉ch:=fun z=>(hch p.1 z).2.2.2 p hp rfl
  exact⟨keep p.1 p.2 ne nf nch e n,free p.1 p.2 nch e n,ne,nf,d⟩
theorem Inv.un {t':Nat}(I:Inv X pins σ H s)(u:Un X.fs [] H H' s.heap h')(hok:HOk X.prog X.w H' h'):Inv X pins σ H' { s with heap:=h',toks:=t' }:=by
 obtain⟨m,⟨o,es,ep,ho,r⟩,_⟩:=id I.loc
 obtain⟨sl,hL⟩:=u.any ho I.free (by simp)
 exact I.step (g':=s.gens) (d':=s.drawn) (ch:=[]) (fun _ z=>nomatch z) (fun b o _ hb _ e n=>u.keep b o e n hb (by simp)) (fun b o _ hb _ e n=>u.slot b o e n hb (by simp)) (fun b o _ e n=>u.free b o e n (by simp)) (fun b o _ e=>u.there b o e (by simp)) u.tups u.frzs u.tbls (fun m' hm=>by
  obtain⟨o',es',ep',ho',r'⟩:=hm
  rw[ho] at ho'; cases ho'
  exact⟨_,es',ep',hL,r'⟩) hok I.bare
theorem Inv.call {g':Array xO}{t':Nat}{d':Drawn}{ch:List aD}(I:Inv X pins σ H s)(u:Un (frs X.stack) ch H H' s.heap h')(hok:HOk X.prog X.w H' h')(hg:qC g')
  (hch : ∀ b∈ch,(b∈X.ex \/ X.s₀.heap.objs.size≤b)/\b≠X.env.locals/\(∀ x c,X.env.cells.lookup x=some c->c≠b) /\ ∀ p∈X.pn++pins,p.1≠b) :
  Inv X pins σ H' { s with heap:=h',gens:=g',drawn:=d',toks:=t' }:=by
 obtain⟨m,⟨o,es,ep,ho,r⟩,_⟩:=id I.loc
 obtain⟨sl,hL⟩:=u.any ho I.free fun z=>(hch _ z).2.1 rfl
 exact I.step (ch:=ch) hch (fun b o hL hb hc e n=>u.keep b o e n (fun z=>(cN.mp (I.stkSub b z)).elim hL hb) hc) (fun b o _ _ hc e n=>u.any e n hc) (fun b o hc e n=>u.free b o e n hc) (fun b o hc e=>u.there b o e hc) u.tups u.frzs u.tbls (fun m' hm=>by
  obtain⟨o',es',ep',ho',r'⟩:=hm
  rw[ho] at ho'; cases ho'
  exact⟨_,es',ep',hL,r'⟩) hok hg
theorem Inv.turned {t':Nat}{it:aD}(I:Inv X pins σ H s)(k : ∀ b o,b≠it->s.heap.get? b=some o->h'.get? b=some o)(hn:H it=none)(hL:it≠X.env.locals)
  (h1:it∈X.ex \/ X.s₀.heap.objs.size≤it) (h2 : ∀ x c,X.env.cells.lookup x=some c->c≠it) (h3 : ∀ p∈X.pn++pins,p.1≠it):Inv X pins σ H { s with heap:=h',toks:=t' }:=by
 have nit : ∀ b u,H b=some u->b≠it:=fun b u e z=>by rw[z,hn] at e; cases e
 refine I.step (g':=s.gens) (d':=s.drawn) (ch:=[it]) (fun b hb=>?_) (fun b o _ _ hc e _=>k b o (fun z=>hc (by simp[z])) e) (fun b o _ _ hc e _=>⟨o.slots,k b o (fun z=>hc (by simp[z])) e⟩) (fun _ _ _ _ n=>n)
  (fun b o hc e=>⟨o,k b o (fun z=>hc (by simp[z])) e⟩) (fun _ _ e=>e) (fun _ _ _ e=>e) (fun b ps e=>⟨#[],by rw[e]; simp⟩) (fun m hm=>?_) (fun b u e=>?_) I.bare
 ·have e:b=it:=by simpa using hb
  subst e
  exact⟨h1,hL,h2,h3⟩
 ·obtain⟨o,es,ep,ho,r⟩:=hm
  exact⟨o,es,ep,k _ o (lH hL) ho,r⟩
 ·refine(I.hok b u e).stay (fun c v hc q=>k c v ?_ q) (fun _ q=>q) fun _ _ q=>q
  rcases hc with z | z
  ·rw[z]; exact nit b u e
  ·exact nit c _ z
theorem Inv.tok (I:Inv X pins σ H s)(t:Nat):Inv X pins σ H { s with toks:=t }:=I.un (h':=s.heap) (t':=t) Un.refl I.hok
theorem Inv.kept {t':Nat}(I:Inv X pins σ H s)(k : ∀ b u,s.heap.get? b=some u->h'.get? b=some u):Inv X pins σ H { s with heap:=h',toks:=t' }:=I.un (Un.kept k) (I.hok.kept k)
theorem Inv.laid {a:aD}{o:HO}{t':Nat}(I:Inv X pins σ H s)(k : ∀ b u,s.heap.get? b=some u->h'.get? b=some u)(hp:s.heap.objs.size≤a)(new:Ac4 X.prog X.w (upd H a o) h' a o) :
  Inv X pins σ (upd H a o) { s with heap:=h',toks:=t' }:=I.un (Un.laid k hp (I.hok.fresh hp)) (I.hok.laid k hp new)
theorem Inv.write {x e:aD}{o:HO}{t':Nat}(I:Inv X pins σ H s)(mu:xR (H x))(he:e=x \/ H e=some (.own x))(k : ∀ b u,b≠e->s.heap.get? b=some u->h'.get? b=some u)(heo : ∃ u,h'.get? e=some u)
  (new:Ac4 X.prog X.w (upd H x o) h' x o):Inv X pins σ (upd H x o) { s with heap:=h',toks:=t' }:=I.un (Un.write mu he k heo) (I.hok.write mu he k heo new)
theorem Inv.pins_of {pins':List (aD×aY)}(I:Inv X pins σ H s)(h : ∀ p∈pins',s.heap.get? p.1=some p.2/\H p.1=none/\p.1≠X.env.locals/\p.1∉X.fs /\ ∀ v,p.2.data ≠ .cell v):Inv X pins' σ H s:=
 ⟨I.ok,I.os,I.bare,I.base,I.loc,I.cell,I.free,I.freeC,fun p hp=>(iR.mp hp).elim (fun z=>I.pin p (tZ _ z)) (h p),I.hok,I.len⟩
theorem RZ {N:List aB}(hN:N.Nodup){i j:Nat}{x:aB}(a:N[i]?=some x)(b:N[j]?=some x):i=j:=by
 obtain⟨h1,e1⟩:=fN.mp a
 obtain⟨h2,e2⟩:=fN.mp b
 exact(List.getElem_inj hN).mp (e1.trans e2.symm)
theorem TU {M:Model}{A:cE}{E:aE->aG->Prop}{i:Nat}{x:aB}{v:V}{u:aE}{Q:Unit->aG->Prop}(I:Inv X pins σ H s)(hN:X.N.Nodup)(hi:X.N[i]?=some x)(hx:nV X.env.scope x)(r:RelV v u)
  (h : ∀ s',Inv X pins (σ.set i (some v)) H s'->(∃ a,oW a s.heap s'.heap/\(a=X.env.locals \/ X.env.cells.lookup x=some a))->Q () s') (hf:X.fn x=true \/ X.env.scope.names.lookup x=some .local:=by first | exact .inl rfl | exact .inr rfl | assumption):aN M A (storeName X.env x u) Q E s:=by
 obtain⟨m,hn,hl⟩:=id I.loc
 have hcls:(X.env.scope.kind == .class||(X.env.scope.kind == .module&&X.env.locals != X.env.globals))=false:=by rw[I.ok.kind]; rfl
 have hiσ:i<σ.length:=by rw[I.len]; exact(fN.mp hi).1
 have cne:=I.cne
 have tracked : ∀ {a:aD} {h':aU},(∃ o,s.heap.get? a=some o/\H a=none)->oW a s.heap h'->HOk X.prog X.w H h':=fun {a h'} ha hs b ob e=>by
  obtain⟨_,_,hfree⟩:=ha
  refine(I.hok b ob e).stay (fun c w' hc q=>(hs.2 c ?_).trans q) (fun _ q=>q) fun _ _ q=>q
  rintro rfl
  rcases hc with rfl | hc
  ·rw[hfree] at e; cases e
  ·rw[hfree] at hc; cases hc
 rcases hx with hk | hk
 ·refine wpAny_storeName_local hk hn (fun h' hn' hs=>?_) hcls
  obtain⟨oL,_,_,hoL,_⟩:=id hn
  refine h _ ⟨I.ok,I.os,I.bare,⟨fun b o e n hb hx=>?_,fun b o e n hb hx=>?_,I.base.free,fun b o e hx=>?_,I.base.tups,I.base.frzs,I.base.tbls⟩,⟨_,hn',fun j y v' e1 e2 e3=>?_⟩,fun y c e=>?_,I.free,I.freeC,fun p hp=>?_,tracked ⟨oL,hoL,I.free⟩ hs,by simpa using I.len⟩ ⟨_,hs,.inl rfl⟩
  ·exact(hs.2 b (cZ (iQ (cL e) I.ok.above))).trans (I.base.keep b o e n hb hx)
  ·obtain⟨sl,e1⟩:=I.base.slot b o e n hb hx
   exact⟨sl,(hs.2 b (cZ (iQ (cL e) I.ok.above))).trans e1⟩
  ·obtain⟨o',e1⟩:=I.base.there b o e hx
   exact⟨o',(hs.2 b (cZ (iQ (cL e) I.ok.above))).trans e1⟩
  ·by_cases hj:j=i
   ·subst hj
    rw[hi] at e1; cases e1
    rw[rP hiσ] at e2
    cases e2
    exact⟨u,r,.inl ⟨hk,by simp⟩⟩
   ·rw[rQ (lH hj)] at e2
    obtain⟨u',r',q⟩:=hl j y v' e1 e2 e3
    refine⟨u',r',?_⟩
    rcases q with⟨k,e⟩ | ⟨k,c,e,z⟩
    ·refine .inl ⟨k,?_⟩
     have:y≠x:=fun e=>hj (RZ hN e1 (e ▸ hi))
     simp[this,e]
    ·exact .inr ⟨k,c,e,z.sameBut hs (cne y c e)⟩
  ·obtain⟨w',z⟩:=I.cell y c e
   exact⟨w',z.sameBut hs (cne y c e)⟩
  ·obtain⟨e,n,ne,nf,d⟩:=I.pin p hp
   exact⟨(hs.2 p.1 ne).trans e,n,ne,nf,d⟩
 ·have hfn:X.fn x=true:=by
   rcases hf with z | z
   ·exact z
   ·rw[z] at hk; cases hk
  obtain⟨c,hc⟩:=I.ok.has x (.inl hk)
  obtain⟨w',z⟩:=I.cell x c hc
  refine wpAny_storeName_cell I.ok.kind hk hc z (fun h' hc' hs=>?_)
  obtain⟨oc,hoc,hocd⟩:=id z
  refine h { s with heap:=h' } ⟨I.ok,I.os,I.bare,⟨fun b o e n hb hx=>?_,fun b o e n hb hx=>?_,I.base.free,fun b o e hx=>?_,I.base.tups,I.base.frzs,I.base.tbls⟩,⟨m,hn.sameBut hs (lH (cne x c hc)),fun j y v' e1 e2 e3=>?_⟩,fun y c' e=>?_,I.free,I.freeC,fun p hp=>?_,tracked ⟨oc,hoc,I.freeC x c hc⟩ hs,by simpa using I.len⟩ ⟨c,hs,.inr hc⟩
  ·exact(hs.2 b (cZ (iQ (cL e) (I.ok.cab x c hfn hc)))).trans (I.base.keep b o e n hb hx)
  ·obtain⟨sl,e1⟩:=I.base.slot b o e n hb hx
   exact⟨sl,(hs.2 b (cZ (iQ (cL e) (I.ok.cab x c hfn hc)))).trans e1⟩
  ·obtain⟨o',e1⟩:=I.base.there b o e hx
   exact⟨o',(hs.2 b (cZ (iQ (cL e) (I.ok.cab x c hfn hc)))).trans e1⟩
  ·by_cases hj:j=i
   ·subst hj
    rw[hi] at e1; cases e1
    rw[rP hiσ] at e2
    cases e2
    exact⟨u,r,.inr ⟨.inl hk,c,hc,hc'⟩⟩
   ·rw[rQ (lH hj)] at e2
    obtain⟨u',r',q⟩:=hl j y v' e1 e2 e3
    refine⟨u',r',?_⟩
    rcases q with q | ⟨k,c',e,z'⟩
    ·exact .inl q
    ·refine .inr ⟨k,c',e,z'.sameBut hs ?_⟩
     rintro rfl
     exact hj (RZ hN e1 (I.ok.inj _ _ _ e hc ▸ hi))
  ·by_cases hcc:c'=c
   ·subst hcc; exact⟨_,hc'⟩
   ·obtain⟨w2,z2⟩:=I.cell y c' e
    exact⟨w2,z2.sameBut hs hcc⟩
  ·obtain⟨e,n,ne,nf,d⟩:=I.pin p hp
   refine⟨(hs.2 p.1 ?_).trans e,n,ne,nf,d⟩
   intro q
   rw[q,hoc] at e
   have q':oc=p.2:=gU e
   exact d w' (by rw[← q']; exact hocd)
theorem SE {M:Model}{A:cE}{E:aE->aG->Prop}{i:Nat}{x:aB}{v:V}{u:aE}{Q:Unit->aG->Prop}(I:Inv X pins σ H s)(hN:X.N.Nodup)(hi:X.N[i]?=some x)(hx:nV X.env.scope x)(r:RelV v u)
  (h : ∀ s',Inv X pins (σ.set i (some v)) H s'->Q () s') (hf:X.fn x=true \/ X.env.scope.names.lookup x=some .local:=by first | exact .inl rfl | exact .inr rfl | assumption):aN M A (storeName X.env x u) Q E s:=
 TU I hN hi hx r (fun s' I' _=>h s' I') hf
theorem Inv.call' {s':aG}{ch:List aD}(I:Inv X pins σ H s)(ho:s'.os=s.os)(u:Un (frs X.stack) ch H H' s.heap s'.heap)(hok:HOk X.prog X.w H' s'.heap)(hg:qC s'.gens)
  (hch : ∀ b∈ch,(b∈X.ex \/ X.s₀.heap.objs.size≤b)/\b≠X.env.locals/\(∀ x c,X.env.cells.lookup x=some c->c≠b) /\ ∀ p∈X.pn++pins,p.1≠b):Inv X pins σ H' s':=by
 obtain⟨h',g',d',t',o'⟩:=s'
 have e:o'=s.os:=ho
 subst e
 exact I.call (g':=g') (t':=t') (d':=d') u hok hg hch
end
abbrev XK:=aE->Option aD->Hp->Prop
abbrev St:=List (Option V)
abbrev VK:=V->Hp->Prop
abbrev TE:=St->Hp->VK->Prop
abbrev TT:=St->Hp->(Bool->Hp->Prop)->Prop
abbrev TA:=St->Hp->(List V->Hp->Prop)->Prop
structure Ends where
 nx:St->Hp->Prop
 rt:VK
 bk:St->Hp->Prop:=fun _ _=>False
 ct:St->Hp->Prop:=fun _ _=>False
abbrev TS:=Ends->St->Hp->Prop
def EP (X:Cx)(pins:List (aD×aY))(σ:St)(Q:VK)(u:aE)(s':aG):Prop:=∃ v H',Inv X pins σ H' s'/\RelV v u/\Q v H'
def TP (X:Cx)(pins:List (aD×aY))(σ:St)(Q:Bool->Hp->Prop)(b:Bool)(s':aG):Prop:=∃ H',Inv X pins σ H' s'/\Q b H'
def AP (X:Cx)(pins:List (aD×aY))(σ:St)(Q:List V->Hp->Prop)(us:List aE)(s':aG):Prop:=∃ vs H',Inv X pins σ H' s'/\Vals vs us/\Q vs H'
def SP (X:Cx)(pins:List (aD×aY))(D:Ends)(f:Flow)(s':aG):Prop:=
 match f with
 | .next=>∃ σ' H',Inv X pins σ' H' s'/\D.nx σ' H'
 | .brk=>∃ σ' H',Inv X pins σ' H' s'/\D.bk σ' H'
 | .cont=>∃ σ' H',Inv X pins σ' H' s'/\D.ct σ' H'
 | .ret u=>∃ v σ' H',Inv X pins σ' H' s'/\RelV v u/\D.rt v H'
def PE (X:Cx)(e:aW)(t:TE):Prop:=
 ∀ (pins:List (aD×aY)) (s:aG) (σ:St) (H:Hp) (Q:VK),Inv X pins σ H s->t σ H Q->aN (aR X.prog X.w) X.A (bZ e X.env) (EP X pins σ Q) X.xe s
def PT (X:Cx)(e:aW)(t:TT):Prop:=
 ∀ (pins:List (aD×aY)) (s:aG) (σ:St) (H:Hp) (Q:Bool->Hp->Prop),Inv X pins σ H s->t σ H Q->aN (aR X.prog X.w) X.A (isTrue e X.env (bZ e X.env)) (TP X pins σ Q) X.xe s
def PW (X:Cx)(e:aW)(t:TT):Prop:=
 ∀ (whole:Sem aE) (pins:List (aD×aY)) (s:aG) (σ:St) (H:Hp) (Q:Bool->Hp->Prop),Inv X pins σ H s->t σ H Q->aN (aR X.prog X.w) X.A (isTrue e X.env whole) (TP X pins σ Q) X.xe s
theorem PW.pt {X:Cx}{e:aW}{t:TT}(h:PW X e t):PT X e t:=h _
def PA (X:Cx)(es:List aW)(t:TA):Prop:=
 ∀ (pos:cC) (pins:List (aD×aY)) (s:aG) (σ:St) (H:Hp) (Q:List V->Hp->Prop),Inv X pins σ H s->t σ H Q->aN (aR X.prog X.w) X.A (spliced (eM pos (bI es X.env))) (AP X pins σ Q) X.xe s
def PS (X:Cx)(st:bR)(t:TS):Prop:=
 ∀ (pins:List (aD×aY)) (s:aG) (σ:St) (H:Hp) (D:Ends),Inv X pins σ H s->t D σ H->aN (aR X.prog X.w) X.A (exec st X.env) (SP X pins D) X.xe s
def PSs (X:Cx)(st:List bR)(t:TS):Prop:=
 ∀ (pins:List (aD×aY)) (s:aG) (σ:St) (H:Hp) (D:Ends),Inv X pins σ H s->t D σ H->aN (aR X.prog X.w) X.A (execs st X.env) (SP X pins D) X.xe s
theorem thn {α:Type}{t:Sem α}{Q Q':α->aG->Prop}{M:Model}{A:cE}{E:aE->aG->Prop}{s:aG}(h:aN M A t Q E s)(hQ : ∀ a s,Q a s->Q' a s):aN M A t Q' E s:=kW h hQ fun _ _ x=>x
section
variable {X:Cx}
noncomputable abbrev Do (i:Nat):TE:=fun σ H Q=>∃ v,σ[i]?=some (some v)/\Q v H
noncomputable abbrev tC (v:V):TE:=fun _ H Q=>Q v H
theorem sN {i:Nat}{x:aB}{pos:cC}(hN:X.N[i]?=some x)(hv:nU X.env.scope x)(hd:(x == ("__debug__" : aB))=false:=by decide)(hcd:(x == ("__classdict__" : aB))=false:=by decide):PE X (.Name x pos) (Do i):=by
 intro pins s σ H Q I h
 obtain⟨v,e,h⟩:=h
 obtain⟨m,hn,hl⟩:=I.loc
 obtain⟨u,r,l⟩:=hl i x v hN e hv
 have fin:EP X pins σ Q u s:=⟨v,H,I,r,h⟩
 rcases l with⟨hk,hm⟩ | ⟨hk,c,hc,hcell⟩
 ·exact wpAny_Name (wpAny_loadName_local I.ok.kind hk hn hm fin) hd
 ·rcases hk with hk | hk
  ·exact wpAny_Name (wpAny_loadName_cell I.ok.kind hk hc hcell fin) hd
  ·exact wpAny_Name (wpAny_loadName_free I.ok.kind hk hc hcell fin hcd) hd
theorem Hy {i j pos}:PE X (.Constant (.int i) j pos) (tC (.int i)):=fun _ _ _ H _ I h=>wpAny_Constant_int ⟨.int i,H,I.tok _,⟨_,rfl⟩,h⟩
theorem Fi {b j pos}:PE X (.Constant (.bool b) j pos) (tC (.bl b)):=fun _ _ _ H _ I h=>Constant_bool ⟨.bl b,H,I,rfl,h⟩
theorem Jd {j pos}:PE X (.Constant .none j pos) (tC .non):=fun _ _ _ H _ I h=>Constant_none ⟨.non,H,I,rfl,h⟩
theorem PL {x j pos}:PE X (.Constant (.str x) j pos) (tC (.str x)):=fun _ _ _ H _ I h=>Calls.Constant_str ⟨.str x,H,I.tok _,⟨_,rfl⟩,h⟩
def Gl (X:Cx)(x:aB):Prop:=X.env.kindOf x=some .globalImplicit
theorem vN {E:aE->aG->Prop}{pins:List (aD×aY)}{s:aG}{σ:St}{H:Hp}{x:aB}{u:aE}{pos:cC}{Q:aE->aG->Prop}(I:Inv X pins σ H s)(hg:Gl X x)(hm:X.mg x=some u)(h:Q u s)
  (hd:(x == ("__debug__" : aB))=false:=by decide):aN (aR X.prog X.w) X.A (bZ (.Name x pos) X.env) Q E s:=
 Calls.Name_function_global I.ok.kind hg (Calls.loadGlobal_global (by rw[I.ok.glob]; exact I.mod.glob.keeps I.bk) hm h) hd
theorem CD {E:aE->aG->Prop}{pins:List (aD×aY)}{s:aG}{σ:St}{H:Hp}{x:aB}{u:aE}{pos:cC}{Q:aE->aG->Prop}(I:Inv X pins σ H s)(hg:Gl X x)(hm:X.mg x=none)(hv:mO x=some u)(h:Q u s)
  (hn:x ≠ "__name__":=by decide) (hd:(x == ("__debug__" : aB))=false:=by decide):aN (aR X.prog X.w) X.A (bZ (.Name x pos) X.env) Q E s:=by
 obtain⟨mb,h1,h2⟩:=I.mod.blt
 exact Calls.Name_function_global I.ok.kind hg (Calls.loadGlobal_builtin (by rw[I.ok.glob]; exact I.mod.glob.keeps I.bk) hm (by rw[I.ok.blt]; exact h1.keeps I.bk) ((h2 x hn).trans hv) h) hd
theorem QF {x:aB}{v:V}{u:aE}{pos:cC}(hg:Gl X x)(hm:X.mg x=some u)(r:RelV v u)(hd:(x == ("__debug__" : aB))=false:=by decide):PE X (.Name x pos) (tC v):=
 fun _ _ _ H _ I h=>vN I hg hm ⟨v,H,I,r,h⟩ hd
theorem Mg {x:aB}{v:V}{u:aE}{pos:cC}(hg:Gl X x)(hm:X.mg x=none)(hv:mO x=some u)(r:RelV v u)(hn:x ≠ "__name__":=by decide)(hd:(x == ("__debug__" : aB))=false:=by decide):PE X (.Name x pos) (tC v):=
 fun _ _ _ H _ I h=>CD I hg hm hv ⟨v,H,I,r,h⟩ hn hd
variable {a b:aW}{ta tb:TE}{pos:cC}
noncomputable def tB (t:TE):TT:=fun σ H Q=>t σ H fun x H1=>∃ c,x = .bl c/\Q c H1
theorem Jg {e:aW}{t:TE}(h:PE X e t)(he : ∀ whole,isTrue e X.env whole=(do let v ← whole; standAt e.pos; rJ [v] (truthy v)):=by intro _; rfl):PT X e (tB t):=by
 intro pins s σ H Q I hw
 refine isTrue_plain (thn (h pins s σ H _ I hw) fun v s1 ⟨x,H1,I1,r1,q1⟩=>?_) (he _)
 obtain⟨d,rfl,q⟩:=q1
 cases r1
 exact tN ⟨H1,I1,q⟩
variable {tA tB':TT}{rest:List aW}
noncomputable def Dh (t u:TT):TT:=fun σ H Q=>t σ H fun c H1=>if c=true then u σ H1 Q else Q false H1
noncomputable def tOr (t u:TT):TT:=fun σ H Q=>t σ H fun c H1=>if c=true then Q true H1 else u σ H1 Q
noncomputable def Dp (t:TT):TT:=fun σ H Q=>t σ H fun c H1=>Q (!c) H1
theorem Kl (ha:PT X a tA):PW X (.BoolOp .And [a] pos) tA:=by
 intro wh pins s σ H Q I h
 refine isTrue_and (thn (ha pins s σ H Q I h) fun c s1 e=>?_)
 cases c with
 | true=>exact isTrue_and_nil e
 | false=>exact e
theorem Gn (ha:PT X a tA):PW X (.BoolOp .Or [a] pos) tA:=by
 intro wh pins s σ H Q I h
 refine isTrue_or (thn (ha pins s σ H Q I h) fun c s1 e=>?_)
 cases c with
 | false=>exact isTrue_or_nil e
 | true=>exact e
theorem Gf (ha:PT X a tA)(hb:PW X (.BoolOp .And (b::rest) pos) tB'):PW X (.BoolOp .And (a::b::rest) pos) (Dh tA tB'):=by
 intro wh pins s σ H Q I h
 refine isTrue_and (thn (ha pins s σ H _ I h) fun c s1 gh=>?_)
 obtain⟨H1,I1,q1⟩:=gh
 cases c with
 | true=>exact hb wh pins s1 σ H1 Q I1 q1
 | false=>exact⟨H1,I1,q1⟩
theorem En (ha:PT X a tA)(hb:PW X (.BoolOp .Or (b::rest) pos) tB'):PW X (.BoolOp .Or (a::b::rest) pos) (tOr tA tB'):=by
 intro wh pins s σ H Q I h
 refine isTrue_or (thn (ha pins s σ H _ I h) fun c s1 gh=>?_)
 obtain⟨H1,I1,q1⟩:=gh
 cases c with
 | true=>exact⟨H1,I1,q1⟩
 | false=>exact hb wh pins s1 σ H1 Q I1 q1
theorem Im (ha:PT X a tA):PT X (.UnaryOp .Not a pos) (Dp tA):=by
 intro pins s σ H Q I h
 exact isTrue_not (ha pins s σ H (fun c H1=>Q (!c) H1) I h)
noncomputable def Ek (ta tb:TE):TE:=fun σ H Q=>ta σ H fun x H1=>∃ c,x = .bl c/\if c=true then tb σ H1 Q else Q (.bl false) H1
noncomputable def Dv (ta tb:TE):TE:=fun σ H Q=>ta σ H fun x H1=>∃ c,x = .bl c/\if c=true then Q (.bl true) H1 else tb σ H1 Q
noncomputable def Fd (ta:TE):TE:=fun σ H Q=>ta σ H fun x H1=>∃ c,x = .bl c/\Q (.bl (!c)) H1
theorem Hn {op}{t:TE}(h:PE X a t):PE X (.BoolOp op [a] pos) t:=fun pins s σ H Q I hw=>BoolOp_one (h pins s σ H Q I hw)
theorem Hc (ha:PE X a ta)(hb:PE X (.BoolOp .And (b::rest) pos) tb):PE X (.BoolOp .And (a::b::rest) pos) (Ek ta tb):=by
 intro pins s σ H Q I h
 refine BoolOp_and (thn (ha pins s σ H _ I h) fun v s1 gh=>?_)
 obtain⟨x,H1,I1,r1,q1⟩:=gh
 obtain⟨c,rfl,q1⟩:=q1
 cases r1
 refine tN ?_
 cases c with
 | true=>exact hb pins s1 σ H1 Q I1 q1
 | false=>exact⟨.bl false,H1,I1,rfl,q1⟩
theorem Ff (ha:PE X a ta)(hb:PE X (.BoolOp .Or (b::rest) pos) tb):PE X (.BoolOp .Or (a::b::rest) pos) (Dv ta tb):=by
 intro pins s σ H Q I h
 refine BoolOp_or (thn (ha pins s σ H _ I h) fun v s1 gh=>?_)
 obtain⟨x,H1,I1,r1,q1⟩:=gh
 obtain⟨c,rfl,q1⟩:=q1
 cases r1
 refine tN ?_
 cases c with
 | false=>exact hb pins s1 σ H1 Q I1 q1
 | true=>exact⟨.bl true,H1,I1,rfl,q1⟩
theorem Gq (ha:PE X a ta):PE X (.UnaryOp .Not a pos) (Fd ta):=by
 intro pins s σ H Q I h
 refine UnaryOp_ (thn (ha pins s σ H _ I h) fun v s1 gh=>?_)
 obtain⟨x,H1,I1,r1,q1⟩:=gh
 obtain⟨c,rfl,q1⟩:=q1
 cases r1
 exact not_of (tN ⟨.bl (!c),H1,I1,rfl,q1⟩)
noncomputable def tIf (t:TT)(ta tb:TE):TE:=fun σ H Q=>t σ H fun c H1=>if c=true then ta σ H1 Q else tb σ H1 Q
theorem Vf {c:aW}(hc:PT X c tA)(ha:PE X a ta)(hb:PE X b tb):PE X (.IfExp c a b pos) (tIf tA ta tb):=by
 intro pins s σ H Q I h
 refine wpAny_IfExp (thn (hc pins s σ H _ I h) fun d s1 gh=>?_)
 obtain⟨H1,I1,q1⟩:=gh
 cases d with
 | true=>exact ha pins s1 σ H1 Q I1 q1
 | false=>exact hb pins s1 σ H1 Q I1 q1
end
def SqL (K:aK)(H:Hp)(a:aD)(xs:List V):Prop:=
 Rd H a (.lst xs) \/
  ∃ (o:aY) (its:Array aE) (n:Nat),K.lookup a=some o/\o.cls = .type "list" /\ o.dict=none/\o.data = .seq its n/\its.size≤sizeLine/\Vals xs its.toList
def SqT (K:aK)(H:Hp)(a:aD)(xs:List V):Prop:=
 Rd H a (.tup xs) \/
  ∃ (o:aY) (its:Array aE) (n:Nat),K.lookup a=some o/\o.cls = .type "tuple" /\ o.data = .seq its n/\its.size≤sizeLine/\Vals xs its.toList
noncomputable def Dl:aE->Option V
 | .none=>some .non
 | .bool b=>some (.bl b)
 | .int i _=>some (.int i)
 | .str x _=>some (.str x)
 | .bytes b _=>some (.byt b)
 | .float b _=>some (.flt b)
 | .ref a=>some (.ref a)
 | .type n=>some (.ty n)
 | _=>none
theorem RelV.abs {x:V}{u:aE}(r:RelV x u):Dl u=some x:=by
 cases x with
 | non=>cases r; rfl
 | bl _=>cases r; rfl
 | int _=>obtain⟨t,rfl⟩:=r; rfl
 | str _=>obtain⟨t,rfl⟩:=r; rfl
 | byt _=>obtain⟨t,rfl⟩:=r; rfl
 | flt _=>obtain⟨t,rfl⟩:=r; rfl
 | ref _=>cases r; rfl
 | ty _=>cases r; rfl
theorem RelV.inj {x y:V}{u:aE}(r:RelV x u)(q:RelV y u):x=y:=gU (r.abs.symm.trans q.abs)
theorem Vals.inj : ∀ {xs ys:List V} {us:List aE},Vals xs us->Vals ys us->xs=ys:=by
 intro xs ys us h
 induction h generalizing ys with
 | nil=>intro h; cases h; rfl
 | cons r _ ih=>
  intro h
  cases h with
  | cons r' t'=>rw[r.inj r',ih t']
section
variable {X:Cx}{pins:List (aD×aY)}{σ:St}{H:Hp}{s:aG}{a:aD}{xs ys:List V}
theorem SqL.of {K:aK}(h:H a=some (.lst xs)):SqL K H a xs:=.inl (.inl h)
theorem SqT.of {K:aK}(h:H a=some (.tup xs)):SqT K H a xs:=.inl (.inl h)
theorem Inv.list (I:Inv X pins σ H s)(h:SqL X.K H a xs) : ∃ its:List aE,Vals xs its/\PlainL s.heap a its.toArray/\xs.length≤sizeLine:=by
 rcases h with h | ⟨o,its,n,hk,hc,hd,hs,hz,r⟩
 ·obtain⟨z,its,n,r,e⟩:=h.ok I.hok
  exact⟨its,r,⟨_,n,e,rfl,rfl,rfl⟩,z⟩
 ·refine⟨its.toList,r,⟨o,n,I.kIn a o hk,hc,hd,by simpa using hs⟩,?_⟩
  have e:=r.length
  simp only[gW] at e
  omega
theorem Inv.tuple (I:Inv X pins σ H s)(h:SqT X.K H a xs) : ∃ its:List aE,Vals xs its/\IsTup s.heap a its.toArray/\xs.length≤sizeLine:=by
 rcases h with h | ⟨o,its,n,hk,hc,hs,hz,r⟩
 ·obtain⟨z,its,r,p⟩:=h.ok I.hok
  exact⟨its,r,p.1,z⟩
 ·refine⟨its.toList,r,⟨o,I.kIn a o hk,hc,n,by simpa using hs⟩,?_⟩
  have e:=r.length
  simp only[gW] at e
  omega
theorem Inv.list_inj (I:Inv X pins σ H s)(h:SqL X.K H a xs)(h':SqL X.K H a ys):xs=ys:=by
 obtain⟨its,r,⟨o,n,e,_,_,d⟩,_⟩:=I.list h
 obtain⟨its',r',⟨o',n',e',_,_,d'⟩,_⟩:=I.list h'
 rw[e] at e'; cases e'
 rw[d] at d'
 injection d' with d1 _
 have:its=its':=by simpa using congrArg Array.toList d1
 subst this
 exact r.inj r'
theorem Inv.tuple_inj (I:Inv X pins σ H s)(h:SqT X.K H a xs)(h':SqT X.K H a ys):xs=ys:=by
 obtain⟨its,r,⟨o,e,_,n,d⟩,_⟩:=I.tuple h
 obtain⟨its',r',⟨o',e',_,n',d'⟩,_⟩:=I.tuple h'
 rw[e] at e'; cases e'
 rw[d] at d'
 injection d' with d1 _
 have:its=its':=by simpa using congrArg Array.toList d1
 subst this
 exact r.inj r'
end
noncomputable abbrev Cx.wish (X:Cx)(E:aE->aG->Prop):Cx:={ X with xe:=E }
noncomputable abbrev Cx.nox (X:Cx):Cx:=X.wish fun _ _=>False
theorem Cx.Ok.wish {X:Cx}(ok:X.Ok)(E:aE->aG->Prop):(X.wish E).Ok:=
 ⟨ok.mod,ok.kind,ok.glob,ok.blt,ok.above,ok.inj,ok.has,ok.cab,ok.hd,ok.frames,ok.stk,ok.exf,ok.bs,ok.bsz,ok.noex,ok.exfs,ok.funs,ok.frf⟩
theorem Cx.Ok.unwish {X:Cx}{E:aE->aG->Prop}(ok:(X.wish E).Ok):X.Ok:=
 ⟨ok.mod,ok.kind,ok.glob,ok.blt,ok.above,ok.inj,ok.has,ok.cab,ok.hd,ok.frames,ok.stk,ok.exf,ok.bs,ok.bsz,ok.noex,ok.exfs,ok.funs,ok.frf⟩
section
variable {X:Cx}{pins:List (aD×aY)}{σ:St}{H:Hp}{s:aG}{E:aE->aG->Prop}
theorem Inv.wish (I:Inv X pins σ H s)(E:aE->aG->Prop):Inv (X.wish E) pins σ H s:=⟨I.ok.wish E,I.os,I.bare,I.base,I.loc,I.cell,I.free,I.freeC,I.pin,I.hok,I.len⟩
theorem Inv.unwish (I:Inv (X.wish E) pins σ H s):Inv X pins σ H s:=⟨I.ok.unwish,I.os,I.bare,I.base,I.loc,I.cell,I.free,I.freeC,I.pin,I.hok,I.len⟩
theorem SP.unwish {D:Ends}{f:Flow}{s':aG}(h:SP (X.wish E) pins D f s'):SP X pins D f s':=by
 cases f with
 | next=>obtain⟨σ',H',I,q⟩:=h; exact⟨σ',H',I.unwish,q⟩
 | brk=>obtain⟨σ',H',I,q⟩:=h; exact⟨σ',H',I.unwish,q⟩
 | cont=>obtain⟨σ',H',I,q⟩:=h; exact⟨σ',H',I.unwish,q⟩
 | ret u=>obtain⟨v,σ',H',I,r,q⟩:=h; exact⟨v,σ',H',I.unwish,r,q⟩
theorem PSs.nox {st:List bR}{t:TS}(h:PSs X.nox st t):PSs X st t:=fun pins s σ H D I hw=>
 kW (h pins s σ H D (I.wish _) hw) (fun _ _ q=>q.unwish) fun _ _ z=>mZ z
end
section
variable {X:Cx}{st:bR}{rest:List bR}{t u:TS}{e:aW}{te:TE}{pos:cC}
noncomputable def Fc:TS:=fun D σ H=>D.nx σ H
noncomputable def Dq (t u:TS):TS:=fun D σ H=>t { D with nx:=u D } σ H
theorem ZJ:PSs X [] Fc:=fun _ _ σ H _ I h=>wpAny_execs_nil ⟨σ,H,I,h⟩
theorem Wb (h1:PS X st t)(h2:PSs X rest u):PSs X (st::rest) (Dq t u):=by
 intro pins s σ H D I h
 refine wpAny_execs_cons (thn (h1 pins s σ H { D with nx:=u D } I h) fun f s1 q=>?_)
 cases f with
 | next=>
  obtain⟨σ',H',I',q⟩:=q
  exact h2 pins s1 σ' H' D I' q
 | ret v=>exact q
 | brk=>exact q
 | cont=>exact q
theorem ZF (h1:PS X st t):PSs X [st] t:=by
 intro pins s σ H D I h
 refine wpAny_execs_cons (thn (h1 pins s σ H D I h) fun f s1 q=>?_)
 cases f with
 | next=>exact wpAny_execs_nil q
 | ret v=>exact q
 | brk=>exact q
 | cont=>exact q
theorem Inv.quiet {pins:List (aD×aY)}{σ:St}{H:Hp}{s:aG}(I:Inv X pins σ H s):interactive X.env=false:=by simp[interactive,I.ok.kind]
noncomputable def Eh (te:TE):TS:=fun D σ H=>te σ H fun _ H1=>D.nx σ H1
theorem ZL (he:PE X e te)(hs:pT e none pos.line X.env=pure false:=by rfl):PS X (.Expr e pos) (Eh te):=by
 intro pins s σ H D I h
 exact wpAny_Expr_any (thn (he pins s σ H _ I h) fun v s1 ⟨x,H1,I1,r1,q1⟩=>⟨σ,H1,I1,q1⟩) I.quiet hs
noncomputable def Dw (te:TE):TS:=fun D σ H=>te σ H D.rt
theorem LO (he:PE X e te):PS X (.Return (some e) pos) (Dw te):=by
 intro pins s σ H D I h
 exact wpAny_Return_some (thn (he pins s σ H _ I h) fun v s1 ⟨x,H1,I1,r1,q1⟩=>⟨x,σ,H1,I1,r1,q1⟩)
noncomputable def Dj (c:TT)(t u:TS):TS:=fun D σ H=>c σ H fun b H1=>if b=true then t D σ H1 else u D σ H1
theorem Fh {c:aW}{a b:List bR}{tc:TT}(hc:PT X c tc)(ha:PSs X a t)(hb:PSs X b u):PS X (.If c a b pos) (Dj tc t u):=by
 intro pins s σ H D I h
 refine wpAny_If (thn (hc pins s σ H _ I h) fun d s1 gh=>?_)
 obtain⟨H1,I1,q1⟩:=gh
 cases d with
 | true=>exact ha pins s1 σ H1 D I1 q1
 | false=>exact hb pins s1 σ H1 D I1 q1
end
abbrev TG:=V->St->Hp->(St->Hp->Prop)->Prop
def PG (X:Cx)(target:aW)(t:TG):Prop:=
 ∀ (pins:List (aD×aY)) (s:aG) (σ:St) (H:Hp) (v:V) (u:aE) (Q:St->Hp->Prop),Inv X pins σ H s->RelV v u->t v σ H Q ->
  aN (aR X.prog X.w) X.A (assign target X.env u) (fun _ s'=>∃ σ' H',Inv X pins σ' H' s'/\Q σ' H') X.xe s
abbrev GU:=V->V->V->Hp->(Hp->Prop)->Prop
def NX (X:Cx)(t:GU):Prop:=
 ∀ (pins:List (aD×aY)) (s:aG) (σ:St) (H:Hp) (o i v:V) (ov iv u:aE) (Q:Hp->Prop),Inv X pins σ H s->RelV o ov->RelV i iv->RelV v u->t o i v H Q ->
  aN (aR X.prog X.w) X.A (setItem ov iv u) (fun _ s'=>∃ H',Inv X pins σ H' s'/\Q H') X.xe s
section
variable {X:Cx}{pos:cC}
noncomputable def EX (i:Nat):TG:=fun v σ H Q=>Q (σ.set i (some v)) H
theorem YV {i:Nat}{x:aB}(hN:X.N.Nodup)(hi:X.N[i]?=some x)(hx:nV X.env.scope x)(hf:X.fn x=true \/ X.env.scope.names.lookup x=some .local:=by first | exact .inl rfl | exact .inr rfl | assumption):PG X (.Name x pos) (EX i):=by
 intro pins s σ H v u Q I r h
 exact wpAny_assign_Name (SE I hN hi hx r (fun s' I'=>⟨_,H,I',h⟩) hf)
noncomputable def Du (to ti:TE)(t:GU):TG:=fun v σ H Q=>to σ H fun o H1=>ti σ H1 fun i H2=>t o i v H2 fun H3=>Q σ H3
theorem Ig {o i:aW}{to ti:TE}{t:GU}(ho:PE X o to)(hi:PE X i ti)(hs:NX X t)
  (ha : ∀ v,assign (.Subscript o i pos) X.env v=(do
   let ov ← rJ [v] (bZ o X.env)
   let iv ← rJ [v,ov] (bZ i X.env)
   standAt pos
   rJ [v,ov,iv] (setItem ov iv v)
   release [v,ov,iv] []):=by intro _; rfl):PG X (.Subscript o i pos) (Du to ti t):=by
 intro pins s σ H v u Q I r h
 rw[ha]
 refine aI (jR (thn (ho pins s σ H _ I h) fun ov s1 gh=>?_))
 obtain⟨x,H1,I1,r1,q1⟩:=gh
 refine aI (jR (thn (hi pins s1 σ H1 _ I1 q1) fun iv s2 gh=>?_))
 obtain⟨y,H2,I2,r2,q2⟩:=gh
 refine aI (wpAny_standAt (aI (jR (thn (hs pins s2 σ H2 x y v ov iv u _ I2 r1 r2 r q2) fun _ s3 gh=>?_))))
 obtain⟨H3,I3,q3⟩:=gh
 exact wpAny_release ⟨σ,H3,I3,q3⟩
noncomputable def BS (te:TE)(g:TG):TS:=fun D σ H=>te σ H fun x H1=>g x σ H1 D.nx
theorem Hk {tg e:aW}{te:TE}{g:TG}(he:PE X e te)(hg:PG X tg g)(hs:swapsWithSole [tg] e pos.line X.env=pure false:=by rfl)(hw:swappedStores [tg] e X.env=pure none:=by rfl)
  (h1:(assignEach [tg] X.env).map (·.2)=[assign tg X.env]:=by rfl):PS X (.Assign [tg] e pos) (BS te g):=by
 intro pins s σ H D I h
 refine wpAny_Assign_stores (thn (he pins s σ H _ I h) fun v s1 ⟨x,H1,I1,r1,q1⟩=>?_) hs hw
 rw[h1]
 exact thn (hg pins s1 σ H1 x v _ I1 r1 q1) fun _ s2 q=>q
theorem PQ {i:Nat}{x:aB}{e:aW}{te:TE}{pos':cC}(hN:X.N.Nodup)(hi:X.N[i]?=some x)(hx:nV X.env.scope x)(he:PE X e te)(hs:pT e (some (.Name x pos')) pos.line X.env=pure false:=by rfl)(hf:X.fn x=true \/ X.env.scope.names.lookup x=some .local:=by first | exact .inl rfl | exact .inr rfl | assumption) :
  PS X (.Assign [.Name x pos'] e pos) (BS te (EX i)):=by
 intro pins s σ H D I h
 refine wpAny_Assign_Name (thn (he pins s σ H _ I h) fun v s1 ⟨y,H1,I1,r1,q1⟩=>?_) hs
 exact SE I1 hN hi hx r1 (fun s2 I2=>⟨_,H1,I2,q1⟩) hf
end
structure It where
 go:Nat->Hp->Prop
 yld:Nat->Hp->V->Hp->Prop
 stop:Nat->Hp->Prop
def lM (X:Cx)(pins:List (aD×aY))(H:Hp)(b:aD):Prop:=
 H b=none/\b≠X.env.locals/\b∉X.fs/\(b∈X.ex \/ X.s₀.heap.objs.size≤b)/\(∀ x c,X.env.cells.lookup x=some c->c≠b) /\ ∀ p∈X.pn++pins,p.1≠b
theorem Inv.fpOk {X:Cx}{pins:List (aD×aY)}{σ:St}{H H':Hp}{s:aG}{b:aD}(I:Inv X pins σ H s)(hb:s.heap.objs.size≤b)(hn:H' b=none):lM X pins H' b:=by
 refine⟨hn,mQ (iQ I.lt hb),I.nofs hb,.inr (jB I.sz hb),fun x c e z=>?_,fun p hp z=>?_⟩
 ·obtain⟨v,q⟩:=I.cell x c e
  exact absurd (iQ q.lt (by rw[z]; exact hb)) (mS _)
 ·exact absurd (iQ (cL (I.pin p hp).1) (by rw[z]; exact hb)) (mS _)
structure Turn (P:bS)(w:bB)(K:aK)(tg:aW)(J:It)(fp:List aD)(it:aD)(tn:Nat->aU->Prop):Prop where
 mem:it∈fp
 obj : ∀ i h,tn i h -> ∀ b∈fp,∃ o,h.get? b=some o /\ ∀ v,o.data ≠ .cell v
 keep : ∀ i h h',tn i h->(∀ b∈fp,∀ o,h.get? b=some o->h'.get? b=some o)->tn i h'
 item : ∀ (X:Cx),X.prog=P->X.w=w->X.K=K->X.calm=true -> ∀ (i:Nat) (pins:List (aD×aY)) (s:aG) (σ:St) (H:Hp) (E:aE->aG->Prop),Inv X pins σ H s->(∀ b∈fp,lM X pins H b)->tn i s.heap->J.go i H ->
  aN (aR P w) X.A (kY (.ref it)) (fun r s1=>∃ u,r=some u /\
   aN (aR P w) X.A (LX tg (.ref it) u) (fun _ s2=>∃ x H',Inv X pins σ H' s2/\RelV x u/\J.yld i H x H'/\tn (i+1) s2.heap /\ ∀ b∈fp,H' b=none) E s1) E s
 done : ∀ (X:Cx),X.prog=P->X.w=w->X.K=K->X.calm=true -> ∀ (i:Nat) (pins:List (aD×aY)) (s:aG) (σ:St) (H:Hp) (E:aE->aG->Prop),Inv X pins σ H s->(∀ b∈fp,lM X pins H b)->tn i s.heap->J.stop i H ->
  aN (aR P w) X.A (kY (.ref it)) (fun r s1=>r=none/\Inv X pins σ H s1) E s
 self : ∀ (A:cE) (i:Nat) (s:aG) (Q:aE->aG->Prop) (E:aE->aG->Prop),tn i s.heap->Q (.ref it) s->aN (aR P w) A (oP (.ref it)) Q E s
abbrev TI:=St->Hp->(It->Hp->Prop)->Prop
def PIE (X:Cx)(pins:List (aD×aY))(σ:St)(tg:aW)(R:It->Hp->Prop)(itv:aE)(s2:aG):Prop:=
 ∃ (it:aD) (fp:List aD) (tn:Nat->aU->Prop) (J:It) (H':Hp),itv = .ref it/\Inv X pins σ H' s2/\Turn X.prog X.w X.K tg J fp it tn/\tn 0 s2.heap/\(∀ b∈fp,lM X pins H' b)/\R J H'
def PI (X:Cx)(tg iter:aW)(wi:TI):Prop:=
 ∀ (pins:List (aD×aY)) (s:aG) (σ:St) (H:Hp) (R:It->Hp->Prop),Inv X pins σ H s->wi σ H R ->
  aN (aR X.prog X.w) X.A (bZ iter X.env) (fun v s1=>aN (aR X.prog X.w) X.A (oP v) (PIE X pins σ tg R) X.xe s1) X.xe s
theorem FB {M:Model}{A:cE}{E:aE->aG->Prop}{s:aG}{tg:aW}{it:aD}{u:aE}{o:aY}{n:String}{vs:Array aE}{Q:Unit->aG->Prop}(ho:s.heap.get? it=some o)(hc:o.cls = .type n)(hd:o.data = .fields vs)
    (hn:["enumerate","zip","dict_itemiterator","dict_reverseitemiterator","odict_iterator","itertools.zip_longest","itertools.pairwise"].contains n=false) (hQ:Q () s):aN M A (LX tg (.ref it) u) Q E s:=by
  unfold LX
  cases tg <;> first
    | exact aT hQ
    | (cases u <;> first
        | exact aT hQ
        | (refine aI (wpAny_load ho ?_)
           rw[hc,hd]
           show aN M A (if (["enumerate","zip","dict_itemiterator","dict_reverseitemiterator","odict_iterator","itertools.zip_longest","itertools.pairwise"].contains n&&vs[0]? == some (eI _))=true then _ else _) Q E s
           rw[if_neg (by intro h; rw[hn,Bool.false_and] at h; cases h)]
           exact aT hQ))
noncomputable def GL (K:aK)(a:aD):It:=
 ⟨fun i H=>∃ xs x,SqL K H a xs/\xs[i]?=some x,fun i H x H'=>H'=H /\ ∀ xs,SqL K H a xs->xs[i]?=some x,fun i H=>∃ xs,SqL K H a xs/\xs.length≤i⟩
noncomputable def GK (K:aK)(a:aD):It:=
 ⟨fun i H=>∃ xs x,SqT K H a xs/\xs[i]?=some x,fun i H x H'=>H'=H /\ ∀ xs,SqT K H a xs->xs[i]?=some x,fun i H=>∃ xs,SqT K H a xs/\xs.length≤i⟩
noncomputable def BN (lo:Int)(n:Nat):It:=⟨fun i _=>i<n,fun i H x H'=>H'=H/\x = .int (lo+i),fun i _=>n≤i⟩
theorem Nx {P:bS}{w:bB}{K:aK}{tg:aW}(a it:aD):Turn P w K tg (GL K a) [it] it (fun i h=>h.IsListIter it a i) where
 mem:=by simp
 obj:=fun i h st b hb=>by
  have e:b=it:=by simpa using hb
  subst e
  obtain⟨o,e,c,d⟩:=st
  exact⟨o,e,fun v z=>by rw[d] at z; cases z⟩
 keep:=fun i h h' st k=>st.at fun o e=>k it (by simp) o e
 item:=by
  intro X hP hw hK hc i pins s σ H E I hf st hg
  subst hP hw hK
  obtain⟨xs,x,hq,hx⟩:=hg
  obtain⟨its,rv,p,hz⟩:=I.list hq
  obtain⟨u,hu,ru⟩:=rv.get hx
  obtain⟨f0,f1,f2,f3,f4,f5⟩:=hf it (by simp)
  refine wpAny_pyNext_list_item st p.isList (x:=u) (by simpa using hu) fun h' st' sb=>?_
  have I1:Inv X pins σ H { s with heap:=h' }:=I.turned (t':=s.toks) (fun b o hb e=>(sb.2 b hb).trans e) f0 f1 f3 f4 f5
  obtain⟨o,e,c,d⟩:=id st'
  exact⟨u,rfl,FB (s:={ s with heap:=h' }) e c d (by decide) ⟨x,H,I1,ru,⟨rfl,fun ys hy=>by rw[I.list_inj hy hq]; exact hx⟩,st',fun b hb=>(hf b hb).1⟩⟩
 done:=by
  intro X hP hw hK hc i pins s σ H E I hf st hg
  subst hP hw hK
  obtain⟨xs,hq,hx⟩:=hg
  obtain⟨its,rv,p,hz⟩:=I.list hq
  obtain⟨f0,f1,f2,f3,f4,f5⟩:=hf it (by simp)
  have hl:=rv.length
  exact wpAny_pyNext_list_end (I.ok.hd hc) st p.isList (by simp; omega) fun h' eb=>⟨rfl,I.turned (t':=s.toks) (fun b o hb e=>eb b o hb e) f0 f1 f3 f4 f5⟩
 self:=fun _ _ _ _ _ st h=>wpAny_pyIter_listiter st h
theorem Pb {P:bS}{w:bB}{K:aK}{tg:aW}(a it:aD):Turn P w K tg (GK K a) [it] it (fun i h=>h.IsTupleIter it a i) where
 mem:=by simp
 obj:=fun i h st b hb=>by
  have e:b=it:=by simpa using hb
  subst e
  obtain⟨o,e,c,d⟩:=st
  exact⟨o,e,fun v z=>by rw[d] at z; cases z⟩
 keep:=fun i h h' st k=>st.at fun o e=>k it (by simp) o e
 item:=by
  intro X hP hw hK hc i pins s σ H E I hf st hg
  subst hP hw hK
  obtain⟨xs,x,hq,hx⟩:=hg
  obtain⟨its,rv,p,hz⟩:=I.tuple hq
  obtain⟨u,hu,ru⟩:=rv.get hx
  obtain⟨f0,f1,f2,f3,f4,f5⟩:=hf it (by simp)
  refine wpAny_pyNext_tuple_item st (show s.heap.IsTuple a its.toArray from p) (x:=u) (by simpa using hu) fun h' st' sb=>?_
  have I1:Inv X pins σ H { s with heap:=h' }:=I.turned (t':=s.toks) (fun b o hb e=>(sb.2 b hb).trans e) f0 f1 f3 f4 f5
  obtain⟨o,e,c,d⟩:=id st'
  exact⟨u,rfl,FB (s:={ s with heap:=h' }) e c d (by decide) ⟨x,H,I1,ru,⟨rfl,fun ys hy=>by rw[I.tuple_inj hy hq]; exact hx⟩,st',fun b hb=>(hf b hb).1⟩⟩
 done:=by
  intro X hP hw hK hc i pins s σ H E I hf st hg
  subst hP hw hK
  obtain⟨xs,hq,hx⟩:=hg
  obtain⟨its,rv,p,hz⟩:=I.tuple hq
  obtain⟨f0,f1,f2,f3,f4,f5⟩:=hf it (by simp)
  have hl:=rv.length
  exact wpAny_pyNext_tuple_end (I.ok.hd hc) st (show s.heap.IsTuple a its.toArray from p) (by simp; omega) fun h' eb=>⟨rfl,I.turned (t':=s.toks) (fun b o hb e=>eb b o hb e) f0 f1 f3 f4 f5⟩
 self:=fun _ _ _ _ _ st h=>wpAny_pyIter_tupleiter st h
theorem Oq {P:bS}{w:bB}{K:aK}{tg:aW}(it:aD)(lo:Int)(n:Nat):Turn P w K tg (BN lo n) [it] it (fun i h=>IsRangeIter h it (lo+(i:Nat)*1) ((n:Int) - (i:Nat)) 1) where
 mem:=by simp
 obj:=fun i h st b hb=>by
  have e:b=it:=by simpa using hb
  subst e
  exact⟨_,st,fun v z=>by
   have z':Data.fields _=Data.cell v:=z
   cases z'⟩
 keep:=fun i h h' st k=>k it (by simp) _ st
 item:=by
  intro X hP hw hK hc i pins s σ H E I hf st hg
  subst hP hw hK
  obtain⟨f0,f1,f2,f3,f4,f5⟩:=hf it (by simp)
  have W:=Walks.range (prog:=X.prog) (w:=X.w) (I.ok.hd hc) it lo 1 n
  refine W.item i s _ _ hg st fun v h' tk hv st' kk=>?_
  obtain⟨t,rfl⟩:=hv
  have I1:Inv X pins σ H { s with heap:=h',toks:=tk }:=I.turned (fun b o hb e=>kk b o (by simpa using hb) e) f0 f1 f3 f4 f5
  refine⟨_,rfl,FB (s:={ s with heap:=h',toks:=tk }) (n:="range_iterator") st' rfl rfl (by decide) ⟨.int (lo+i),H,I1,⟨t,?_⟩,⟨rfl,rfl⟩,st',fun b hb=>(hf b hb).1⟩⟩
  rw[Int.mul_one]
 done:=by
  intro X hP hw hK hc i pins s σ H E I hf st hg
  subst hP hw hK
  obtain⟨f0,f1,f2,f3,f4,f5⟩:=hf it (by simp)
  exact wpAny_pyNext_range_end (I.ok.hd hc) st (by have:n≤i:=hg; omega) fun h' eb=>⟨rfl,I.turned (t':=s.toks) (fun b o hb e=>eb b o hb e) f0 f1 f3 f4 f5⟩
 self:=fun _ _ _ _ _ st h=>wpAny_pyIter_rangeiter st h
section
variable {X:Cx}{tg:aW}
noncomputable def Fp (K:aK)(tl:TE):TI:=fun σ H R=>tl σ H fun x H1=>∃ a,x = .ref a/\(∃ xs,SqL K H1 a xs)/\R (GL K a) H1
noncomputable def Dr (K:aK)(tl:TE):TI:=fun σ H R=>tl σ H fun x H1=>∃ a,x = .ref a/\(∃ xs,SqT K H1 a xs)/\R (GK K a) H1
theorem Mp {l:aW}{tl:TE}(hl:PE X l tl):PI X tg l (Fp X.K tl):=by
 intro pins s σ H R I h
 refine thn (hl pins s σ H _ I h) fun v s1 gh=>?_
 obtain⟨x,H1,I1,r1,q1⟩:=gh
 obtain⟨a,e,⟨xs,hq⟩,q⟩:=q1
 subst e
 cases r1
 obtain⟨its,rv,p,hz⟩:=I1.list hq
 refine LU p.isList ?_
 refine⟨s1.heap.objs.size,[s1.heap.objs.size],_,_,H1,rfl,I1.kept (t':=s1.toks) fun b o e=>cP _ e,Nx a _,⟨_,eP _ rfl,rfl,rfl⟩,fun b hb=>?_,q⟩
 have e:b=s1.heap.objs.size:=by simpa using hb
 subst e
 exact I1.fpOk (bU _) (I1.hok.fresh (bU _))
theorem Ih {l:aW}{tl:TE}(hl:PE X l tl):PI X tg l (Dr X.K tl):=by
 intro pins s σ H R I h
 refine thn (hl pins s σ H _ I h) fun v s1 gh=>?_
 obtain⟨x,H1,I1,r1,q1⟩:=gh
 obtain⟨a,e,⟨xs,hq⟩,q⟩:=q1
 subst e
 cases r1
 obtain⟨its,rv,p,hz⟩:=I1.tuple hq
 refine wpAny_pyIter_tuple (show s1.heap.IsTuple a its.toArray from p) ?_
 refine⟨s1.heap.objs.size,[s1.heap.objs.size],_,_,H1,rfl,I1.kept (t':=s1.toks) fun b o e=>cP _ e,Pb a _,⟨_,eP _ rfl,rfl,rfl⟩,fun b hb=>?_,q⟩
 have e:b=s1.heap.objs.size:=by simpa using hb
 subst e
 exact I1.fpOk (bU _) (I1.hok.fresh (bU _))
theorem Wc {pins:List (aD×aY)}{σ:St}{H:Hp}{s:aG}{R:It->Hp->Prop}{E:aE->aG->Prop}{lo hi:Int}{t u v:Tok}{tk:Nat}(I:Inv X pins σ H s)(h1 : -(2 ^ 62)≤lo)(h2:lo<2 ^ 62)(h3 : -(2 ^ 62)≤hi)(h4:hi<2 ^ 62)
  (q:R (BN lo (hi - lo).toNat) H):aN (aR X.prog X.w) X.A (oP (.ref s.heap.objs.size)) (PIE X pins σ tg R) E { s with heap:=s.heap.push { cls:=.type "range",data:=.fields #[.int lo t,.int hi u,.int 1 v] },toks:=tk }:=by
 refine wpAny_pyIter_range (IsRange.new ..) (small_one h1 h2 h3 h4) ?_
 have I1:Inv X pins σ H { s with heap:=s.heap.push { cls:=.type "range",data:=.fields #[.int lo t,.int hi u,.int 1 v] },toks:=tk }:=I.kept fun b o e=>cP _ e
 refine⟨(s.heap.push { cls:=.type "range",data:=.fields #[.int lo t,.int hi u,.int 1 v] }).objs.size,[(s.heap.push { cls:=.type "range",data:=.fields #[.int lo t,.int hi u,.int 1 v] }).objs.size],_,_,H,rfl,
  I1.kept (t':=tk) fun b o e=>cP _ e,Oq _ lo (hi - lo).toNat,?_,fun b hb=>?_,q⟩
 ·have e1:lo+((0:Nat):Int)*1=lo:=by simp
  have e2:(((hi - lo).toNat:Nat):Int) - ((0:Nat):Int)=Builtin.Range.rangeSize lo hi 1:=by rw[rangeSize_one]; split <;> omega
  show IsRangeIter _ _ (lo+((0:Nat):Int)*1) ((((hi - lo).toNat:Nat):Int) - ((0:Nat):Int)) 1
  rw[e1,e2]
  exact eP _ rfl
 ·have e:b=(s.heap.push { cls:=.type "range",data:=.fields #[.int lo t,.int hi u,.int 1 v] }).objs.size:=by simpa using hb
  subst e
  exact I1.fpOk (bU _) (I1.hok.fresh (bU _))
noncomputable def Ey (ta:TA):TI:=fun σ H R=>ta σ H fun vs H1=>∃ j:Int,vs=[.int j] /\ -(2 ^ 62)≤j/\j<2 ^ 62/\R (BN 0 j.toNat) H1
theorem Yo {a:aW}{ta:TA}{p pos:cC}(hg:Gl X "range")(hm:X.mg "range" = none)(ha:PA X [a] ta)(hs:bI [a] X.env=[(false,bZ a X.env)]:=by rfl):PI X tg (.Call (.Name "range" p) [a] [] pos) (Ey ta):=by
 intro pins s σ H R I h
 refine Call_ (CD I hg hm boot_range (Zr (thn (ha pos pins s σ H _ I h) fun us s1 ⟨vs,H1,I1,r1,q1⟩=>?_) hs rfl))
 obtain⟨j,e,q1,q2,q⟩:=q1
 subst e
 cases r1 with
 | cons r rr=>
  cases rr
  obtain⟨t,rfl⟩:=r
  exact call_range_1 (Wc I1 (by omega) (by omega) q1 q2 (by simpa using q))
noncomputable def Dc (wi:TI)(g:TG)(tb:TS):TS:=fun D σ H=>wi σ H fun J H1=>∃ W:Nat->Nat->St->Hp->Prop,(∃ m,W 0 m σ H1) /\ ∀ i m σ H,W i m σ H ->
 (J.stop i H/\D.nx σ H) \/ (J.go i H /\ ∃ N:St->Hp->Prop,(∀ σ' H',N σ' H' -> ∃ m',m'<m/\W (i+1) m' σ' H') /\ ∀ x H',J.yld i H x H'->g x σ H' fun σ2 H2=>tb { D with nx:=N,ct:=N,bk:=D.nx } σ2 H2)
noncomputable def yC (fp:List aD)(h:aU):List (aD×aY):=fp.filterMap fun b=>(h.get? b).map fun o=>(b,o)
theorem DV {fp:List aD}{h:aU}{b:aD}{o:aY}(hb:b∈fp)(e:h.get? b=some o):(b,o)∈yC fp h:=xI.mpr ⟨b,hb,by rw[e]; rfl⟩
theorem Ni {fp:List aD}{h:aU}{p:aD×aY}(hp:p∈yC fp h):p.1∈fp/\h.get? p.1=some p.2:=by
 obtain⟨b,hb,e⟩:=xI.mp hp
 cases q:h.get? b with
 | none=>rw[q] at e; cases e
 | some o=>
  rw[q] at e
  have e':(b,o)=p:=gU e
  subst e'
  exact⟨hb,q⟩
theorem Inv.pinned {pins:List (aD×aY)}{σ:St}{H:Hp}{s:aG}{fp:List aD}(I:Inv X pins σ H s)(hf : ∀ b∈fp,lM X pins H b)(ho : ∀ b∈fp,∃ o,s.heap.get? b=some o /\ ∀ v,o.data ≠ .cell v):Inv X (pins++yC fp s.heap) σ H s:=
 I.pins_of fun p hp=>(iR.mp hp).elim (fun z=>I.pin p (nQ _ z)) fun z=>by
  obtain⟨hb,e⟩:=Ni z
  obtain⟨f0,f1,f2,_⟩:=hf p.1 hb
  obtain⟨o,e',d⟩:=ho p.1 hb
  rw[e] at e'; cases e'
  exact⟨e,f0,f1,f2,d⟩
theorem Inv.unpinned {pins pl:List (aD×aY)}{σ:St}{H:Hp}{s:aG}(I:Inv X (pins++pl) σ H s):Inv X pins σ H s:=I.pins_of fun p hp=>I.pin p (nQ _ (tZ _ hp))
theorem Hv {iter:aW}{body:List bR}{wi:TI}{g:TG}{tb:TS}{pos:cC}(hp:PassesOwn (aR X.prog X.w) X.A X.env X.xe)(hc:X.calm=true)(hi:PI X tg iter wi)(hg:PG X tg g)(hb:PSs X body tb)
  (hs : ∀ x,tQ iter X.env x=pure x:=by intro _; rfl):PS X (.For tg iter body [] pos) (Dc wi g tb):=by
 intro pins s σ H D I h
 refine wpAny_For (thn (hi pins s σ H _ I h) fun v s1 h1=>thn h1 fun itv s2 h2=>?_) hs
 obtain⟨it,fp,tn,J,H2,e,I2,T,st2,f2,W,⟨m0,w0⟩,turn⟩:=h2
 subst e
 have stat : ∀ {H':Hp},(∀ b∈fp,H' b=none) -> ∀ b∈fp,lM X pins H' b:=fun hn b hb=>⟨hn b hb,(f2 b hb).2⟩
 refine codeAny_forLoop_any (fun n s'=>∃ i σ' H',Inv X pins σ' H' s'/\tn i s'.heap/\(∀ b∈fp,H' b=none)/\W i n σ' H') ?_ m0 ⟨0,σ,H2,I2,st2,fun b hb=>(f2 b hb).1,w0⟩
 rintro n s3 ⟨i,σ3,H3,I3,st3,fr3,w3⟩
 rcases turn i n σ3 H3 w3 with⟨stop,qn⟩ | ⟨go,N,hN,step⟩
 ·refine FE hp (thn (T.done X rfl rfl rfl hc i pins s3 σ3 H3 X.xe I3 (stat fr3) st3 stop) fun r s4 gh=>?_)
  obtain⟨hr,I4⟩:=gh
  subst hr
  exact wpAny_execs_nil ⟨σ3,H3,I4,qn⟩
 ·refine FE hp (thn (T.item X rfl rfl rfl hc i pins s3 σ3 H3 X.xe I3 (stat fr3) st3 go) fun r s4 gh=>?_)
  obtain⟨u,hr,h4⟩:=gh
  subst hr
  refine FE hp (thn h4 fun _ s5 gh=>?_)
  obtain⟨x,H5,I5,r5,y5,st5,fr5⟩:=gh
  have I5':=I5.pinned (stat fr5) (T.obj _ _ st5)
  refine FE hp (thn (hg _ s5 σ3 H5 x u _ I5' r5 (step x H5 y5)) fun _ s6 gh=>?_)
  obtain⟨σ6,H6,I6,q6⟩:=gh
  refine FE hp (thn (hb _ s6 σ6 H6 _ I6 q6) fun f s7 q7=>?_)
  have again : ∀ {σ7:St} {H7:Hp},Inv X (pins++yC fp s5.heap) σ7 H7 s7->N σ7 H7 -> ∃ m,m<n /\ ∃ i σ' H',Inv X pins σ' H' s7/\tn i s7.heap/\(∀ b∈fp,H' b=none)/\W i m σ' H':=fun {σ7 H7} I7 n7=>by
   obtain⟨m',hm,w7⟩:=hN σ7 H7 n7
   refine⟨m',hm,i+1,σ7,H7,I7.unpinned,T.keep _ _ _ st5 fun b hb o e=>(I7.pin (b,o) (nQ _ (nQ _ (DV hb e)))).1,fun b hb=>?_,w7⟩
   obtain⟨o,e,d⟩:=T.obj _ _ st5 b hb
   exact(I7.pin (b,o) (nQ _ (nQ _ (DV hb e)))).2.1
  cases f with
  | next=>obtain⟨σ7,H7,I7,n7⟩:=q7; exact again I7 n7
  | cont=>obtain⟨σ7,H7,I7,n7⟩:=q7; exact again I7 n7
  | brk=>obtain⟨σ7,H7,I7,q7⟩:=q7; exact⟨σ7,H7,I7.unpinned,q7⟩
  | ret v=>obtain⟨x7,σ7,H7,I7,r7,q7⟩:=q7; exact⟨x7,σ7,H7,I7.unpinned,r7,q7⟩
end
abbrev R2:=V->V->Hp->VK->Prop
def OpR (X:Cx)(f:aE->aE->Sem aE)(r:R2):Prop:=
 ∀ (pins:List (aD×aY)) (s:aG) (σ:St) (H:Hp) (x y:V) (v u:aE) (Q:VK),Inv X pins σ H s->RelV x v->RelV y u->r x y H Q ->
  aN (aR X.prog X.w) X.A (f v u) (EP X pins σ Q) X.xe s
def UnR (X:Cx)(f:aE->Sem aE)(r:V->Hp->VK->Prop):Prop:=
 ∀ (pins:List (aD×aY)) (s:aG) (σ:St) (H:Hp) (x:V) (v:aE) (Q:VK),Inv X pins σ H s->RelV x v->r x H Q ->
  aN (aR X.prog X.w) X.A (f v) (EP X pins σ Q) X.xe s
def Aeq (X:Cx)(f:aE)(r:List V->Hp->VK->Prop):Prop:=
 ∀ (pins:List (aD×aY)) (s:aG) (σ:St) (H:Hp) (xs:List V) (us:List aE) (Q:VK),Inv X pins σ H s->Vals xs us->r xs H Q ->
  aN (aR X.prog X.w) X.A (call f us) (EP X pins σ Q) X.xe s
noncomputable def tOp (r:R2)(ta tb:TE):TE:=fun σ H Q=>ta σ H fun x H1=>tb σ H1 fun y H2=>r x y H2 Q
noncomputable def tUn (r:V->Hp->VK->Prop)(ta:TE):TE:=fun σ H Q=>ta σ H fun x H1=>r x H1 Q
noncomputable def rI (C:Int->Int->Prop)(g:Int->Int->V):R2:=fun x y H Q=>∃ i j,x = .int i/\y = .int j/\C i j/\Q (g i j) H
noncomputable def rI0 (g:Int->Int->V):R2:=fun x y H Q=>∃ i j,x = .int i/\y = .int j/\Q (g i j) H
def rU (g:Int->V):V->Hp->VK->Prop:=fun x H Q=>∃ i,x = .int i/\Q (g i) H
section
variable {X:Cx}{a b c:aW}{ta tb tc:TE}{pos:cC}
theorem GV (ha:PE X a ta)(hb:PE X b tb){pins:List (aD×aY)}{s:aG}{σ:St}{H:Hp}{R:V->V->Hp->Prop}(I:Inv X pins σ H s)
  (h:ta σ H fun x H1=>tb σ H1 fun y H2=>R x y H2) {Q:aE->aG->Prop} {f:aE->aE->Sem aE}
  (hf : ∀ v u s2 x y H2,Inv X pins σ H2 s2->RelV x v->RelV y u->R x y H2->aN (aR X.prog X.w) X.A (f v u) Q X.xe s2) :
  aN (aR X.prog X.w) X.A (bZ a X.env) (fun v s₁=>aN (aR X.prog X.w) X.A (bZ b X.env) (fun u s₂=>aN (aR X.prog X.w) X.A (f v u) Q X.xe s₂) X.xe s₁) X.xe s:=by
 refine thn (ha pins s σ H _ I h) fun v s1 gh=>?_
 obtain⟨x,H1,I1,r1,q1⟩:=gh
 refine thn (hb pins s1 σ H1 _ I1 q1) fun u s2 gh=>?_
 obtain⟨y,H2,I2,r2,q2⟩:=gh
 exact hf v u s2 x y H2 I2 r1 r2 q2
theorem Dz {op:Operator}{r:R2}(ho:OpR X (kZ op) r)(ha:PE X a ta)(hb:PE X b tb):PE X (.BinOp a op b pos) (tOp r ta tb):=by
 intro pins s σ H Q I h
 exact wpAny_BinOp (GV ha hb I h fun v u s2 x y H2 I2 rx ry q=>ho pins s2 σ H2 x y v u Q I2 rx ry q)
theorem Fu {op:UnaryOp}{r:V->Hp->VK->Prop}(ho:UnR X (unaryOp op) r)(ha:PE X a ta):PE X (.UnaryOp op a pos) (tUn r ta):=by
 intro pins s σ H Q I h
 exact UnaryOp_ (thn (ha pins s σ H _ I h) fun v s1 ⟨x,H1,I1,r1,q1⟩=>ho pins s1 σ H1 x v Q I1 r1 q1)
theorem opI {f:aE->aE->Sem aE}{C:Int->Int->Prop}{g:Int->Int->Int}
  (rule : ∀ (i j:Int) (t u:Tok) (s:aG) (Q:aE->aG->Prop) (E:aE->aG->Prop),C i j->Q (.int (g i j) s.toks) { s with toks:=s.toks+1 }->aN (aR X.prog X.w) X.A (f (.int i t) (.int j u)) Q E s) :
  OpR X f (rI C fun i j=>.int (g i j)):=by
 intro pins s σ H x y v u Q I rx ry h
 obtain⟨i,j,rfl,rfl,hc,q⟩:=h
 obtain⟨t,rfl⟩:=rx
 obtain⟨t',rfl⟩:=ry
 exact rule i j t t' s _ _ hc ⟨.int (g i j),H,I.tok _,⟨_,rfl⟩,q⟩
theorem NW {f:aE->aE->Sem aE}{g:Int->Int->Int}
  (rule : ∀ (i j:Int) (t u:Tok) (s:aG) (Q:aE->aG->Prop) (E:aE->aG->Prop),Q (.int (g i j) s.toks) { s with toks:=s.toks+1 }->aN (aR X.prog X.w) X.A (f (.int i t) (.int j u)) Q E s) :
  OpR X f (rI0 fun i j=>.int (g i j)):=by
 intro pins s σ H x y v u Q I rx ry h
 obtain⟨i,j,rfl,rfl,q⟩:=h
 obtain⟨t,rfl⟩:=rx
 obtain⟨t',rfl⟩:=ry
 exact rule i j t t' s _ _ ⟨.int (g i j),H,I.tok _,⟨_,rfl⟩,q⟩
theorem GW {f:aE->aE->Sem aE}{g:Int->Int->Bool}
  (rule : ∀ (i j:Int) (t u:Tok) (s:aG) (Q:aE->aG->Prop) (E:aE->aG->Prop),Q (.bool (g i j)) s->aN (aR X.prog X.w) X.A (f (.int i t) (.int j u)) Q E s) :
  OpR X f (rI0 fun i j=>.bl (g i j)):=by
 intro pins s σ H x y v u Q I rx ry h
 obtain⟨i,j,rfl,rfl,q⟩:=h
 obtain⟨t,rfl⟩:=rx
 obtain⟨t',rfl⟩:=ry
 exact rule i j t t' s _ _ ⟨.bl (g i j),H,I,rfl,q⟩
def Dm (i j:Int):Prop:=0<j/\j<1073741824
def Dn (i j:Int):Prop:=0≤j/\j≤1000000/\i.natAbs<2 ^ 64
def Bh6 (i j:Int):Prop:=(-(2 ^ 64)<i/\i<2 ^ 64) \/ (-(2 ^ 64)<j/\j<2 ^ 64)
theorem Bh6.ok {i j:Int}(h:Bh6 i j):IntMulOk i j:=by
 rcases h with⟨h1,h2⟩ | ⟨h1,h2⟩
 ·exact .of_left (intBits_le_64 h1 h2)
 ·exact .of_right (intBits_le_64 h1 h2)
theorem Bes:OpR X (kZ .Add) (rI0 fun i j=>.int (i+j)):=NW fun _ _ _ _ _ _ _ q=>add_int q
theorem Gy:OpR X (kZ .Sub) (rI0 fun i j=>.int (i - j)):=NW fun _ _ _ _ _ _ _ q=>sub_int q
theorem Hi:OpR X (kZ .Mult) (rI Bh6 fun i j=>.int (i*j)):=opI fun _ _ _ _ _ _ _ hc q=>mul_int q hc.ok
theorem Jk:OpR X (kZ .FloorDiv) (rI Dm fun i j=>.int (i / j)):=opI fun i j _ _ _ _ _ hc q=>by
 have h1:(0:Int)<j:=hc.1
 have h2:j<1073741824:=hc.2
 exact floordiv_int (by omega) (by rw[Int.fdiv_eq_ediv_of_nonneg i (by omega)]; exact q) (.inl (PyProof.noPylong_small (by omega)))
theorem Fx:OpR X (kZ .Mod) (rI (fun _ j=>0<j) fun i j=>.int (i%j)):=opI fun i j _ _ _ _ _ hc q=>by
 have h1:(0:Int)<j:=hc
 exact mod_int' (by omega) (by rw[Int.fmod_eq_emod_of_nonneg i (by omega)]; exact q)
theorem Je:OpR X (kZ .Pow) (rI Dn fun i j=>.int (i ^ j.toNat)):=opI fun _ _ _ _ _ _ _ hc q=>pow_int_small hc.1 hc.2.1 hc.2.2 q
theorem unI {f:aE->Sem aE}{g:Int->Int}
  (rule : ∀ (i:Int) (t:Tok) (s:aG) (Q:aE->aG->Prop) (E:aE->aG->Prop),Q (.int (g i) s.toks) { s with toks:=s.toks+1 }->aN (aR X.prog X.w) X.A (f (.int i t)) Q E s) :
  UnR X f (rU fun i=>.int (g i)):=by
 intro pins s σ H x v Q I rx h
 obtain⟨i,rfl,q⟩:=h
 obtain⟨t,rfl⟩:=rx
 exact rule i t s _ _ ⟨.int (g i),H,I.tok _,⟨_,rfl⟩,q⟩
theorem Ij:UnR X (unaryOp .USub) (rU fun i=>.int (-i)):=unI fun _ _ _ _ _ q=>neg_int q
end
section
variable {X:Cx}{a b c:aW}{ta tb tc:TE}{pos:cC}
theorem BW {pins:List (aD×aY)}{σ:St}{H:Hp}{s:aG}{Q:VK}{k k':Bool}(I:Inv X pins σ H s)(q:Q (.bl k) H)(e:k=k'):EP X pins σ Q (.bool k') s:=by
 subst e
 exact⟨.bl k,H,I,rfl,q⟩
theorem A7q:OpR X (iC .Lt) (rI0 fun i j=>.bl (decide (i<j))):=GW fun _ _ _ _ _ _ _ q=>lt_int q
theorem Atz:OpR X (iC .LtE) (rI0 fun i j=>.bl (decide (i≤j))):=GW fun _ _ _ _ _ _ _ q=>le_int q
theorem xZ:OpR X (iC .Gt) (rI0 fun i j=>.bl (decide (j<i))):=GW fun _ _ _ _ _ _ _ q=>gt_int q
theorem DP:OpR X (iC .Lt) (fun x y H Q=>∃ i j,x = .str i/\y = .str j/\Q (.bl (decide (i.cps.toList<j.cps.toList))) H):=by
 intro pins s σ H x y v u Q I rx ry h
 obtain⟨i,j,rfl,rfl,q⟩:=h
 obtain⟨t,rfl⟩:=rx
 obtain⟨t',rfl⟩:=ry
 exact lt_str (BW I q rfl)
theorem Xd:OpR X (iC .In) (fun x y H Q=>∃ i j,x = .str i/\y = .str j/\Q (.bl (!(iS j i 0 j.length 1).isEmpty)) H):=by
 intro pins s σ H x y v u Q I rx ry h
 obtain⟨i,j,rfl,rfl,q⟩:=h
 obtain⟨t,rfl⟩:=rx
 obtain⟨t',rfl⟩:=ry
 exact in_str (BW I q rfl)
theorem Ib:OpR X (iC .Is) (fun x y H Q=>y = .non/\Q (.bl (decide (x = .non))) H):=by
 intro pins s σ H x y v u Q I rx ry h
 obtain⟨rfl,q⟩:=h
 cases ry
 refine is_none_gen (BW I q ?_)
 cases x <;> first
  | (cases rx; rfl)
  | (obtain⟨t,rfl⟩:=rx; rfl)
theorem OpR.or {f:aE->aE->Sem aE}{r r':R2}(h:OpR X f r)(h':OpR X f r'):OpR X f (fun x y H Q=>r x y H Q \/ r' x y H Q):=by
 intro pins s σ H x y v u Q I rx ry q
 rcases q with q | q
 ·exact h pins s σ H x y v u Q I rx ry q
 ·exact h' pins s σ H x y v u Q I rx ry q
theorem eG (b:aW){op:CmpOp}(h:op ≠ .In:=by decide)(h2:op ≠ .NotIn:=by decide):AL op b=false:=by
 have e1:(op == CmpOp.In)=false:=by cases op <;> first | rfl | exact absurd rfl h
 have e2:(op == CmpOp.NotIn)=false:=by cases op <;> first | rfl | exact absurd rfl h2
 cases b <;> simp[AL,e1,e2]
theorem Mb {op:CmpOp}{r:R2}(ho:OpR X (iC op) r)(ha:PE X a ta)(hb:PE X b tb)(hm:AL op b=false):PE X (.Compare a [op] [b] pos) (tOp r ta tb):=by
 intro pins s σ H Q I h
 exact wpAny_Compare1 (GV ha hb I h fun v u s2 x y H2 I2 rx ry q=>ho pins s2 σ H2 x y v u Q I2 rx ry q) hm
noncomputable def OI (t:TE):TT:=fun σ H Q=>t σ H fun x H'=>∃ k,x = .bl k/\Q k H'
theorem Nd {op:CmpOp}{r:R2}(ho:OpR X (iC op) r)(ha:PE X a ta)(hb:PE X b tb)(hm:AL op b=false):PT X (.Compare a [op] [b] pos) (OI (tOp r ta tb)):=by
 intro pins s σ H Q I h
 refine wpAny_isTrue_Compare1 (thn (ha pins s σ H _ I h) fun v s1 ⟨x,H1,I1,r1,q1⟩=>thn (hb pins s1 σ H1 _ I1 q1) fun u s2 ⟨y,H2,I2,r2,q2⟩=>
  thn (ho pins s2 σ H2 x y v u _ I2 r1 r2 q2) fun c s3 ⟨z,H3,I3,r3,k,e,q3⟩=>?_) hm
 subst e
 cases r3
 exact tN ⟨H3,I3,q3⟩
noncomputable def YJ (r r':R2)(ta tb tc:TE):TE:=fun σ H Q=>ta σ H fun x H1=>tb σ H1 fun y H2=>r x y H2 fun z H3=>∃ k,z = .bl k /\
 (if k=true then tc σ H3 fun w' H4=>r' y w' H4 Q else Q (.bl false) H3)
theorem Wa {op op':CmpOp}{r r':R2}(ho:OpR X (iC op) r)(ho':OpR X (iC op') r')(ha:PE X a ta)(hb:PE X b tb)(hc:PE X c tc)
  (hm:lastMarks [op,op'] [b,c]=false:=by with_unfolding_all rfl):PT X (.Compare a [op,op'] [b,c] pos) (OI (YJ r r' ta tb tc)):=by
 intro pins s σ H Q I h
 refine isTrue_chain (thn (ha pins s σ H _ I h) fun v s1 ⟨x,H1,I1,r1,q1⟩=>test_link (thn (hb pins s1 σ H1 _ I1 q1) fun u s2 ⟨y,H2,I2,r2,q2⟩=>
  thn (ho pins s2 σ H2 x y v u _ I2 r1 r2 q2) fun d s3 ⟨z,H3,I3,r3,k,e,q3⟩=>?_)) hm
 subst e
 cases r3
 refine tN ?_
 cases k with
 | false=>
  obtain⟨k',e',q'⟩:=q3
  cases e'
  exact ite_ff ⟨H3,I3,q'⟩
 | true=>
  refine ite_tt (test_last (thn (hc pins s3 σ H3 _ I3 q3) fun w' s4 ⟨z',H4,I4,r4,q4⟩=>thn (ho' pins s4 σ H4 y z' u w' _ I4 r2 r4 q4) fun d' s5 gh=>?_))
  obtain⟨z2,H5,I5,r5,k2,e2,q5⟩:=gh
  subst e2
  cases r5
  exact tN ⟨H5,I5,q5⟩
theorem uY:(sizeLine:Nat)<2 ^ 63:=by rw[nM]; decide
theorem Ay9:OpR X (kZ .Add) (fun x y H Q=>∃ i j,x = .str i/\y = .str j/\i.length+j.length≤sizeLine/\Q (.str (i++j)) H):=by
 intro pins s σ H x y v u Q I rx ry h
 obtain⟨i,j,rfl,rfl,hz,q⟩:=h
 obtain⟨t,rfl⟩:=rx
 obtain⟨t',rfl⟩:=ry
 exact add_str (fun t' tk=>⟨.str (i++j),H,I.tok _,⟨_,rfl⟩,q⟩) hz
theorem vals1 {x:V}{us:List aE}(r:Vals [x] us) : ∃ u,us=[u]/\RelV x u:=by
 cases r with
 | cons r1 r2=>cases r2; exact⟨_,rfl,r1⟩
theorem vals2 {x y:V}{us:List aE}(r:Vals [x,y] us) : ∃ u w',us=[u,w']/\RelV x u/\RelV y w':=by
 cases r with
 | cons r1 r2=>
  cases r2 with
  | cons r3 r4=>cases r4; exact⟨_,_,rfl,r1,r3⟩
theorem Wn:Aeq X (.builtin "abs") (fun xs H Q=>∃ i,xs=[.int i]/\Q (.int (if i<0 then -i else i)) H):=by
 intro pins s σ H xs us Q I r h
 obtain⟨i,rfl,q⟩:=h
 obtain⟨u,rfl,t,rfl⟩:=vals1 r
 exact call_abs_int fun u tk=>⟨.int (if i<0 then -i else i),H,I.tok _,⟨_,rfl⟩,q⟩
theorem Zl:Aeq X (.type "int") (fun xs H Q=>(∃ i,xs=[.int i]/\Q (.int i) H) \/ ∃ k,xs=[.bl k]/\Q (.int (if k then 1 else 0)) H):=by
 intro pins s σ H xs us Q I r h
 rcases h with⟨i,rfl,q⟩ | ⟨k,rfl,q⟩
 ·obtain⟨u,rfl,t,rfl⟩:=vals1 r
  exact call_int_int ⟨.int i,H,I,⟨_,rfl⟩,q⟩
 ·obtain⟨u,rfl,r1⟩:=vals1 r
  cases r1
  exact call_int_bool ⟨.int (if k then 1 else 0),H,I.tok _,⟨_,rfl⟩,q⟩
theorem Rt:Aeq X (.type "str") (fun xs H Q=>∃ i,xs=[.int i]/\i.natAbs.log2<1920/\Q (.str (toString i)) H):=by
 intro pins s σ H xs us Q I r h
 obtain⟨i,rfl,hz,q⟩:=h
 obtain⟨u,rfl,t,rfl⟩:=vals1 r
 exact PySem.P.str_of_int hz ⟨.str _,H,I.tok _,⟨_,rfl⟩,q⟩
end
structure ObjM (h:aU)(x dx C:aD)(mA:aB->Option aE):Prop where
 obj:h.get? x=some (Az C dx)
 ns:h.Ns1 dx mA
 ne:dx≠x
theorem Xb {h:aU}{dx:aD}{mA:aB->Option aE}(n:h.Ns1 dx mA) : ∃ od,h.get? dx=some od /\ ∀ name,Au name od=some (mA name):=by
 obtain⟨o,es,ep,ho,hd,hk,_,hm⟩:=n
 refine⟨o,ho,fun name=>?_⟩
 have e:=hm name
 unfold nsFind findBy at e
 rw[← Array.find?_toList] at e
 unfold Au
 rw[hd]
 dsimp only
 split
 ·rename_i y q
  rw[q] at e
  exact congrArg some e
 ·rename_i q
  rw[q] at e
  have a:es.toList.any (·.refKey)=false:=by
   rw[List.any_eq_false]
   intro y hy
   obtain⟨z,t,hkey⟩:=hk y (Array.mem_toList_iff.mp hy)
   simp[DictEntry.refKey,hkey]
  have a' : ¬ es.toList.any (·.refKey)=true:=by rw[a]; exact qA
  rw[if_neg a']
  exact congrArg some e
theorem ObjM.look {h:aU}{x dx C:aD}{mA:aB->Option aE}(I:ObjM h x dx C mA) : ∃ od,PySem.W.InstAt h x (Az C dx) C (some od) /\ ∀ name,Au name od=some (mA name):=
 let ⟨od,ho,hl⟩:=Xb I.ns
 ⟨od,⟨I.obj,rfl,rfl,ho⟩,hl⟩
theorem A3g.some_of {v:V}{o:Option aE}(r:A3g (some v) o) : ∃ u,o=some u/\RelV v u:=by
 cases o with
 | none=>exact(show False from r).elim
 | some u=>exact⟨u,rfl,r⟩
section
variable {P:bS}{w:bB}{H H':Hp}{h h':aU}{a C dx:aD}{fs fs':List (aB×V)}
theorem Ky (hok:HOk P w H h)(e:H a=some (.ins C dx fs)) : ∃ mA,ObjM h a dx C mA/\(∀ f,A3g (fs.lookup f) (mA f))/\PySem.Within mA (fs.map (·.1))/\fs.length≤1000/\H dx=some (.own a):=by
 obtain⟨d,z,ne,ob,mA,n,r,q⟩:=(show Ac4 P w H h a (.ins C dx fs) from hok a _ e)
 exact⟨mA,⟨ob,n,ne⟩,r,q,z,d⟩
end
structure Cls (K:aK)(C:aD):Prop where
 pg:PySem.W.plainGet K C Str.empty=true
 hd:PySem.W.hasDictIn K C=true
 po:PySem.W.plainOver K C=true
 sa:PySem.W.findIn K (.ref C) "__setattr__" = some (some (.builtin "object.__setattr__"))
theorem Cls.get {K:aK}{C:aD}(c:Cls K C)(f:aB):PySem.W.plainGet K C f=true:=c.pg
section
variable {X:Cx}{pins:List (aD×aY)}{σ:St}{H:Hp}{s:aG}{A:cE}{E:aE->aG->Prop}{Q:aE->aG->Prop}{c:aE}{b:Bool}
inductive TyOf (K:aK)(H:Hp):V->aE->Prop where
 | non:TyOf K H .non (.type "NoneType")
 | bl (x:Bool):TyOf K H (.bl x) (.type "bool")
 | int (i:Int):TyOf K H (.int i) (.type "int")
 | str (x:aB):TyOf K H (.str x) (.type "str")
 | flt (x:UInt64):TyOf K H (.flt x) (.type "float")
 | lst {a:aD} {xs:List V} (e:H a=some (.lst xs)):TyOf K H (.ref a) (.type "list")
 | frz {a:aD} {o:aY} {xs:List V} (e:H a=some (.frz o (.lst xs))):TyOf K H (.ref a) (.type "list")
 | tup {a:aD} {xs:List V} (e:H a=some (.tup xs)):TyOf K H (.ref a) (.type "tuple")
 | dK {a:aD} {ep:Nat} {kvs:List (aO×V)} (e:H a=some (.dK ep kvs)):TyOf K H (.ref a) (.type "dict")
 | dT {a:aD} {ep:Nat} {kvs:List (List aA×V)} (e:H a=some (.dT ep kvs)):TyOf K H (.ref a) (.type "dict")
 | ins {a C dx:aD} {fs:List (aB×V)} (e:H a=some (.ins C dx fs)) (cl:Cls K C) (ha:PySem.W.findIn K (.ref C) "__class__" = some (some (.builtin "object.__class__")))
   (hn:PySem.W.specialIn K (.builtin "object.__class__") "__get__" = some (some (.builtin "getset_descriptor.__get__"))) (htk:PySem.W.takesIn K (.builtin "object.__class__")=some true)
   (hm:PySem.W.mroIn K C (.type "object")=some true):TyOf K H (.ref a) (.ref C)
theorem Yv {x:V}{u t:aE}(I:Inv X pins σ H s)(rx:RelV x u)(ty:TyOf X.K H x t)(e:Ay X.K t c=some b)(h : ∀ tk,Q (.bool b) { s with toks:=tk }) :
  aN (aR X.prog X.w) A (call (.builtin "isinstance") [u,c]) Q E s:=by
 cases ty with
 | non=>cases(show u=fZ from rx); exact mP PySem.W.kitx_none I.kIn rK e (fun z=>nomatch z) h
 | bl y=>cases(show u=Value.bool y from rx); exact mP PySem.W.kitx_bool I.kIn rK e (fun z=>nomatch z) h
 | int i=>obtain⟨t,q⟩:=(show ∃ t,u=Value.int i t from rx); cases q; exact mP PySem.W.kitx_int I.kIn rK e (fun z=>nomatch z) h
 | str y=>obtain⟨t,q⟩:=(show ∃ t,u=Value.str y t from rx); cases q; exact mP PySem.W.kitx_str I.kIn rK e (fun z=>nomatch z) h
 | flt y=>obtain⟨t,q⟩:=(show ∃ t,u=Value.float y t from rx); cases q; exact mP PySem.W.kitx_float I.kIn rK e (fun z=>nomatch z) h
 | @lst a xs ea=>
  cases(show u=fQ a from rx)
  obtain⟨_,_,n,_,h1⟩:=(show Ac4 X.prog X.w H s.heap a (.lst xs) from I.hok a _ ea)
  exact mP Av I.kIn ⟨_,h1,rfl⟩ e (fun z=>nomatch z) h
 | @frz a ob xs ea=>
  cases(show u=fQ a from rx)
  obtain⟨_,_,_,n,_,h1⟩:=(show Ac4 X.prog X.w H s.heap a (.frz ob (.lst xs)) from I.hok a _ ea)
  exact mP Av I.kIn ⟨_,h1,rfl⟩ e (fun z=>nomatch z) h
 | @tup a xs ea=>
  cases(show u=fQ a from rx)
  obtain⟨_,_,_,p⟩:=(show Ac4 X.prog X.w H s.heap a (.tup xs) from I.hok a _ ea)
  obtain⟨o,h1,h2,_⟩:=p.1
  exact mP PySem.W.kitx_tuple I.kIn ⟨o,h1,h2⟩ e (fun z=>nomatch z) h
 | @dK a ep kvs ea=>
  cases(show u=fQ a from rx)
  obtain⟨_,_,vs,_,p⟩:=(show Ac4 X.prog X.w H s.heap a (.dK ep kvs) from I.hok a _ ea)
  obtain⟨o,es,h1,h2,_⟩:=p
  exact mP Ax I.kIn ⟨o,h1,h2.1⟩ e (fun z=>nomatch z) h
 | @dT a ep kvs ea=>
  cases(show u=fQ a from rx)
  obtain⟨_,_,xs,_,o,es,h1,h2,_⟩:=(show Ac4 X.prog X.w H s.heap a (.dT ep kvs) from I.hok a _ ea)
  exact mP Ax I.kIn ⟨o,h1,h2.1⟩ e (fun z=>nomatch z) h
 | @ins a C dx fs ea cl ha hn htk hm=>
  cases(show u=fQ a from rx)
  obtain⟨mA,O,_⟩:=Ky I.hok ea
  obtain⟨od,J,_⟩:=O.look
  exact mP (PySem.W.kitx_own (cl.get _) cl.hd ha hn htk hm) I.kIn J e (fun z=>nomatch z) h
end
structure Room (k:Nat)(A:cE):Prop where
 hd:A.handled=none
 dp:A.depth+3*k+5<recursionLimit
 un:A.units+16*k+200<cLine
theorem Room.mono {j k:Nat}{A:cE}(r:Room k A)(h:j≤k):Room j A:=⟨r.hd,by have:=r.dp; omega,by have:=r.un; omega⟩
theorem Room.deeper {k:Nat}{A:cE}(r:Room (k+1) A)(env:eT):Room k (A.deeper env):=
 ⟨r.hd,by have:=r.dp; show A.depth+1+3*k+5<_; omega,by have:=r.un; show A.units+3+16*k+200<_; omega⟩
theorem Room.depth {k:Nat}{A:cE}(r:Room k A):A.depth<recursionLimit:=by have:=r.dp; omega
theorem Room.units {k:Nat}{A:cE}(r:Room k A):A.units+64<cLine:=by have:=r.un; omega
noncomputable abbrev Dg:TA:=fun _ H Q=>Q [] H
noncomputable abbrev Eg (ta:TE)(tr:TA):TA:=fun σ H Q=>ta σ H fun x H1=>tr σ H1 fun xs H2=>Q (x::xs) H2
section
variable {X:Cx}{e:aW}{es:List aW}{te:TE}{t:TA}{pos:cC}
theorem lX:PA X [] Dg:=fun _ _ _ _ H Q I h=>Calls.spliced_nil ⟨[],H,I,.nil,h⟩
theorem kS (ha:PE X e te)(hr:PA X es t)(hs:bI (e::es) X.env=(false,bZ e X.env)::bI es X.env:=by rfl):PA X (e::es) (Eg te t):=by
 intro pos pins s σ H Q I h
 rw[hs]
 show aN _ _ (spliced ((false,bZ e X.env)::eM pos (bI es X.env))) _ _ s
 refine Calls.spliced_cons (thn (ha pins s σ H _ I h) fun u s1 gh=>?_)
 obtain⟨x,H1,I1,r1,q1⟩:=gh
 exact thn (hr pos pins s1 σ H1 _ I1 q1) fun us s2 ⟨xs,H2,I2,r2,q2⟩=>⟨x::xs,H2,I2,.cons r1 r2,q2⟩
noncomputable def De (t:TA):TE:=fun σ H Q=>t σ H fun xs H1=>xs.length≤sizeLine /\ ∀ p,H1 p=none->Q (.ref p) (upd H1 p (.tup xs))
noncomputable def Dk (t:TA):TE:=fun σ H Q=>t σ H fun xs H1=>xs.length≤sizeLine /\ ∀ p,H1 p=none->Q (.ref p) (upd H1 p (.lst xs))
theorem Ic {x1}(h:PA X es t):PE X (.Tuple es x1 pos) (De t):=by
 intro pins s σ H Q I hq
 refine wpAny_Tuple_spliced (thn (h pos pins s σ H _ I hq) fun us s1 ⟨xs,H1,I1,r,z,q⟩=>⟨by rw[← r.length]; exact z,?_⟩)
 have hf:H1 s1.heap.objs.size=none:=I1.hok.fresh (bU _)
 refine⟨.ref s1.heap.objs.size,upd H1 s1.heap.objs.size (.tup xs),I1.laid (t':=s1.toks) (fun b u e=>cP _ e) (bU _) ?_,rfl,q _ hf⟩
 exact⟨z,us,r,⟨_,eP _ rfl,rfl,_,rfl⟩,_,eP _ rfl,rfl⟩
theorem Iv (h:PA X es t):PE X (.List es pos) (Dk t):=by
 intro pins s σ H Q I hq
 refine wpAny_List_spliced (thn (h pos pins s σ H _ I hq) fun us s1 ⟨xs,H1,I1,r,z,q⟩=>⟨by rw[← r.length]; exact z,?_⟩)
 have hf:H1 s1.heap.objs.size=none:=I1.hok.fresh (bU _)
 refine⟨.ref s1.heap.objs.size,upd H1 s1.heap.objs.size (.lst xs),I1.laid (t':=s1.toks) (fun b u e=>cP _ e) (bU _) ?_,rfl,q _ hf⟩
 exact⟨z,us,0,r,eP _ rfl⟩
end
abbrev Sp:=List V->Hp->VK->XK->Prop
abbrev CXT:=List eT->Hp->aG->XK->aE->aG->Prop
structure Env0 (P:bS)(w:bB)(K:aK)(mg:aB->Option aE)(base:aU)(A:cE)(outer:List eT)(s:aG)(H:Hp):Prop where
 frames:A.frames=some outer
 mod:Mod K mg base
 bs : ∀ b o,base.get? b=some o->s.heap.get? b=some o/\H b=none
 bsz:base.objs.size≤s.heap.objs.size
 funs:s.heap.FunFrames base outer
 frf : ∀ b∈frs outer,H b=none
 hok:HOk P w H s.heap
 bare:qC s.gens
def CE (outer:List eT)(P:bS)(w:bB)(H:Hp)(s:aG)(Q:VK)(u:aE)(s':aG):Prop:=
 ∃ v H',s'.os=s.os/\qC s'.gens/\Un (frs outer) [] H H' s.heap s'.heap/\HOk P w H' s'.heap/\RelV v u/\Q v H'
def CR (CX:CXT)(outer:List eT)(P:bS)(w:bB)(H:Hp)(s:aG)(Q:VK)(E:XK)(r:Result)(s':aG):Prop:=
 match r with
 | .ok (.ret u)=>CE outer P w H s Q u s'
 | .ok _=>False
 | .error e=>CX outer H s E e s'
structure FnOk (P:bS)(w:bB)(K:aK)(mg:aB->Option aE)(base:aU)(CX:CXT)(k:Nat)(f:aD)(fd:gD)(ps:List aB)(sp:Sp):Prop where
 len : ∀ vs H Q E,sp vs H Q E->vs.length=ps.length
 run : ∀ (A:cE) (outer:List eT) (s:aG) (H:Hp) (args:Args) (us:List aE) (vs:List V) (Q:VK) (E:XK),Room k A->Env0 P w K mg base A outer s H->xQ s fd args (ps.zip us)->Vals vs us->sp vs H Q E ->
  mD (aR P w) A (.call (.ref f) args) (CR CX outer P w H s Q E) s
theorem FnOk.imp {P:bS}{w:bB}{K:aK}{mg:aB->Option aE}{base:aU}{CX:CXT}{k:Nat}{f:aD}{fd:gD}{ps:List aB}{sp sp':Sp}(F:FnOk P w K mg base CX k f fd ps sp)
  (h : ∀ vs H Q E,sp' vs H Q E->sp vs H Q E):FnOk P w K mg base CX k f fd ps sp':=
 ⟨fun vs H Q E q=>F.len vs H Q E (h _ _ _ _ q),fun A outer s H args us vs Q E hr he hb hv hs=>F.run A outer s H args us vs Q E hr he hb hv (h _ _ _ _ hs)⟩
section
variable {X:Cx}{pins:List (aD×aY)}{σ:St}{H:Hp}{s s':aG}
theorem Inv.env0 (I:Inv X pins σ H s):Env0 X.prog X.w X.K X.mg X.base X.A X.stack s H:=
 ⟨I.ok.frames,I.ok.mod,I.bs,jB I.ok.bsz I.sz,I.stack,I.stkFree,I.hok,I.bare⟩
theorem Inv.after {Q:VK}{u:aE}(I:Inv X pins σ H s)(h:CE X.stack X.prog X.w H s Q u s'):EP X pins σ Q u s':=by
 obtain⟨v,H',os,bare,un,hok,r,q⟩:=h
 obtain⟨hh,g,d,t,os'⟩:=s'
 obtain rfl:os'=s.os:=os
 exact⟨v,H',I.call (h':=hh) (g':=g) (d':=d) (t':=t) (ch:=[]) un hok bare (fun b z=>absurd z (by simp)),r,q⟩
end
noncomputable def HB (sp:Sp)(dvs:List V)(E:XK)(t:TA):TE:=fun σ H Q=>t σ H fun vs H1=>sp (vs++dvs) H1 Q E
def Binds (K:aK)(fd:gD)(ps:List aB)(ds:List aE):Prop:=
 ∀ (s:aG) (us:List aE),K.In s.heap->(us++ds).length=ps.length->xQ s fd ⟨us,[]⟩ (ps.zip (us++ds))
theorem Binds.all {K:aK}{fd:gD}{ps:List aB}(h : ∀ us:List aE,us.length=ps.length->xD fd ⟨us,[]⟩=pure (ps.zip us)):Binds K fd ps []:=fun s us _ hl=>by
 rw[rS] at hl ⊢
 exact .of_eq (h us hl)
def Passes (CX:CXT)(X:Cx)(E:XK):Prop:=∀ (pins:List (aD×aY)) (σ:St) (H:Hp) (s:aG) (e:aE) (s':aG),Inv X pins σ H s->CX X.stack H s E e s'->X.xe e s'
section
variable {X:Cx}{CX:CXT}{k:Nat}{f C:aD}{fd:gD}{ps:List aB}{sp:Sp}{dvs:List V}{ds:List aE}{E:XK}{x m:aB}{p pos apos:cC}{e o:aW}{es:List aW}{ta:TE}{t:TA}
theorem YG {pins:List (aD×aY)}{σ:St}{H:Hp}{s:aG}{Q:VK}{us:List aE}{vs:List V}(F:FnOk X.prog X.w X.K X.mg X.base CX k f fd ps sp)(hr:Room k X.A)(hb:Binds X.K fd ps ds)(hd:Vals dvs ds)(hx:Passes CX X E)
  (I:Inv X pins σ H s) (r:Vals vs us) (h:sp (vs++dvs) H Q E):aN (aR X.prog X.w) X.A (call (.ref f) us) (EP X pins σ Q) X.xe s:=by
 have r2:Vals (vs++dvs) (us++ds):=r.append hd
 have hl:(us++ds).length=ps.length:=by rw[← r2.length]; exact F.len _ _ _ _ h
 refine wpAny_call (tR (F.run X.A X.stack s H ⟨us,[]⟩ (us++ds) (vs++dvs) Q E hr I.env0 (hb s us I.kIn hl) r2 h) fun r s' hq=>?_)
 cases r with
 | error e=>exact hx pins σ H s e s' I hq
 | ok fl=>
  cases fl with
  | ret u=>exact I.after hq
  | next=>exact mZ hq
  | brk=>exact mZ hq
  | cont=>exact mZ hq
theorem ZK (F:FnOk X.prog X.w X.K X.mg X.base CX k f fd ps sp)(hr:Room k X.A)(hg:Gl X x)(hm:X.mg x=some (.ref f))(hk:rL X.K (.ref f)=true)(hb:Binds X.K fd ps ds)(hd:Vals dvs ds)(hx:Passes CX X E)
  (ha:PA X (e::es) t) (hdb:(x == ("__debug__" : aB))=false:=by decide) (he:bI (e::es) X.env=(false,bZ e X.env)::bI es X.env:=by rfl) (hpl:(eM pos (bI es X.env)).any (·.1)=false:=by rfl) :
  PE X (.Call (.Name x p) (e::es) [] pos) (HB sp dvs E t):=by
 intro pins s σ H Q I h
 refine FG (vN I hg hm ?_ hdb)
 refine Ba (h₀:=X.base) I.ok.mod.kin hk (thn (ha pos pins s σ H _ I h) fun us s1 ⟨vs,H1,I1,r,q⟩=>⟨I1.kIn,?_⟩) he hpl
 exact YG F hr hb hd hx I1 r q
end
structure FnScope (N P:List aB)(sc:iP):Prop where
 kind:sc.kind = .function
 co:sc.isCoroutine=false
 gen:sc.isGenerator=false
 nd:N.Nodup
 pre:N.take P.length=P
 par : ∀ x∈P,sc.names.lookup x=some .local \/ sc.names.lookup x=some .cell
 nofree : ∀ y∈sc.names,y.2 ≠ .free
theorem UN {kindOf:aB->Option mT}{x:aB} : ∀ {binds:List (aB×aE)} {m:aB->Option aE},(∀ v,(x,v)∉binds)->bindL kindOf binds m x=m x
 | [],_,_=>rfl
 | (n,v)::r,m,h=>by
  unfold bindL
  rw[UN fun w hw=>h w (cA _ hw)]
  split
  ·have:x≠n:=by rintro rfl; exact h v bQ
   simp[this]
  ·rfl
theorem VF {kindOf:aB->Option mT}{x:aB} : ∀ {binds:List (aB×aE)} {m:aB->Option aE},(∀ v,(x,v)∉binds)->bindC kindOf binds m x=m x
 | [],_,_=>rfl
 | (n,v)::r,m,h=>by
  unfold bindC
  rw[VF fun w hw=>h w (cA _ hw)]
  split
  ·rfl
  ·have:x≠n:=by rintro rfl; exact h v bQ
   simp[this]
theorem TV {kindOf:aB->Option mT}{x:aB}{v:aE} : ∀ {P:List aB} {vs:List aE} {i:Nat} {m:aB->Option aE},P.Nodup->P[i]?=some x->vs[i]?=some v->kindOf x=some .local ->
  bindL kindOf (P.zip vs) m x=some v
 | [],_,_,_,_,h,_,_=>by simp at h
 | _::_,[],_,_,_,_,h,_=>by simp at h
 | p::P,w::vs,0,m,nd,h1,h2,hk=>by
  simp at h1 h2; subst h1; subst h2
  show bindL kindOf ((p,w)::P.zip vs) m p=_
  unfold bindL
  rw[UN fun v hv=>(oR.mp nd).1 (Bp hv).1,if_pos hk]
  simp
 | p::P,w::vs,i+1,m,nd,h1,h2,hk=>by
  show bindL kindOf ((p,w)::P.zip vs) m x=_
  unfold bindL
  exact TV (i:=i) (oR.mp nd).2 (by simpa using h1) (by simpa using h2) hk
theorem UH {kindOf:aB->Option mT}{x:aB}{v:aE} : ∀ {P:List aB} {vs:List aE} {i:Nat} {m:aB->Option aE},P.Nodup->P[i]?=some x->vs[i]?=some v->kindOf x≠some .local ->
  bindC kindOf (P.zip vs) m x=some v
 | [],_,_,_,_,h,_,_=>by simp at h
 | _::_,[],_,_,_,_,h,_=>by simp at h
 | p::P,w::vs,0,m,nd,h1,h2,hk=>by
  simp at h1 h2; subst h1; subst h2
  show bindC kindOf ((p,w)::P.zip vs) m p=_
  unfold bindC
  rw[VF fun v hv=>(oR.mp nd).1 (Bp hv).1,if_neg hk]
  simp
 | p::P,w::vs,i+1,m,nd,h1,h2,hk=>by
  show bindC kindOf ((p,w)::P.zip vs) m x=_
  unfold bindC
  exact UH (i:=i) (oR.mp nd).2 (by simpa using h1) (by simpa using h2) hk
noncomputable def start (N:List aB)(vs:List V):St:=vs.map some++mU (N.length - vs.length) none
noncomputable def jV (CX:CXT)(P:bS)(w:bB)(K:aK)(mg:aB->Option aE)(base:aU)(N:List aB)(qual:aB)(scope:iP)(f:aD)(cd:aE)(A:cE)(outer:List eT)(s:aG)(H:Hp)(E:XK):Cx where
 prog:=P
 w:=w
 K:=K
 mg:=mg
 base:=base
 A:=A.deeper (jA qual scope s.heap.objs.size f cd)
 N:=N
 s₀:=s
 H₀:=H
 env:=jA qual scope s.heap.objs.size f cd
 outer:=outer
 stack:=jA qual scope s.heap.objs.size f cd::outer
 ex:=[]
 calm:=true
 fn:=fun _=>true
 pn:=[]
 xe:=fun e s'=>aN (aR P w) (A.deeper (jA qual scope s.heap.objs.size f cd)) (leaving (jA qual scope s.heap.objs.size f cd) e) (fun _ s''=>CX outer H s E e s'') (fun e' s''=>CX outer H s E e' s'') s'
theorem SN {sc:iP}{n:Nat}{x:aB}(h:sc.names.lookup x=some .cell) : ∃ c,(cellsFrom n sc.names []).lookup x=some c:=by
 have q:=PySem.W.cellsFrom_some sc.names n [] (.inl h)
 exact Bk.mp q
theorem Nt {CX:CXT}{P:bS}{w:bB}{K:aK}{mg:aB->Option aE}{base:aU}{N ps:List aB}{qual:aB}{scope:iP}{f:aD}{cd:aE}{A:cE}{outer:List eT}{s s1:aG}{H:Hp}{E:XK}{us:List aE}{vs:List V}
  (S:FnScope N ps scope) (hd:A.handled=none) (e0:Env0 P w K mg base A outer s H) (hl:vs.length=ps.length) (r:Vals vs us)
  (x:InCallC s s.heap.objs.size (bindL (jA qual scope s.heap.objs.size f cd).kindOf (ps.zip us) fun _=>none) (cellsFrom (s.heap.objs.size+1) scope.names []) (bindC (jA qual scope s.heap.objs.size f cd).kindOf (ps.zip us) fun _=>none) s1) :
  Inv (jV CX P w K mg base N qual scope f cd A outer s H E) [] (start N vs) H s1:=by
 have hpl:ps.length≤N.length:=by have:=congrArg xK S.pre; rw[mW] at this; omega
 obtain⟨h1,tk,rfl,hk⟩:=x.done
 have noA : ∀ b:aD,b∉(jV CX P w K mg base N qual scope f cd A outer s H E).ex:=fun b z=>absurd (show b∈([]:List aD) from z) (by simp)
 refine⟨⟨e0.mod,S.kind,rfl,rfl,bU _,fun y z c h1 h2=>?_,fun y hy=>?_,fun y c _ h=>?_,fun _=>hd,Around.frames_deeper e0.frames,.inr ⟨rfl,rfl⟩,fun b z=>absurd z (noA b),e0.bs,e0.bsz,fun b _ _=>noA b,fun b z=>absurd z (noA b),e0.funs,e0.frf⟩,
  rfl,e0.bare,Un.kept hk,⟨_,x.toInCall.ns,fun i y v h1 h2 h3=>?_⟩,fun y c h=>⟨_,x.cell y c h⟩,e0.hok.fresh (bU _),fun y c h=>?_,fun p hp=>absurd (show p∈([]:List (aD×aY)) from hp) (by simp),e0.hok.kept hk,?_⟩
 ·exact name_of_addr x.apart (FO h1) (FO h2)
 ·have hy:scope.names.lookup y=some .cell \/ scope.names.lookup y=some .free:=hy
  rcases hy with hy | hy
  ·exact SN hy
  ·exact absurd rfl (S.nofree _ (FO hy))
 ·exact tY (x.above y c (FO h))
 ·have hi:i<vs.length:=by
   unfold start at h2
   by_cases hi:i<vs.length
   ·exact hi
   ·rw[xN (by simpa using hi)] at h2
    rw[List.getElem?_replicate] at h2
    split at h2 <;> cases h2
  have ha:vs[i]?=some v:=by
   unfold start at h2
   rw[rR (by simpa using hi),fM] at h2
   cases e:vs[i]? with
   | none=>rw[e] at h2; cases h2
   | some a=>rw[e] at h2; cases h2; rfl
  obtain⟨u,hu,rv⟩:=r.get ha
  have hp:ps[i]?=some y:=by
   rw[← S.pre,Bv (by omega)]; exact h1
  have ndP:ps.Nodup:=by rw[← S.pre]; exact S.nd.sublist (List.take_sublist _ _)
  refine⟨u,rv,?_⟩
  rcases S.par y (iH hp) with k | k
  ·exact .inl ⟨k,TV ndP hp hu k⟩
  ·obtain⟨c,e⟩:=SN (n:=s.heap.objs.size+1) k
   refine .inr ⟨.inl k,c,e,?_⟩
   have q:=x.cell y c e
   rw[UH ndP hp hu (by show scope.names.lookup y≠_; rw[k]; decide)] at q
   exact q
 ·exact e0.hok.fresh (tY (x.above y c (FO h)))
 ·unfold start
  show _=N.length
  rw[fL,cX,List.length_replicate]
  omega
theorem ON {CX:CXT}{P:bS}{w:bB}{K:aK}{mg:aB->Option aE}{base:aU}{k:Nat}{f:aD}{name qual:aB}{params:Arguments}{body:List bR}{scope:iP}{dV kV doc pm cdv ct oc:aE}{an od:Option aD}
  {osl:Array (Option aE)} {N ps:List aB} {sp:Sp} (lk:K.lookup f=some ⟨oc,od,.func (lF name qual params body scope dV kV doc pm an cdv ct),osl⟩) (hcd:AO K cdv qual=true) (S:FnScope N ps scope)
  (len : ∀ vs H Q E,sp vs H Q E->vs.length=ps.length)
  (hbody : ∀ (A:cE) (outer:List eT) (s:aG) (H:Hp) (vs:List V) (Q:VK) (E:XK),Room k (A.deeper (jA qual scope s.heap.objs.size f cdv))->sp vs H Q E ->
   ∃ t,PSs (jV CX P w K mg base N qual scope f cdv A outer s H E) body t/\t { nx:=fun _ H'=>Q .non H',rt:=Q } (start N vs) H) :
  FnOk P w K mg base CX (k+1) f (lF name qual params body scope dV kV doc pm an cdv ct) ps sp:=by
 refine⟨len,fun A outer s H args us vs Q E hr e0 hb r hsp=>?_⟩
 have hl:=len _ _ _ _ hsp
 have KX:K.In s.heap:=e0.mod.kin.keeps fun b o e=>(e0.bs b o e).1
 have lim:s.heap.NoLimit:=e0.mod.nolimit.keeps fun b o e=>(e0.bs b o e).1
 have hkind : ∀ y∈ps.zip us,scope.names.lookup y.1=some .local \/ (scope.names.lookup y.1=some .cell/\((cellsFrom (s.heap.objs.size+1) scope.names []).lookup y.1).isSome=true):=fun⟨n,v⟩ hy=>by
  rcases S.par n (Bp hy).1 with q | q
  ·exact .inl q
  ·exact .inr ⟨q,PySem.W.cellsFrom_some _ _ _ (.inl q)⟩
 refine codeAny_call_function hr.depth (KX _ _ lk) rfl S.co S.gen rfl (PySem.W.codeRec_of KX hcd) (hb _ _ _ _ ?_)
 refine wpAny_newFunctionEnv_cells S.kind hkind fun env he s1 x=>?_
 subst he
 refine⟨lim.keeps x.toInCall.keep,codeAny_func ?_⟩
 obtain⟨t,ht,hq⟩:=hbody A outer s H vs Q E (hr.deeper _) hsp
 have I:Inv (jV CX P w K mg base N qual scope f cdv A outer s H E) [] (start N vs) H s1:=Nt S hr.hd e0 hl r x
 refine kW (ht [] s1 (start N vs) H _ I hq) (fun fl s' hs=>?_) fun e s' hs=>hs
 have fin : ∀ {σ':St} {H':Hp} {v:V} {u:aE},Inv (jV CX P w K mg base N qual scope f cdv A outer s H E) [] σ' H' s'->RelV v u->Q v H'->CE outer P w H s Q u s':=
  fun {σ' H' v u} J rv q=>⟨v,H',J.os,J.bare,J.base,J.hok,rv,q⟩
 cases fl with
 | ret u=>
  obtain⟨v,σ',H',J,rv,q⟩:=hs
  exact fin J rv q
 | next=>
  obtain⟨σ',H',J,q⟩:=hs
  exact fin (v:=V.non) (u:=fZ) J rfl q
 | brk=>
  obtain⟨_,_,_,q⟩:=hs
  exact mZ q
 | cont=>
  obtain⟨_,_,_,q⟩:=hs
  exact mZ q
section
variable {X:Cx}{x:aB}{p pos:cC}{e:aW}{es:List aW}{t:TA}{id T:String}{r:List V->Hp->VK->Prop}
noncomputable def tCB (r:List V->Hp->VK->Prop)(t:TA):TE:=fun σ H Q=>t σ H fun vs H1=>r vs H1 Q
theorem CQ (hc:Aeq X (.builtin id) r)(hg:Gl X x)(hm:X.mg x=none)(hv:mO x=some (.builtin id))(ha:PA X (e::es) t)(hn:x ≠ "__name__":=by decide)(hdb:(x == ("__debug__" : aB))=false:=by decide)
  (he:bI (e::es) X.env=(false,bZ e X.env)::bI es X.env:=by rfl) (hpl:(eM pos (bI es X.env)).any (·.1)=false:=by rfl):PE X (.Call (.Name x p) (e::es) [] pos) (tCB r t):=by
 intro pins s σ H Q I h
 refine FG (CD I hg hm hv ?_ hn hdb)
 exact PyProof.Rows.callWith_builtin1 (thn (ha pos pins s σ H _ I h) fun us s1 ⟨vs,H1,I1,r1,q1⟩=>hc pins s1 σ H1 vs us Q I1 r1 q1) he hpl
theorem JR (hc:Aeq X (.type T) r)(hg:Gl X x)(hm:X.mg x=none)(hv:mO x=some (.type T))(ha:PA X (e::es) t)(hn:x ≠ "__name__":=by decide)(hdb:(x == ("__debug__" : aB))=false:=by decide)
  (he:bI (e::es) X.env=(false,bZ e X.env)::bI es X.env:=by rfl) (hpl:(eM pos (bI es X.env)).any (·.1)=false:=by rfl):PE X (.Call (.Name x p) (e::es) [] pos) (tCB r t):=by
 intro pins s σ H Q I h
 refine FG (CD I hg hm hv ?_ hn hdb)
 exact Zr (thn (ha pos pins s σ H _ I h) fun us s1 ⟨vs,H1,I1,r1,q1⟩=>hc pins s1 σ H1 vs us Q I1 r1 q1) he hpl
end
section
variable {κ:Type}[DecidableEq κ]
noncomputable def jK (kvs:List (κ×V))(k:κ):Option V:=(kvs.find? fun kv=>decide (kv.1=k)).map (·.2)
noncomputable def putK (kvs:List (κ×V))(k:κ)(v:V):List (κ×V):=
 if (kvs.any fun kv=>decide (kv.1=k))=true then kvs.map (fun kv=>if kv.1=k then(kv.1,v) else kv) else kvs++[(k,v)]
theorem yO {p:κ×V}{r:List (κ×V)}{k:κ}(e:p.1=k):jK (p::r) k=some p.2:=by simp[jK,oU,e]
theorem yK {p:κ×V}{r:List (κ×V)}{k:κ}(e : ¬ p.1=k):jK (p::r) k=jK r k:=by simp[jK,oU,e]
theorem RJ (k:κ) : ∀ kvs:List (κ×V),(kvs.any fun kv=>decide (kv.1=k))=(jK kvs k).isSome
 | []=>rfl
 | p::r=>by
  rw[BE]
  by_cases e:p.1=k
  ·simp only[yO e,decide_eq_true e,Bool.true_or,Option.isSome_some]
  ·rw[yK e,decide_eq_false e,Bool.false_or]; exact RJ k r
theorem WR (kvs:List (κ×V))(k:κ)(v:V):(putK kvs k v).length≤kvs.length+1:=by
 unfold putK
 split
 ·rw[cX]; omega
 ·rw[fL,fI,List.length_nil]; omega
theorem A3g.isSome_eq {o:Option V}{u:Option aE}(r:A3g o u):o.isSome=u.isSome:=by
 cases o with
 | none=>cases u with
  | none=>rfl
  | some _=>exact(show False from r).elim
 | some _=>cases u with
  | none=>exact(show False from r).elim
  | some _=>rfl
theorem KV.val {kvs:List (κ×V)}{vs:List (κ×aE)}(r:KV kvs vs)(k:κ):A3g (jK kvs k) (wW vs k):=by
 unfold KV at r
 induction r with
 | nil=>exact rK
 | @cons p q ps qs h t ih=>
  obtain⟨h1,h2⟩:=h
  by_cases e:p.1=k
  ·have e':q.1=k:=h1.symm.trans e
   have b:wW (q::qs) k=some q.2:=by simp[wW,oU,e']
   rw[yO e,b]; exact h2
  ·have e' : ¬ q.1=k:=fun z=>e (h1.trans z)
   have b:wW (q::qs) k=wW qs k:=by simp[wW,oU,e']
   rw[yK e,b]; exact ih
theorem KV.any {kvs:List (κ×V)}{vs:List (κ×aE)}(r:KV kvs vs)(k:κ):(kvs.any fun kv=>decide (kv.1=k))=vs.any fun kv=>decide (kv.1=k):=by
 unfold KV at r
 induction r with
 | nil=>rfl
 | cons h t ih=>rw[BE,BE,ih,h.1]
theorem KV.repl {kvs:List (κ×V)}{vs:List (κ×aE)}(r:KV kvs vs)(k:κ){y:V}{u:aE}(ry:RelV y u) :
  KV (kvs.map fun kv=>if kv.1=k then(kv.1,y) else kv) (vs.map fun kv=>if kv.1=k then(kv.1,u) else kv):=by
 unfold KV at r ⊢
 induction r with
 | nil=>exact .nil
 | @cons p q ps qs h t ih=>
  rw[fE,fE]
  refine .cons ?_ ih
  obtain⟨h1,h2⟩:=h
  by_cases e:p.1=k
  ·rw[if_pos e,if_pos (h1.symm.trans e)]; exact⟨h1,ry⟩
  ·rw[if_neg e,if_neg (fun z=>e (h1.trans z))]; exact⟨h1,h2⟩
theorem KV.put {kvs:List (κ×V)}{vs:List (κ×aE)}(r:KV kvs vs)(k:κ){y:V}{u:aE}(ry:RelV y u):KV (putK kvs k y) (stored vs k u):=by
 unfold putK stored
 rw[r.any k]
 by_cases e:(vs.any fun kv=>decide (kv.1=k))=true
 ·rw[if_pos e,if_pos e]; exact r.repl k ry
 ·rw[if_neg e,if_neg e]; exact Paired.snoc r ⟨rfl,ry⟩
theorem KV.length {kvs:List (κ×V)}{vs:List (κ×aE)}(r:KV kvs vs):kvs.length=vs.length:=pU r
end
theorem ES {P:bS}{w:bB}{k:aO}{u:aE}(r:RelV (kV k) u):(iZ P w).is k u=true:=by
 cases k with
 | inl i=>obtain⟨t,e⟩:=(show ∃ t,u=Value.int i t from r); subst e; exact KN P w i t
 | inr x=>obtain⟨t,e⟩:=(show ∃ t,u=Value.str x t from r); subst e; exact KI P w x t
abbrev KT (H:Hp):List (List aA×V)->List (List aA×aD×aE)->Prop:=eR fun p q=>p.1=q.1/\A4z H p.1 q.2.1/\RelV p.2 q.2.2
theorem KT.val {H:Hp}{kvs:List (List aA×V)}{xs:List (List aA×aD×aE)}(r:KT H kvs xs)(k:List aA):A3g (jK kvs k) ((atKey xs k).map (·.2)):=by
 induction r with
 | nil=>exact rK
 | @cons p q ps qs h t ih=>
  obtain⟨h1,_,h2⟩:=h
  by_cases e:p.1=k
  ·have e':q.1=k:=h1.symm.trans e
   have b:atKey (q::qs) k=some q.2:=by simp[atKey,oU,e']
   rw[yO e,b]; exact h2
  ·have e' : ¬ q.1=k:=fun z=>e (h1.trans z)
   have b:atKey (q::qs) k=atKey qs k:=by simp[atKey,oU,e']
   rw[yK e,b]; exact ih
theorem KT.repl {H:Hp}{kvs:List (List aA×V)}{xs:List (List aA×aD×aE)}(r:KT H kvs xs)(k:List aA){y:V}{u:aE}(ry:RelV y u) :
  KT H (kvs.map fun kv=>if kv.1=k then(kv.1,y) else kv) (xs.map (putAt k u)):=by
 induction r with
 | nil=>exact .nil
 | @cons p q ps qs h t ih=>
  rw[fE,fE]
  refine .cons ?_ ih
  obtain⟨h1,h2,h3⟩:=h
  unfold putAt
  by_cases e:p.1=k
  ·rw[if_pos e,if_pos (h1.symm.trans e)]; exact⟨h1,h2,ry⟩
  ·rw[if_neg e,if_neg (fun z=>e (h1.trans z))]; exact⟨h1,h2,h3⟩
theorem KT.put {H:Hp}{kvs:List (List aA×V)}{xs:List (List aA×aD×aE)}(r:KT H kvs xs)(k:List aA){b:aD}{y:V}{u:aE}(hb:A4z H k b)(ry:RelV y u) :
  KT H (putK kvs k y) (storedH xs k b u):=by
 have e:(kvs.any fun kv=>decide (kv.1=k))=(atKey xs k).isSome:=by
  rw[RJ,(r.val k).isSome_eq,Option.isSome_map]
 unfold putK storedH
 rw[e]
 by_cases q:(atKey xs k).isSome=true
 ·rw[if_pos q,if_pos q]; exact r.repl k ry
 ·rw[if_neg q,if_neg q]; exact Paired.snoc r ⟨rfl,hb,ry⟩
theorem KT.keeps {H H':Hp}{kvs:List (List aA×V)}{xs:List (List aA×aD×aE)}(r:KT H kvs xs)(ht : ∀ b ys,H b=some (.tup ys)->H' b=some (.tup ys)):KT H' kvs xs:=
 Paired.mapP r fun _ _ z=>⟨z.1,z.2.1.keep ht,z.2.2⟩
section
variable {P:bS}{w:bB}{H:Hp}{h:aU}{a:aD}
theorem OO {u:HO}(ok:HOk P w H h)(e:Rd H a u):Ac4 P w H h a u:=e.ok ok
theorem Fq {ep:Nat}{kvs:List (aO×V)}(ok:HOk P w H h)(e:Rd H a (.dK ep kvs)):kvs.length≤sizeLine/\(a == kE)=false /\ ∃ vs,KV kvs vs/\h.DictAt (iZ P w) a vs ep:=
 show Ac4 P w H h a (.dK ep kvs) from OO ok e
theorem zY {ep:Nat}{kvs:List (aO×V)}(ok:HOk P w H h)(e:Rd H a (.dK ep kvs)):kvs.length≤sizeLine/\(a == kE)=false /\ ∃ vs,KV kvs vs/\h.DictOf (iZ P w) a vs:=
 let ⟨z,y,vs,r,d⟩:=Fq ok e; ⟨z,y,vs,r,d.dictOf⟩
theorem OG {ep:Nat}{kvs:List (aO×V)}(ok:HOk P w H h)(e:H a=some (.dK ep kvs)):kvs.length≤sizeLine/\(a == kE)=false /\ ∃ vs,KV kvs vs/\h.DictOf (iZ P w) a vs:=zY ok (.inl e)
theorem KP {P:bS}{w:bB}{A:cE}(hu:A.units+40<cLine):(qS P w).room A.in1:=by
 show A.in1.units+20<cLine
 have:A.in1.units=A.units+1:=rfl
 omega
mutual
theorem UO (ok:HOk P w H h) : ∀ (d:aA) {v:V} {u:aE},Ale H d v->RelV v u -> ∃ as,mE h u d as
 | .int i,v,u,k,r=>by
  have e:v = .int i:=by simpa [Ale] using k
  subst e
  obtain⟨t,rfl⟩:=r
  exact⟨_,.int i t⟩
 | .str x,v,u,k,r=>by
  have e:v = .str x:=by simpa [Ale] using k
  subst e
  obtain⟨t,rfl⟩:=r
  exact⟨_,.str x t⟩
 | .tuple ds,v,u,k,r=>by
  simp only[Ale] at k
  obtain⟨a,xs,rfl,e,ks⟩:=k
  cases r
  obtain⟨_,its,rv,⟨o,h1,h2,n,h3⟩,_⟩:=(show Ac4 P w H h a (.tup xs) from ok a _ e)
  obtain⟨as,ra⟩:=SV ok ds ks rv
  exact⟨as,.tuple h1 h2 h3 (by simpa using ra)⟩
 | .none,v,u,k,r=>by simp[Ale] at k
 | .bool _,v,u,k,r=>by simp[Ale] at k
 | .list _,v,u,k,r=>by simp[Ale] at k
 | .dict _,v,u,k,r=>by simp[Ale] at k
theorem SV (ok:HOk P w H h) : ∀ (ds:List aA) {vs:List V} {us:List aE},Ail H ds vs->Vals vs us -> ∃ as,nP h us ds as
 | [],vs,us,k,r=>by
  have e:vs=[]:=by simpa [Ail] using k
  subst e
  cases r
  exact⟨_,.nil⟩
 | d::ds,vs,us,k,r=>by
  simp only[Ail] at k
  obtain⟨x,rr,rfl,k1,k2⟩:=k
  cases r with
  | cons r1 r2=>
   obtain⟨as,ra⟩:=UO ok d k1 r1
   obtain⟨bs,rb⟩:=SV ok ds k2 r2
   exact⟨_,.cons ra rb⟩
end
theorem vB {ks:List aA}(ok:HOk P w H h)(e:A4z H ks a):(qS P w).is h ks a:=by
 obtain⟨k1,k2,xs,e,ks'⟩:=e
 refine⟨k1,k2,?_⟩
 exact UO ok (.tuple ks) (v:=.ref a) (u:=.ref a) (by simp only[Ale]; exact⟨a,xs,rfl,e,ks'⟩) rfl
theorem EU {kvs:List (List aA×V)}(ok:HOk P w H h)(e : ∃ ep,Rd H a (.dT ep kvs)):kvs.length≤sizeLine/\(a == kE)=false /\
  ∃ xs,KT H kvs xs/\h.DictOfH (qS P w) a xs:=by
 obtain⟨ep,e⟩:=e
 obtain⟨z,y,xs,r,o,es,h1,h2,h3,h4,h5⟩:=(show Ac4 P w H h a (.dT ep kvs) from OO ok e)
 refine⟨z,y,xs,r,o,es,ep,h1,h2,h3,h4,fun x hx=>?_,h5⟩
 have all : ∀ {l:List (List aA×V)} {m:List (List aA×aD×aE)},KT H l m -> ∀ x∈m,(qS P w).is h x.1 x.2.1:=by
  intro l m q
  induction q with
  | nil=>intro x hx; exact nomatch hx
  | @cons p q ps qs hq t ih=>
   intro x hx
   rcases cN.mp hx with e | hx
   ·subst e
    exact vB ok (by rw[← hq.1]; exact hq.2.1)
   ·exact ih x hx
 exact all r x hx
theorem Eo {ep:Nat}{kvs:List (List aA×V)}(ok:HOk P w H h)(e:H a=some (.dT ep kvs)):kvs.length≤sizeLine/\(a == kE)=false /\
  ∃ xs,KT H kvs xs/\h.DictOfH (qS P w) a xs:=EU ok ⟨ep,.inl e⟩
end
def xV (H:Hp)(a:aD)(y:V)(r:Option V):Prop:=
 (∃ ep kvs k,Rd H a (.dK ep kvs)/\y=kV k/\r=jK kvs k) \/ ∃ kvs k b,(∃ ep,Rd H a (.dT ep kvs))/\y = .ref b/\A4z H k b/\r=jK kvs k
def NI (H:Hp)(a:aD)(y v:V)(H':Nat->Hp):Prop:=
 (∃ ep kvs k,H a=some (.dK ep kvs)/\y=kV k/\kvs.length<sizeLine/\H'=fun n=>upd H a (.dK n (putK kvs k v))) \/
 ∃ kvs k b,(∃ ep,H a=some (.dT ep kvs))/\y = .ref b/\A4z H k b/\kvs.length<sizeLine/\H'=fun n=>upd H a (.dT n (putK kvs k v))
section
variable {X:Cx}{pins:List (aD×aY)}{σ:St}{H:Hp}{s:aG}{a:aD}{y v:V}{u r:aE}{o:Option V}{A:cE}{E:aE->aG->Prop}
theorem Inv.big (I:Inv X pins σ H s):kE<s.heap.objs.size:=by
 have h:cK<s.heap.objs.size:=(I.mod.glob.keeps I.bk).lt
 exact MI (by decide) h
theorem Yh {Q:aE->aG->Prop}(hu:A.units+40<cLine)(I:Inv X pins σ H s)(g:xV H a y (some v))(ry:RelV y u)(h : ∀ w' s',Inv X pins σ H s'->RelV v w'->Q w' s') :
  aN (aR X.prog X.w) A (tP (.ref a) u) Q E s:=by
 rcases g with⟨ep,kvs,k,e,ey,l⟩ | ⟨kvs,k,b,e,ey,eb,l⟩
 ·subst ey
  obtain⟨z,hd,vs,rel,dd⟩:=zY I.hok e
  obtain⟨w',hw,rw'⟩:=A3g.some_of (v:=v) (o:=wW vs k) (by rw[l]; exact rel.val k)
  exact wpAny_getItem_of (ES ry) dd.mapOf hw (h w' _ (I.tok _) rw')
 ·subst ey
  cases(show u=fQ b from ry)
  obtain⟨z,hd,xs,rel,dd⟩:=EU I.hok e
  obtain⟨w',hw,rw'⟩:=A3g.some_of (v:=v) (o:=(atKey xs k).map (·.2)) (by rw[l]; exact rel.val k)
  obtain⟨p,hp,hp2⟩:=lG.mp hw
  refine wpAny_getItem_heap (KP hu) (vB I.hok eb) dd hp ?_
  rw[hp2]
  exact h w' _ (I.tok _) rw'
theorem Cy {Q:aE->aG->Prop}(hu:A.units+40<cLine)(I:Inv X pins σ H s)(g:xV H a y o)(ry:RelV y u)(h : ∀ s',Inv X pins σ H s'->Q (.bool o.isSome) s') :
  aN (aR X.prog X.w) A (iC .In u (.ref a)) Q E s:=by
 rcases g with⟨ep,kvs,k,e,ey,l⟩ | ⟨kvs,k,b,e,ey,eb,l⟩
 ·subst ey
  obtain⟨z,hd,vs,rel,dd⟩:=zY I.hok e
  refine wpAny_in_of (ES ry) hd dd.mapOf ?_
  rw[← (rel.val k).isSome_eq,← l]
  exact h _ (I.tok _)
 ·subst ey
  cases(show u=fQ b from ry)
  obtain⟨z,hd,xs,rel,dd⟩:=EU I.hok e
  refine wpAny_in_heap (KP hu) (vB I.hok eb) hd dd ?_
  have q:=(rel.val k).isSome_eq
  rw[Option.isSome_map] at q
  rw[← q,← l]
  exact h _ (I.tok _)
theorem YZ {h':aU}{t':Nat}{ob:HO}(I:Inv X pins σ H s)(mu:xR (H a))(hs:oW a s.heap h')(he : ∃ q,h'.get? a=some q)(new:Ac4 X.prog X.w (upd H a ob) h' a ob) :
  Inv X pins σ (upd H a ob) { s with heap:=h',toks:=t' }:=
 I.write (x:=a) (e:=a) mu (.inl rfl) (fun b q hb z=>(hs.2 b hb).trans z) he new
theorem Hq {P:bS}{w:bB}{H':Hp}{h':aU}{kvs:List (aO×V)}{vs:List (aO×aE)}(z:kvs.length≤sizeLine)(hd:(a == kE)=false)(rel:KV kvs vs){ep:Nat}(dd:h'.DictAt (iZ P w) a vs ep) :
  Ac4 P w H' h' a (.dK ep kvs):=⟨z,hd,vs,rel,dd⟩
theorem Xi {H':Nat->Hp}{Q:Unit->aG->Prop}(hu:A.units+40<cLine)(I:Inv X pins σ H s)(g:NI H a y v H')(ry:RelV y u)(rv:RelV v r)(h : ∀ n s',Inv X pins σ (H' n) s'->Q () s') :
  aN (aR X.prog X.w) A (setItem (.ref a) u r) Q E s:=by
 rcases g with⟨ep,kvs,k,e,ey,l,eH⟩ | ⟨kvs,k,b,e,ey,eb,l,eH⟩
 ·subst ey eH
  obtain⟨z,hd,vs,rel,dd⟩:=OG I.hok e
  have hz:vs.length≤sizeLine:=by rw[← rel.length]; exact z
  have hl:(putK kvs k v).length≤sizeLine:=by have:=WR kvs k v; omega
  refine wpAny_setItem_pairs (hsz:=hz) (ES ry) dd fun h' dd' hs=>?_
  have he : ∃ q,h'.get? a=some q:=let ⟨q,_,_,hq,_⟩:=dd'; ⟨q,hq⟩
  obtain⟨n,da⟩:=dd'.dictAt
  exact h n _ (YZ I (by rw[e]; exact rK) hs he (Hq hl hd (rel.put k rv) da))
 ·subst ey eH
  cases(show u=fQ b from ry)
  obtain⟨ep0,e⟩:=e
  obtain⟨z,hd,xs,rel,dd⟩:=Eo I.hok e
  have hz:xs.length≤sizeLine:=by rw[← pU rel]; exact z
  have hl:(putK kvs k v).length≤sizeLine:=by have:=WR kvs k v; omega
  refine wpAny_setItem_heap (hsz:=hz) (KP hu) (vB I.hok eb) dd fun h' dd' hs=>?_
  obtain⟨q,es,ep,hq,h2,h3,h4,_,h5⟩:=dd'
  refine h ep _ ?_
  refine YZ I (by rw[e]; exact rK) hs ⟨q,hq⟩ ⟨hl,hd,_,(rel.put k eb rv).keeps fun c ys ec=>?_,q,es,hq,h2,h3,h4,h5⟩
  rw[fG (Ef ec e (fun z=>nomatch z))]
  exact ec
end
section
variable {X:Cx}{pins:List (aD×aY)}{σ:St}{H:Hp}{s:aG}{a:aD}{kvs:List (aO×V)}{k:aO}{u:aE}{A:cE}{E:aE->aG->Prop}
theorem Fg {ep:Nat}{Q:aE->aG->Prop}(I:Inv X pins σ H s)(e:Rd H a (.dK ep kvs))(h : ∀ t s',Inv X pins σ H s'->Q (.int kvs.length t) s'):aN (aR X.prog X.w) A (call (.builtin "len") [.ref a]) Q E s:=by
 obtain⟨z,hd,vs,rel,dd⟩:=zY I.hok e
 refine call_len_dict hd dd (by rw[← rel.length]; rw[nM] at z; omega) ?_
 rw[← rel.length]
 exact h _ _ (I.tok _)
end
def NJ (i:aW):Prop:=∀ ov iv,LW i false ov iv=operate [ov,iv] (tP ov iv)
theorem Mf {prog:bS}{w:bB}{A:cE}{E:aE->aG->Prop}{s:aG}{env:eT}{value slice:aW}{pos:cC}{T id:String}{Q:aE->aG->Prop}
  (hl:typeLookup (.type T) "__getitem__" = pure (some (.builtin id))) (hs:NJ slice)
  (h:aN (aR prog w) A (bZ value env) (fun o s₁=>aN (aR prog w) A (bZ slice env) (fun i s₂=>s₂.TypeIs o T/\aN (aR prog w) A (tP o i) Q E s₂) E s₁) E s) :
  aN (aR prog w) A (bZ (.Subscript value slice pos) env) Q E s:=by
 refine Subscript_ (kW h (fun o s₁ h₁=>kW h₁ (fun i s₂ h₂=>?_) fun _ _ x=>x) fun _ _ x=>x)
 obtain⟨hT,h₂⟩:=h₂
 unfold subscriptTail
 refine aI ?_
 rw[getitemInPython_of_ne hT.not_modules]
 refine aI (wU hT hl ?_)
 have fin:aN (aR prog w) A (LW slice false o i) (fun r s₃=>aN (aR prog w) A (letTemporaryGo value o r >>= fun _=>pure r) Q E s₃) E s₂:=by
  rw[hs o i]
  exact wpAny_operating (kW h₂ (fun r s₃ h₃=>aI (wpAny_letTemporaryGo (aT h₃))) fun _ _ x=>x)
 first
  | exact aT (aI fin)
  | exact aI (aT (aI fin))
  | exact aI fin
theorem Re {X:Cx}{pins:List (aD×aY)}{σ:St}{H:Hp}{s:aG}{a:aD}{y:V}{o:Option V}(I:Inv X pins σ H s)(g:xV H a y o):s.TypeIs (.ref a) "dict":=by
 rcases g with⟨ep,kvs,k,e,_,_⟩ | ⟨kvs,k,b,e,_,_,_⟩
 ·obtain⟨_,_,vs,_,dd⟩:=zY I.hok e
  exact dd.typeIs
 ·obtain⟨_,_,xs,_,dd⟩:=EU I.hok e
  exact dd.typeIs
noncomputable def Ej (td ty:TE):TE:=fun σ H Q=>td σ H fun x H1=>ty σ H1 fun y H2=>∃ a v,x = .ref a/\xV H2 a y (some v)/\Q v H2
noncomputable def Fj (td ty tv:TE):TS:=fun D σ H=>tv σ H fun v H1=>td σ H1 fun x H2=>ty σ H2 fun y H3=>∃ a H4,x = .ref a/\NI H3 a y v H4 /\ ∀ n,D.nx σ (H4 n)
section
variable {X:Cx}{o i e value:aW}{pos pos' tpos:cC}{td ty tv:TE}
theorem Me (hu:X.A.units+40<cLine)(ho:PE X o td)(hi:PE X i ty)(hs:NJ i):PE X (.Subscript o i pos) (Ej td ty):=by
 intro pins s σ H Q I h
 refine Mf PySem.F.slot_dict_getitem.lookup hs (thn (ho pins s σ H _ I h) fun u s1 ⟨x,H1,I1,rx,q1⟩=>thn (hi pins s1 σ H1 _ I1 q1) fun iv s2 gh=>?_)
 obtain⟨y,H2,I2,ry,a,v,ex,g,q2⟩:=gh
 subst ex
 obtain rfl:u=fQ a:=rx
 exact⟨Re I2 g,Yh hu I2 g ry fun w' s3 I3 rw'=>⟨v,H2,I3,rw',q2⟩⟩
theorem Lq (hu:X.A.units+40<cLine)(ho:PE X o td)(hi:PE X i ty)(hv:PE X value tv)(hs:pT value (some (.Subscript o i pos')) pos.line X.env=pure false) :
  PS X (.Assign [.Subscript o i pos'] value pos) (Fj td ty tv):=by
 intro pins s σ H D I h
 refine wpAny_Assign_Subscript (thn (hv pins s σ H _ I h) fun r s1 ⟨v,H1,I1,rv,q1⟩=>thn (ho pins s1 σ H1 _ I1 q1) fun u s2 ⟨x,H2,I2,rx,q2⟩=>thn (hi pins s2 σ H2 _ I2 q2) fun iv s3 ⟨y,H3,I3,ry,a,H4,ex,g,q3⟩=>?_) hs
 subst ex
 obtain rfl:u=fQ a:=rx
 exact Xi hu I3 g ry rv fun n s4 I4=>⟨σ,H4 n,I4,q3 n⟩
end
theorem Ul {P:bS}{w:bB}{H:Hp}(h:aU)(hb:kE<h.objs.size):Ac4 P w H (h.push { cls:=.type "dict",data:=.dict #[] }) h.objs.size (.dK 0 []):=
 ⟨fA _,beq_eq_false_iff_ne.mpr (lH (cZ hb)),[],.nil,_,#[],eP _ rfl,⟨rfl,rfl,rfl⟩,rfl,fun _ he=>by simp at he,Pairs.nil,List.nodup_nil⟩
noncomputable def Gg:TE:=fun _ H Q=>∀ p,H p=none->Q (.ref p) (upd H p (.dK 0 []))
section
variable {X:Cx}{pos:cC}
theorem Ud:PE X (.Dict [] [] pos) Gg:=fun pins s σ H Q I h=>
 wpAny_Dict_empty ⟨.ref s.heap.objs.size,_,I.laid (a:=s.heap.objs.size) (o:=.dK 0 []) (t':=s.toks) (fun _ _ q=>cP _ q) (bU _) (Ul s.heap I.big),rfl,h _ (I.hok.fresh (bU _))⟩
end
end L2
namespace HT
open PySem PyProof.Rows
section
variable {prog:bS}{w:bB}{A:cE}{E:aE->aG->Prop}{s:aG}
theorem Bcv {t b:aD}{vs ws:List aE}{Q:aE->aG->Prop}(ht:IsTup s.heap t vs.toArray)(hb:IsTup s.heap b ws.toArray)(hv:vs≠[])
  (h1:ws=[]->Q (.ref t) s) (h2:ws≠[]->Q (.ref s.heap.objs.size) { s with heap:=s.heap.push { cls:=.type "tuple",data:=.seq (vs++ws).toArray } })
  (hsz:vs.length+ws.length≤sizeLine):aN (aR prog w) A (kZ .Add (.ref t) (.ref b)) Q E s:=by
 obtain⟨⟨cls,dd,data,sl⟩,ho,hc,n,hd⟩:=id ht
 obtain⟨⟨cls2,dd2,data2,sl2⟩,ho2,hc2,n2,hd2⟩:=id hb
 simp only at hc hd hc2 hd2
 subst hc hd hc2 hd2
 have e:vs.toArray++ws.toArray=(vs++ws).toArray:=by simp
 by_cases hw:ws=[]
 ·exact LY ⟨_,ho,rfl⟩ ⟨_,ho2,rfl⟩ An seq_tuple_add Bd Be (Bf _ _)
   (tuple_addW1 t b vs.toArray ws.toArray n n2 dd dd2 sl sl2 (by simpa using hv) (by simp[hw])) ⟨ho,ho2,h1 hw⟩
 ·refine LY ⟨_,ho,rfl⟩ ⟨_,ho2,rfl⟩ An seq_tuple_add Bd Be (Bf _ _)
   (tuple_addW2 t b vs.toArray ws.toArray n n2 dd dd2 sl sl2 (by simpa using hv) (by simpa using hw) (by rw[eF,eF]; exact hsz)) ⟨ho,ho2,?_⟩
  rw[e]
  exact h2 hw
noncomputable def sIx (n d:Nat):Option Int->Nat
 | none=>d
 | some v=>if v<0 then(v+(n:Int)).toNat else min v.toNat n
theorem Alr (n d:Nat):sIx n d none=d:=rfl
theorem Auy (n d k:Nat):sIx n d (some (k:Int))=min k n:=by
 show(if (k:Int)<0 then((k:Int)+(n:Int)).toNat else min (k:Int).toNat n)=min k n
 rw[if_neg (by omega),mY]
theorem Fz (n d:Nat)(hd:d≤n)(o:Option Int):sIx n d o≤n:=by
 cases o with
 | none=>exact hd
 | some v=>
  show(if v<0 then(v+(n:Int)).toNat else min v.toNat n)≤n
  by_cases hv:v<0
  ·rw[if_pos hv]; omega
  ·rw[if_neg hv]; exact Nat.min_le_right _ _
theorem Aj (v:Int)(n d:Nat):(if v<0 then max (v+(n:Int)) 0 else min v (n:Int))=((sIx n d (some v):Nat):Int):=by
 show(if v<0 then max (v+(n:Int)) 0 else min v (n:Int))=(((if v<0 then(v+(n:Int)).toNat else min v.toNat n):Nat):Int)
 by_cases hv:v<0
 ·simp only[if_pos hv]; omega
 ·simp only[if_neg hv]; omega
theorem Ou (lo hi:Option Int)(n:Nat):Cm lo hi 1 (n:Int)=(((sIx n 0 lo:Nat):Int),((sIx n n hi:Nat):Int)):=by
 have h1 : ¬ ((1:Int)<0):=by omega
 unfold Cm
 simp only[h1,if_false]
 refine Prod.ext ?_ ?_
 ·cases lo with
  | none=>rfl
  | some v=>exact Aj v n 0
 ·cases hi with
  | none=>rfl
  | some v=>exact Aj v n n
theorem Od (i j:Nat):MY (i:Int) (j:Int) 1=j - i:=by
 unfold MY
 have h1:(1:Int) > 0:=by omega
 simp only[h1,if_true,Int.ediv_one]
 split <;> omega
theorem VY {v:aE}{o:Option Int}{Q:Option Int->aG->Prop}(p:rT v o)(h:Q o s):aN (aR prog w) A (Builtin.Slice.slicePartIndex v) Q E s:=by
 cases p with
 | none=>exact slicePart_none h
 | int i t=>exact slicePart_int h
theorem Td {sl:aD}{vl vu:aE}{lo hi:Option Int}{n:Nat}{Q:Int×Int×Nat->aG->Prop}(hs:s.heap.IsSliceOf sl vl vu .none)(pl:rT vl lo)(pu:rT vu hi)
  (h:Q (((sIx n 0 lo:Nat):Int),1,sIx n n hi - sIx n 0 lo) s):aN (aR prog w) A (Builtin.Slice.sliceApplied (.ref sl) (pure (n:Int))) Q E s:=by
 obtain⟨os,hos,hcs,hds⟩:=id hs
 unfold Builtin.Slice.sliceApplied Builtin.Slice.sliceFields
 refine aI (aI (wpAny_field hos hds (x:=vl) rfl (aI (wpAny_field hos hds (x:=vu) rfl (aI (wpAny_field hos hds (x:=.none) rfl (aT ?_)))))))
 refine aI (slicePart_none ?_)
 show aN _ _ (if ((1:Int) == 0)=true then _ else _) _ _ s
 rw[if_neg (by decide)]
 refine aI (VY pl (aI (VY pu (aI (aT ?_)))))
 show aN _ _ (match Cm lo hi 1 (n:Int) with | (lo,hi)=>pure (lo,(1:Int),MY lo hi 1)) _ _ s
 rw[Ou lo hi n]
 show aN _ _ (pure (((sIx n 0 lo:Nat):Int),(1:Int),MY ((sIx n 0 lo:Nat):Int) ((sIx n n hi:Nat):Int) 1)) _ _ s
 rw[Od]
 exact aT h
theorem Vk (xs:Array aE)(i k:Nat):((cR k).filterMap fun(m:Nat)=>xs[((i:Int)+(m:Int)*1).toNat]?).toArray=((xs.toList.drop i).take k).toArray:=by
 have e:(fun(m:Nat)=>xs[((i:Int)+(m:Int)*1).toNat]?)=fun m=>xs[i+m]?:=by
  funext m
  have:((i:Int)+(m:Int)*1).toNat=i+m:=by omega
  rw[this]
 rw[e]
 have:=pick_run xs i k
 rw[List.filterMap_map] at this
 have e2:((fun x=>xs[x]?)∘fun x=>i+x)=fun m=>xs[i+m]?:=rfl
 rw[e2] at this
 rw[this]
theorem Akx {t sl:aD}{items:Array aE}{vl vu:aE}{lo hi:Option Int}{Q:aE->aG->Prop}(ht:IsTup s.heap t items)(hs:s.heap.IsSliceOf sl vl vu .none)(pl:rT vl lo)(pu:rT vu hi)
  (hw : ¬ (sIx items.size 0 lo=0/\sIx items.size items.size hi=items.size))
  (h:Q (.ref s.heap.objs.size) { s with heap:=s.heap.push { cls:=.type "tuple",data:=.seq ((items.toList.drop (sIx items.size 0 lo)).take (sIx items.size items.size hi - sIx items.size 0 lo)).toArray } })
  (hsz:items.size≤sizeLine):aN (aR prog w) A (tP (.ref t) (.ref sl)) Q E s:=by
 have htake:sizeOk (.seq ((items.toList.drop (sIx items.size 0 lo)).take (sIx items.size items.size hi - sIx items.size 0 lo)).toArray):=by
  show((items.toList.drop (sIx items.size 0 lo)).take (sIx items.size items.size hi - sIx items.size 0 lo)).toArray.size≤sizeLine
  rw[eF,mW,uA,gW]
  omega
 have hj:sIx items.size items.size hi≤items.size:=Fz _ _ (bU _) hi
 obtain⟨os,hos,hcs,hds⟩:=id hs
 have hTs:s.TypeIs (.ref sl) "slice":=⟨os,hos,hcs⟩
 unfold tP
 try with_reducible refine jR ?_
 first | refine aI (aT ?_) | skip
 refine aI (wpAny_sequenceKey ht.typeIs (by decide) ?_)
 refine aI (wV (name:=kF "__getitem__") ht.typeIs Bh
  (kX Bh ht.typeIs entry_tuple_getitem ?_ (args_tuple_getitem _ _)))
 show aN _ _ (Builtin.Tuple.tupleItemsOf (.ref t) >>= _) _ _ s
 refine aI (tupleItemsOf_ ht ?_)
 refine aI (tM hTs ?_)
 rw[if_pos (by decide)]
 refine aI (Td hs pl pu ?_)
 have hno : ¬ ((((sIx items.size 0 lo:Nat):Int) == 0&&(1:Int) == 1&&(sIx items.size items.size hi - sIx items.size 0 lo) == items.size)=true):=by
  intro q
  rw[jI,jI] at q
  have q1:((sIx items.size 0 lo:Nat):Int)=0:=eq_of_beq q.1.1
  have q2:sIx items.size items.size hi - sIx items.size 0 lo=items.size:=eq_of_beq q.2
  exact hw ⟨by omega,by omega⟩
 show aN _ _ (if (((sIx items.size 0 lo:Nat):Int) == 0&&(1:Int) == 1&&(sIx items.size items.size hi - sIx items.size 0 lo) == items.size)=true then _ else _) _ _ s
 rw[if_neg hno,Vk]
 first
  | exact aI (m:=MW _) (jQ (aT ⟨_,rfl,aT h⟩) htake)
  | exact aI (m:=MW _) (jQ (aI (aT (aT ⟨_,rfl,aT h⟩))) htake)
  | exact aI (aI (m:=MW _) (jQ (aT (aT ⟨_,rfl,aT h⟩)) htake))
  | exact aI (aI (m:=MW _) (jQ (aT ⟨_,rfl,aT h⟩) htake))
end
end HT
namespace L2
open PySem PySem.Spec PyProof.Rows
abbrev TO:=St->Hp->(Option Int->Hp->Prop)->Prop
def PO (X:Cx)(e:Option aW)(t:TO):Prop:=
 ∀ (pins:List (aD×aY)) (s:aG) (σ:St) (H:Hp) (Q:Option Int->Hp->Prop),Inv X pins σ H s->t σ H Q ->
  aN (aR X.prog X.w) X.A (evalPart e X.env) (fun u s'=>∃ o H',Inv X pins σ H' s'/\rT u o/\Q o H') X.xe s
noncomputable def Lz:TO:=fun _ H Q=>Q none H
noncomputable def Fv (t:TE):TO:=fun σ H Q=>t σ H fun x H1=>∃ i,x = .int i/\Q (some i) H1
section
variable {X:Cx}{e:aW}{te:TE}{lo hi:Option aW}{tl th:TO}{pos p2:cC}
theorem Jl:PO X none Lz:=by
 intro pins s σ H Q I h
 rw[evalPart_none]
 exact aT ⟨none,H,I,.none,h⟩
theorem Na (h:PE X e te):PO X (some e) (Fv te):=by
 intro pins s σ H Q I hw
 rw[evalPart_some]
 refine thn (h pins s σ H _ I hw) fun u s1 gh=>?_
 obtain⟨x,H1,I1,r1,q1⟩:=gh
 obtain⟨i,rfl,q⟩:=q1
 obtain⟨t,rfl⟩:=r1
 exact⟨some i,H1,I1,.int i t,q⟩
def SlR (X:Cx)(r:V->Option Int->Option Int->Hp->VK->Prop):Prop:=
 ∀ (pins:List (aD×aY)) (s:aG) (σ:St) (H:Hp) (x:V) (v vl vu:aE) (lo hi:Option Int) (sl:aD) (Q:VK),Inv X pins σ H s->RelV x v->s.heap.IsSliceOf sl vl vu .none->rT vl lo->rT vu hi->r x lo hi H Q ->
  ∃ T id,typeLookup (.type T) "__getitem__" = pure (some (.builtin id))/\s.TypeIs v T/\aN (aR X.prog X.w) X.A (tP v (.ref sl)) (EP X pins σ Q) X.xe s
theorem SlR.or {r r':V->Option Int->Option Int->Hp->VK->Prop}(h:SlR X r)(h':SlR X r'):SlR X (fun x lo hi H Q=>r x lo hi H Q \/ r' x lo hi H Q):=by
 intro pins s σ H x v vl vu lo hi sl Q I rx hs pl pu q
 rcases q with q | q
 ·exact h pins s σ H x v vl vu lo hi sl Q I rx hs pl pu q
 ·exact h' pins s σ H x v vl vu lo hi sl Q I rx hs pl pu q
noncomputable def tSl (r:V->Option Int->Option Int->Hp->VK->Prop)(te:TE)(tl th:TO):TE:=fun σ H Q=>te σ H fun x H1=>tl σ H1 fun l H2=>th σ H2 fun u H3=>r x l u H3 Q
theorem SM {r:V->Option Int->Option Int->Hp->VK->Prop}(hr:SlR X r)(he:PE X e te)(hl:PO X lo tl)(hu:PO X hi th):PE X (.Subscript e (.Slice lo hi none p2) pos) (tSl r te tl th):=by
 intro pins s σ H Q I h
 refine Subscript_ (thn (he pins s σ H _ I h) fun v s1 gh=>?_)
 obtain⟨x,H1,I1,r1,q1⟩:=gh
 refine wpAny_Slice (thn (hl pins s1 σ H1 _ I1 q1) fun vl s2 ⟨l,H2,I2,pl,q2⟩=>thn (hu pins s2 σ H2 _ I2 q2) fun vu s3 gh=>?_)
 obtain⟨u,H3,I3,pu,q3⟩:=gh
 rw[evalPart_none]
 refine aT ?_
 have I4:Inv X pins σ H3 { s3 with heap:=s3.heap.push { cls:=.type "slice",data:=.fields #[vl,vu,.none] } }:=I3.kept (t':=s3.toks) fun b ob q=>cP _ q
 obtain⟨T,id,hT,ht,hg⟩:=hr pins { s3 with heap:=s3.heap.push { cls:=.type "slice",data:=.fields #[vl,vu,.none] } } σ H3 x v vl vu l u s3.heap.objs.size Q I4 r1 (Heap.IsSliceOf.new ..) pl pu q3
 show aN (aR X.prog X.w) X.A (subscriptTail e (.Slice lo hi none p2) v (.ref s3.heap.objs.size)) (EP X pins σ Q) X.xe { s3 with heap:=s3.heap.push { cls:=.type "slice",data:=.fields #[vl,vu,.none] } }
 exact tail_any (ops:=[.ref s3.heap.objs.size,v]) ht hT hg (by with_unfolding_all rfl)
noncomputable def rH (xs:List V)(lo hi:Option Int):List V:=(xs.drop (HT.sIx xs.length 0 lo)).take (HT.sIx xs.length xs.length hi - HT.sIx xs.length 0 lo)
theorem WL (xs:List V)(lo hi:Option Int):(rH xs lo hi).length≤xs.length:=by
 unfold rH
 rw[mW,uA]
 omega
def Di (K:aK):V->Option Int->Option Int->Hp->VK->Prop:=fun x lo hi H Q=>∃ a xs,x = .ref a/\SqT K H a xs /\
 ¬ (HT.sIx xs.length 0 lo=0/\HT.sIx xs.length xs.length hi=xs.length) /\ ∀ p,H p=none->Q (.ref p) (upd H p (.tup (rH xs lo hi)))
theorem Iq:SlR X (Di X.K):=by
 intro pins s σ H x v vl vu lo hi sl Q I rx hs pl pu h
 obtain⟨a,xs,rfl,hx,hw,q⟩:=h
 cases rx
 obtain⟨its,r,ht,hz⟩:=I.tuple hx
 have hlen:its.toArray.size=xs.length:=by rw[eF]; exact r.length.symm
 refine⟨"tuple",_,Bh.lookup,ht.typeIs,?_⟩
 refine HT.Akx ht hs pl pu (by rw[hlen]; exact hw) ?_ (by rw[hlen]; exact hz)
 rw[hlen]
 refine⟨.ref s.heap.objs.size,_,I.laid (t':=s.toks) (o:=.tup (rH xs lo hi)) (fun b ob q=>cP _ q) (bU _) ?_,rfl,q _ (I.hok.fresh (bU _))⟩
 exact⟨jB (WL xs lo hi) hz,_,(r.drop (HT.sIx xs.length 0 lo)).take (HT.sIx xs.length xs.length hi - HT.sIx xs.length 0 lo),Bcr.new _ _⟩
noncomputable def HF (K:aK):R2:=fun x y H Q=>∃ a b xs ys,x = .ref a/\y = .ref b/\SqT K H a xs/\SqT K H b ys/\xs≠[]/\xs.length+ys.length≤sizeLine /\
 (ys=[]->Q (.ref a) H)/\(ys≠[] -> ∀ p,H p=none->Q (.ref p) (upd H p (.tup (xs++ys))))
theorem Vals.nil_iff {xs:List V}{us:List aE}(r:Vals xs us):us=[]↔xs=[]:=by
 cases r with
 | nil=>simp
 | cons _ _=>simp
theorem A0e:OpR X (kZ .Add) (HF X.K):=by
 intro pins s σ H x y v u Q I rx ry h
 obtain⟨a,b,xs,ys,rfl,rfl,ha,hb,hx,hz,q1,q2⟩:=h
 cases rx
 cases ry
 obtain⟨its,r1,p1,_⟩:=I.tuple ha
 obtain⟨its2,r2,p2,_⟩:=I.tuple hb
 refine HT.Bcv p1 p2 (fun z=>hx (r1.nil_iff.mp z)) (fun z=>⟨.ref a,H,I,rfl,q1 (r2.nil_iff.mp z)⟩) (fun z=>?_) (by rw[← r1.length,← r2.length]; exact hz)
 refine⟨.ref s.heap.objs.size,_,I.laid (t':=s.toks) (o:=.tup (xs++ys)) (fun b ob q=>cP _ q) (bU _) ?_,rfl,q2 (fun w=>z (r2.nil_iff.mpr w)) _ (I.hok.fresh (bU _))⟩
 exact⟨by rw[fL]; exact hz,_,r1.append r2,Bcr.new _ _⟩
end
noncomputable def ixN (n:Nat)(i:Int):Option Nat:=if 0≤i then(if i<n then some i.toNat else none) else if -(n:Int)≤i then some (i+n).toNat else none
noncomputable def atI {α:Type}(xs:List α)(i:Int):Option α:=(ixN xs.length i).bind fun j=>xs[j]?
theorem ZD {n:Nat}{i:Int}{j:Nat}(h:ixN n i=some j):seqIndex? i n=some j/\j<n /\ -(n:Int)≤i/\i<n:=by
 unfold ixN at h
 by_cases h0:0≤i
 ·rw[if_pos h0] at h
  by_cases h1:i<n
  ·rw[if_pos h1] at h
   have e:i.toNat=j:=gU h
   exact⟨by rw[seqIndex_of h0 h1,e],by omega,by omega,h1⟩
  ·rw[if_neg h1] at h; cases h
 ·rw[if_neg h0] at h
  by_cases h1 : -(n:Int)≤i
  ·rw[if_pos h1] at h
   have e:(i+n).toNat=j:=gU h
   exact⟨by rw[seqIndex_neg (by omega) h1,e],by omega,h1,by omega⟩
  ·rw[if_neg h1] at h; cases h
theorem HV {α:Type}{xs:List α}{i:Int}{v:α}(h:atI xs i=some v) : ∃ j,seqIndex? i xs.length=some j/\xs[j]?=some v/\j<xs.length /\ -(xs.length:Int)≤i/\i<xs.length:=by
 unfold atI at h
 cases e:ixN xs.length i with
 | none=>rw[e] at h; cases h
 | some j=>
  rw[e] at h
  obtain⟨h1,h2,h3,h4⟩:=ZD e
  exact⟨j,h1,h,h2,h3,h4⟩
theorem pK {α:Type}{xs:List α}{j:Nat}{v:α}(h:xs[j]?=some v):atI xs (j:Int)=some v:=by
 have hj:j<xs.length:=(fN.mp h).1
 have e:ixN xs.length (j:Int)=some j:=by
  unfold ixN
  rw[if_pos (by omega),if_pos (by omega)]; simp
 unfold atI; rw[e]; exact h
def ZV (b:aW):Prop:=∀ o i,LW b false o i=operate [o,i] (tP o i)
def IxR (X:Cx)(r:R2):Prop:=
 ∀ (value slice:aW) (pins:List (aD×aY)) (s:aG) (σ:St) (H:Hp) (x y:V) (v u:aE) (Q:VK),Inv X pins σ H s->RelV x v->RelV y u->r x y H Q ->
  LW slice false v u=operate [v,u] (tP v u)->aN (aR X.prog X.w) X.A (subscriptTail value slice v u) (EP X pins σ Q) X.xe s
def MtR (X:Cx)(id:String)(r:V->List V->Hp->VK->Prop):Prop:=
 ∀ (pins:List (aD×aY)) (s:aG) (σ:St) (H:Hp) (x:V) (xs:List V) (v:aE) (us:List aE) (Q:VK),Inv X pins σ H s->RelV x v->Vals xs us->r x xs H Q ->
  aN (aR X.prog X.w) X.A (call (.builtin id) (v::us)) (EP X pins σ Q) X.xe s
section
variable {X:Cx}{a b:aW}{ta tb:TE}{pos:cC}
theorem IxR.or {r r':R2}(h:IxR X r)(h':IxR X r'):IxR X (fun x y H Q=>r x y H Q \/ r' x y H Q):=by
 intro value slice pins s σ H x y v u Q I rx ry q hs
 rcases q with q | q
 ·exact h value slice pins s σ H x y v u Q I rx ry q hs
 ·exact h' value slice pins s σ H x y v u Q I rx ry q hs
theorem Ec {r:R2}(hr:IxR X r)(ha:PE X a ta)(hb:PE X b tb)(hs:ZV b):PE X (.Subscript a b pos) (tOp r ta tb):=by
 intro pins s σ H Q I h
 exact Subscript_ (GV ha hb I h fun v u s2 x y H2 I2 rx ry q=>hr a b pins s2 σ H2 x y v u Q I2 rx ry q (hs _ _))
noncomputable def NS (K:aK):R2:=fun x y H Q=>∃ p xs i v,x = .ref p/\y = .int i/\SqL K H p xs/\atI xs i=some v/\Q v H
noncomputable def NY (K:aK):R2:=fun x y H Q=>∃ p xs i v,x = .ref p/\y = .int i/\SqT K H p xs/\atI xs i=some v/\Q v H
noncomputable def NK:R2:=fun x y H Q=>∃ z i c,x = .str z/\y = .int i/\z.length≤sizeLine/\atI z.cps.toList i=some c/\Q (.str ⟨#[c]⟩) H
theorem Bbd:IxR X (NS X.K):=by
 intro value slice pins s σ H x y v u Q I rx ry h hs
 obtain⟨p,xs,i,z,rfl,rfl,hq,he,q⟩:=h
 cases rx
 obtain⟨t,rfl⟩:=ry
 obtain⟨its,r,pl,hz⟩:=I.list hq
 obtain⟨j,h1,h2,h3,h4,h5⟩:=HV he
 obtain⟨w,ew,rw'⟩:=r.get h2
 have hl:=r.length
 have hn:=uY
 have fin:EP X pins σ Q w s:=⟨z,H,I,rw',q⟩
 by_cases h0:0≤i
 ·have hj:i.toNat=j:=by
   rw[seqIndex_of h0 h5] at h1
   exact gU h1
  exact item_listR pl.isList h0 (by omega) (by rw[hj]; simpa using ew) fin hs
 ·have hj:(i+(its.toArray.size:Int)).toNat=j:=by
   rw[seqIndex_neg (by omega) h4] at h1
   rw[eF,← hl]
   exact gU h1
  exact subscriptTail_builtinR (x:=w) pl.isList.typeIs slot_list_getitem.lookup
   (wpAny_getItem_list_neg (Q:=fun r s'=>r=w/\EP X pins σ Q r s') pl.isList (by omega) (by rw[eF] <;> omega) (by omega) (by rw[hj]; simpa using ew) ⟨rfl,fin⟩) hs
theorem Be2:IxR X (NY X.K):=by
 intro value slice pins s σ H x y v u Q I rx ry h hs
 obtain⟨p,xs,i,z,rfl,rfl,hq,he,q⟩:=h
 cases rx
 obtain⟨t,rfl⟩:=ry
 obtain⟨its,r,pl,hz⟩:=I.tuple hq
 obtain⟨j,h1,h2,h3,h4,h5⟩:=HV he
 obtain⟨w,ew,rw'⟩:=r.get h2
 have hl:=r.length
 have hn:=uY
 have fin:EP X pins σ Q w s:=⟨z,H,I,rw',q⟩
 exact subscriptTail_builtinR (x:=w) pl.typeIs slot_tuple_getitem.lookup
  (getItem_tuple (j:=j) (Q:=fun r s'=>r=w/\EP X pins σ Q r s') pl (by omega) (by omega) (by rw[eF,← hl]; exact h1) (by simpa using ew) ⟨rfl,fin⟩) hs
theorem Jj:IxR X NK:=by
 intro value slice pins s σ H x y v u Q I rx ry h hs
 obtain⟨z,i,c,rfl,rfl,hz,he,q⟩:=h
 obtain⟨t,rfl⟩:=rx
 obtain⟨t',rfl⟩:=ry
 obtain⟨j,h1,h2,h3,h4,h5⟩:=HV he
 have hl:z.cps.toList.length=z.length:=by simp[AN]
 rw[hl] at h1 h4 h5
 have hn:=uY
 exact tail_any (wY s z t) slot_str_getitem.lookup (getItem_str (c:=c) (by
  have e1:decide (i < -(2 ^ 63:Int))=false:=decide_eq_false (by omega)
  have e2:decide (i ≥ 2 ^ 63)=false:=decide_eq_false (by omega)
  rw[e1,e2,Co]) (by rw[h1]; simpa using h2) ⟨.str ⟨#[c]⟩,H,I.tok _,⟨_,rfl⟩,q⟩) hs
noncomputable def rIx (K:aK):R2:=fun x y H Q=>NS K x y H Q \/ NY K x y H Q \/ NK x y H Q
theorem Gj:IxR X (rIx X.K):=Bbd.or (Be2.or Jj)
theorem Pn (its:List aE)(n j:Nat)(u:aE):gL (·.setIfInBounds j u) { cls:=.type "list",data:=.seq its.toArray n } = { cls:=.type "list",data:=.seq (its.set j u).toArray n }:=by
 simp[gL]
theorem Inv.lst {pins:List (aD×aY)}{σ:St}{H:Hp}{s:aG}{p:aD}{xs:List V}(I:Inv X pins σ H s)(h:H p=some (.lst xs)) :
  ∃ (its:List aE) (n:Nat),Vals xs its/\s.heap.get? p=some { cls:=.type "list",data:=.seq its.toArray n }/\xs.length≤sizeLine:=by
 obtain⟨z,its,n,r,e⟩:=I.hok p _ h
 exact⟨its,n,r,e,z⟩
theorem Inv.lstUpd {pins:List (aD×aY)}{σ:St}{H:Hp}{s:aG}{p:aD}{xs ys:List V}{its its':List aE}{n n':Nat}{f:aY->aY}(I:Inv X pins σ H s)(h:H p=some (.lst xs))
  (ho:s.heap.get? p=some { cls:=.type "list",data:=.seq its.toArray n }) (hf:f { cls:=.type "list",data:=.seq its.toArray n } = { cls:=.type "list",data:=.seq its'.toArray n' }) (r:Vals ys its') (hz:ys.length≤sizeLine) (t:Nat) :
  Inv X pins σ (upd H p (.lst ys)) { s with heap:=s.heap.update p f,toks:=t }:=by
 have e:(s.heap.update p f).get? p=some { cls:=.type "list",data:=.seq its'.toArray n' }:=by
  rw[pY f ho (by rw[hf] <;> rfl),hf]
 refine I.write (x:=p) (e:=p) (by rw[h]; trivial) (.inl rfl) (fun b u hb q=>(rV _ _ (lH hb)).trans q) ⟨_,e⟩ ?_
 exact⟨hz,its',n',r,e⟩
def Ep:V->V->V->Hp->(Hp->Prop)->Prop:=fun o i v H Q=>∃ p xs k j,o = .ref p/\i = .int k/\H p=some (.lst xs)/\ixN xs.length k=some j/\Q (upd H p (.lst (xs.set j v)))
theorem set_list:NX X Ep:=by
 intro pins s σ H o i v ov iv u Q I ro ri rv h
 obtain⟨p,xs,k,j,rfl,rfl,hp,hj,q⟩:=h
 cases ro
 obtain⟨t,rfl⟩:=ri
 obtain⟨its,n,r,ho,hz⟩:=I.lst hp
 obtain⟨h1,h2,h3,h4⟩:=ZD hj
 have hl:=r.length
 have hn:=uY
 have I':Inv X pins σ (upd H p (.lst (xs.set j v))) { s with heap:=s.heap.update p (gL (·.setIfInBounds j u)) }:=
  I.lstUpd hp ho (Pn its n j u) (r.set rv j) (by rw[List.length_set]; exact hz) s.toks
 by_cases h0:0≤k
 ·have hk:k.toNat=j:=by
   rw[seqIndex_of h0 h4] at h1
   exact gU h1
  exact PySem.W.ki_setAt ho h0 (by omega) (by rw[eF,← hl]; exact h4) (by rw[hk]; exact⟨_,I',q⟩)
 ·have hk:(k+(its.toArray.size:Int)).toNat=j:=by
   rw[seqIndex_neg (by omega) h3] at h1
   rw[eF,← hl]
   exact gU h1
  exact PySem.W.ki_setBack ho (by omega) (by rw[eF,← hl]; exact h3) (by omega) (by rw[hk]; exact⟨_,I',q⟩)
theorem Rq (lo hi:Option Int)(n:Nat):(wZ lo hi none n).1=((HT.sIx n 0 lo:Nat):Int)/\(wZ lo hi none n).2.1=((HT.sIx n n hi:Nat):Int)/\(wZ lo hi none n).2.2=1:=by
 refine⟨?_,?_,rfl⟩
 ·cases lo with
  | none=>simp[wZ,HT.sIx]
  | some i=>
   simp only[wZ,HT.sIx,Option.getD_none,show(1:Int) > 0 by decide,if_true]
   by_cases h:i<0
   ·simp only[h,if_true] <;> omega
   ·simp only[h,if_false] <;> omega
 ·cases hi with
  | none=>simp[wZ,HT.sIx]
  | some i=>
   simp only[wZ,HT.sIx,Option.getD_none,show(1:Int) > 0 by decide,if_true]
   by_cases h:i<0
   ·simp only[h,if_true] <;> omega
   ·simp only[h,if_false] <;> omega
theorem Sj (its:List aE)(lo hi:Option Int):slicePick its.toArray lo hi none=((its.drop (HT.sIx its.length 0 lo)).take (HT.sIx its.length its.length hi - HT.sIx its.length 0 lo)).toArray:=by
 obtain⟨h1,h2,h3⟩:=Rq lo hi its.toArray.size
 unfold slicePick
 rw[h1,h2,h3]
 simp only[sliceRange_one,pick_run,eF] <;> rfl
def Cz (K:aK):V->Option Int->Option Int->Hp->VK->Prop:=fun x lo hi H Q=>∃ a xs,x = .ref a/\SqL K H a xs /\ ∀ p,H p=none->Q (.ref p) (upd H p (.lst (rH xs lo hi)))
theorem Ki:SlR X (Cz X.K):=by
 intro pins s σ H x v vl vu lo hi sl Q I rx hs pl pu h
 obtain⟨a,xs,rfl,hx,q⟩:=h
 cases rx
 obtain⟨its,r,ht,hz⟩:=I.list hx
 have hlen:=r.length
 refine⟨"list",_,slot_list_getitem.lookup,ht.isList.typeIs,?_⟩
 refine wpAny_getItem_list_slice ht.isList hs pl pu .none (by simp) ?_ (by rw[eF] <;> omega)
 rw[Sj,← hlen]
 refine⟨.ref s.heap.objs.size,_,I.laid (t':=s.toks) (o:=.lst (rH xs lo hi)) (fun b ob q=>cP _ q) (bU _) ?_,rfl,q _ (I.hok.fresh (bU _))⟩
 exact⟨jB (WL xs lo hi) hz,_,0,(r.drop (HT.sIx xs.length 0 lo)).take (HT.sIx xs.length xs.length hi - HT.sIx xs.length 0 lo),eP _ rfl⟩
theorem Ara:Aeq X (.builtin "len") (fun xs H Q=>∃ p ys,xs=[.ref p]/\(SqL X.K H p ys \/ SqT X.K H p ys)/\Q (.int ys.length) H):=by
 intro pins s σ H xs us Q I r h
 obtain⟨p,ys,rfl,hq,q⟩:=h
 obtain⟨u,rfl,rx⟩:=vals1 r
 cases rx
 have hn:=uY
 rcases hq with hq | hq
 ·obtain⟨its,r',pl,hz⟩:=I.list hq
  have hlen:=r'.length
  exact Calls.call_len_list pl.isList (by simp only[eF] <;> omega) ⟨.int ys.length,H,I.tok _,⟨s.toks+1,by rw[eF,hlen]⟩,q⟩
 ·obtain⟨its,r',pl,hz⟩:=I.tuple hq
  have hlen:=r'.length
  exact len_tuple pl (by simp only[eF] <;> omega) ⟨.int ys.length,H,I.tok _,⟨s.toks+1,by rw[eF,hlen]⟩,q⟩
theorem Aq1:Aeq X (.builtin "len") (fun xs H Q=>∃ z,xs=[.str z]/\z.length≤sizeLine/\Q (.int z.length) H):=by
 intro pins s σ H xs us Q I r h
 obtain⟨z,rfl,hz,q⟩:=h
 obtain⟨u,rfl,t,rfl⟩:=vals1 r
 have hn:=uY
 exact len_str (by omega) ⟨.int z.length,H,I.tok _,⟨_,rfl⟩,q⟩
theorem Aeq.or {f:aE}{r r':List V->Hp->VK->Prop}(h:Aeq X f r)(h':Aeq X f r'):Aeq X f (fun xs H Q=>r xs H Q \/ r' xs H Q):=by
 intro pins s σ H xs us Q I rs q
 rcases q with q | q
 ·exact h pins s σ H xs us Q I rs q
 ·exact h' pins s σ H xs us Q I rs q
theorem Atc:Aeq X (.type "list") (fun xs H Q=>∃ p ys,xs=[.ref p]/\(SqL X.K H p ys \/ SqT X.K H p ys) /\ ∀ l,H l=none->Q (.ref l) (upd H l (.lst ys))):=by
 intro pins s σ H xs us Q I r h
 obtain⟨p,ys,rfl,hq,q⟩:=h
 obtain⟨u,rfl,rx⟩:=vals1 r
 cases rx
 have fin : ∀ (its:List aE),Vals ys its->ys.length≤sizeLine -> ∀ (h':aU) (c':Nat),(∀ b o',s.heap.get? b=some o'->h'.get? b=some o') ->
   h'.get? s.heap.objs.size=some { cls:=.type "list",dict:=none,data:=.seq its.toArray c',slots:=#[] }->EP X pins σ Q (.ref s.heap.objs.size) { s with heap:=h' }:=fun its r' hz h' c' kp e=>
  ⟨.ref s.heap.objs.size,_,I.laid (t':=s.toks) kp (bU _) (show Ac4 X.prog X.w _ h' _ (.lst ys) from⟨hz,its,c',r',e⟩),rfl,q _ (I.hok.fresh (bU _))⟩
 rcases hq with hq | hq
 ·obtain⟨its,r',pl,hz⟩:=I.list hq
  have hlen:=r'.length
  obtain⟨o,ho,hc,n,hd⟩:=pl.isList
  exact call_list_seq p (.inl rfl) ho hc hd (fun h' c' kp e=>fin its r' hz h' c' kp e) (by simp only[eF] <;> omega)
 ·obtain⟨its,r',pl,hz⟩:=I.tuple hq
  have hlen:=r'.length
  obtain⟨o,ho,hc,n,hd⟩:=pl
  exact call_list_seq p (.inr rfl) ho hc hd (fun h' c' kp e=>fin its r' hz h' c' kp e) (by simp only[eF] <;> omega)
theorem zN:Aeq X (.type "tuple") (fun xs H Q=>∃ p ys,xs=[.ref p]/\((SqL X.K H p ys /\ ∀ l,H l=none->Q (.ref l) (upd H l (.tup ys))) \/ (SqT X.K H p ys/\Q (.ref p) H))):=by
 intro pins s σ H xs us Q I r h
 obtain⟨p,ys,rfl,h⟩:=h
 obtain⟨u,rfl,rx⟩:=vals1 r
 cases rx
 rcases h with⟨hq,q⟩ | ⟨hq,q⟩
 ·obtain⟨its,r',pl,hz⟩:=I.list hq
  have hlen:=r'.length
  refine call_tuple_list pl.isList (fun h' kp=>?_) (by simp only[eF] <;> omega)
  have I1:Inv X pins σ H { s with heap:=h' }:=I.kept (t':=s.toks) kp
  have I2:Inv X pins σ (upd H h'.objs.size (.tup ys)) { s with heap:=h'.push { cls:=.type "tuple",data:=.seq its.toArray } }:=
   I1.laid (t':=s.toks) (fun b o e=>cP _ e) (bU _) (show Ac4 X.prog X.w _ _ _ (.tup ys) from⟨hz,its,r',Bcr.new _ _⟩)
  exact⟨.ref h'.objs.size,_,I2,rfl,q _ (I1.hok.fresh (bU _))⟩
 ·obtain⟨its,r',pl,hz⟩:=I.tuple hq
  exact call_tuple_same pl ⟨.ref p,H,I,rfl,q⟩
def tyV (K:aK)(T:String)(x:V)(H:Hp):Prop:=match x with
 | .str _=>T = "str"
 | .int _=>T = "int"
 | .ref p=>(T = "list" /\ ∃ xs,SqL K H p xs) \/ (T = "tuple" /\ ((∃ o,K.lookup p=some o/\o.cls = .type "tuple" /\ o.dict=none) \/ ∃ xs,H p=some (.tup xs))) \/
   (T = "dict" /\ ((∃ ep kvs,H p=some (.dK ep kvs)) \/ ∃ kvs,∃ ep,H p=some (.dT ep kvs))) \/ (T = "set" /\ ∃ S n,H p=some (.set S n))
 | _=>False
theorem Hm {pins:List (aD×aY)}{σ:St}{H:Hp}{s:aG}{T:String}{x:V}{v:aE}(I:Inv X pins σ H s)(r:RelV x v)(ty:tyV X.K T x H) :
  s.TypeIs v T /\ ∀ a,v = .ref a -> ∃ ob,s.heap.get? a=some ob/\ob.dict=none:=by
 cases x with
 | str z=>
  obtain⟨t,rfl⟩:=r
  cases(show T = "str" from ty)
  exact⟨wY s z t,fun _ e=>nomatch e⟩
 | int i=>
  obtain⟨t,rfl⟩:=r
  cases(show T = "int" from ty)
  exact⟨typeIs_int s i t,fun _ e=>nomatch e⟩
 | ref p=>
  cases r
  rcases ty with⟨rfl,xs,hq⟩ | ⟨rfl,⟨o,hk,hc,hd⟩ | ⟨xs,hx⟩⟩ | ⟨rfl,hk⟩ | ⟨rfl,S,n,hk⟩
  ·obtain⟨its,_,pl,_⟩:=I.list hq
   refine⟨pl.isList.typeIs,fun a e=>?_⟩
   cases e
   obtain⟨o,n,e,c,hd,_⟩:=pl
   exact⟨o,e,hd⟩
  ·refine⟨⟨o,I.kIn p o hk,hc⟩,fun a e=>?_⟩
   cases e
   exact⟨o,I.kIn _ o hk,hd⟩
  ·obtain⟨_,_,_,⟨o,e,c,_⟩,n⟩:=(show Ac4 X.prog X.w H s.heap p (.tup xs) from I.hok p _ hx)
   refine⟨⟨o,e,c⟩,fun a e=>?_⟩
   cases e
   exact n
  ·have z : ∃ o,s.heap.get? p=some o/\o.ExactDict:=by
    rcases hk with⟨ep,kvs,hk⟩ | ⟨kvs,ep,hk⟩
    ·obtain⟨_,_,_,_,o,_,e,ex,_⟩:=I.hok p _ hk
     exact⟨o,e,ex⟩
    ·obtain⟨_,_,_,_,o,_,e,ex,_⟩:=I.hok p _ hk
     exact⟨o,e,ex⟩
   obtain⟨o,e,ex⟩:=z
   refine⟨⟨o,e,ex.1⟩,fun a e2=>?_⟩
   cases e2
   exact⟨o,e,ex.2.1⟩
  ·obtain⟨o,_,_,_,e,ex,_⟩:=I.hok p _ hk
   refine⟨⟨o,e,ex.1⟩,fun a e2=>?_⟩
   cases e2
   exact⟨o,e,ex.2.1⟩
 | _=>exact mZ ty
noncomputable def tBM (K:aK)(T:String)(r:V->List V->Hp->VK->Prop)(to:TE)(t:TA):TE:=fun σ H Q=>to σ H fun x H1=>tyV K T x H1/\t σ H1 fun xs H2=>r x xs H2 Q
variable {o e:aW}{es:List aW}{to:TE}{t:TA}{name:aB}{apos cpos:cC}{T id:String}{r:V->List V->Hp->VK->Prop}
theorem uP (pa:PlainAttrs T)(slot:Slot T name id)(hty:typeOf (.builtin id)=pure (.type "method_descriptor"))(hm:MtR X id r)(ho:PE X o to)(ha:PA X (e::es) t)
  (hbase:xF o name X.env (bZ o X.env)=bZ o X.env:=by rfl)
  (hfew:((eM cpos (bI (e::es) X.env)).all (fun x=>!x.1)&&(xE cpos (xB [] X.env)).all (fun x=>x.1.isSome)
   && decide ((e::es).length+([]:List mF).length+(if ([]:List mF).isEmpty then 0 else 1)<30))=true:=by rfl)
  (hline:(apos.endLine == cpos.line)=true:=by rfl) (hs:bI (e::es) X.env=(false,bZ e X.env)::bI es X.env:=by rfl) (hplain:(eM cpos (bI es X.env)).any (·.1)=false:=by rfl) :
  PE X (.Call (.Attribute o name apos) (e::es) [] cpos) (tBM X.K T r to t):=by
 intro pins s σ H Q I h
 refine wpAny_Call_method_late hbase hfew hline rfl (thn (ho pins s σ H _ I h) fun v s1 gh=>?_)
 obtain⟨x,H1,I1,r1,ty,q1⟩:=gh
 obtain⟨h1,h2⟩:=Hm I1 r1 ty
 refine⟨T,id,pa,slot,hty,h1,h2,?_⟩
 have hA:=ha cpos pins s1 σ H1 _ I1 q1
 rw[hs] at hA ⊢
 refine Calls.callWith_builtin (by show(false||(eM cpos (bI es X.env)).any (·.1))=false; rw[hplain] <;> rfl) (Calls.evalArgs_plain ?_)
 exact thn hA fun us s2 ⟨vs,H2,I2,r2,q2⟩=>hm pins s2 σ H2 x vs v us Q I2 r1 r2 q2
end
def MtM (X:Cx)(id:String)(r:V->List V->Hp->VK->Prop):Prop:=
 ∀ (pins:List (aD×aY)) (s:aG) (σ:St) (H:Hp) (x:V) (xs:List V) (v:aE) (us:List aE) (Q:VK),Inv X pins σ H s->RelV x v->Vals xs us->r x xs H Q ->
  aN (aR X.prog X.w) X.A (call (.builtin id) (v::us)) (EP X pins σ Q) X.xe s
theorem Vals.one : ∀ {x:V} {us:List aE},Vals [x] us -> ∃ u,us=[u]/\RelV x u:=by
 intro x us h
 cases h with
 | cons r t=>cases t; exact⟨_,rfl,r⟩
section
variable {X:Cx}{pins:List (aD×aY)}{σ:St}{H:Hp}{s:aG}{l b:aD}{xs ys zs:List V}
theorem Inv.lset {its its':List aE}{n:Nat}{f:Array aE->Array aE}{t':Nat}(I:Inv X pins σ H s)(hH:H l=some (.lst xs))
  (e:s.heap.get? l=some { cls:=.type "list",data:=.seq its.toArray n }) (hf:f its.toArray=its'.toArray) (hv:Vals ys its') (hz:ys.length≤sizeLine) :
  Inv X pins σ (upd H l (.lst ys)) { s with heap:=s.heap.update l (gL f),toks:=t' }:=by
 have q:=PySem.IsL.update e f
 rw[hf] at q
 refine I.write (x:=l) (e:=l) (by rw[hH]; exact trivial) (.inl rfl) (fun b' u hb hu=>(rV s.heap (gL f) (lH hb)).trans hu) ⟨_,q⟩ ?_
 exact⟨hz,its',_,hv,q⟩
theorem Inv.lnew {its:List aE}{t':Nat}(I:Inv X pins σ H s)(hv:Vals ys its)(hz:ys.length≤sizeLine) :
  Inv X pins σ (upd H s.heap.objs.size (.lst ys)) { s with heap:=s.heap.push { cls:=.type "list",data:=.seq its.toArray },toks:=t' }:=
 I.laid (fun _ _ q=>cP _ q) (bU _) ⟨hz,its,0,hv,eP _ rfl⟩
theorem Inv.fresh (I:Inv X pins σ H s):H s.heap.objs.size=none:=I.hok.fresh (bU _)
theorem Inv.lstM (I:Inv X pins σ H s)(hH:H l=some (.lst xs)):xs.length≤sizeLine /\ ∃ (its:List aE) (n:Nat),Vals xs its/\xs.length=its.length/\s.heap.get? l=some { cls:=.type "list",data:=.seq its.toArray n }:=by
 obtain⟨z,its,n,r,e⟩:=I.hok l _ hH
 exact⟨z,its,n,r,r.length,e⟩
theorem Wf {n:Nat}(h:n≤sizeLine):Cn n=false:=by
 unfold Cn
 exact decide_eq_false (by omega)
end
section
variable {X:Cx}
def Ju:V->List V->Hp->VK->Prop:=fun x vs H Q=>∃ l xs y,x = .ref l/\vs=[y]/\H l=some (.lst xs)/\xs.length<sizeLine/\Q .non (upd H l (.lst (xs++[y])))
theorem UM:MtM X "list.append" Ju:=by
 intro pins s σ H x vs v us Q I rx rv h
 obtain⟨l,xs,y,rfl,rfl,hH,hz,q⟩:=h
 cases rx
 obtain⟨u,rfl,ru⟩:=rv.one
 obtain⟨z,its,n,r,hl,e⟩:=I.lstM hH
 refine FM F.slot_list_append ⟨_,e,rfl⟩ F.entry_list_append (F.args_list_append_2 _ _) (PySem.list_append l its.toArray n u (by rw[eF]; omega)) ⟨e,?_⟩
 refine⟨.non,_,I.lset (its':=its++[u]) hH e (by simp) (r.append (.cons ru .nil)) ?_,rfl,q⟩
 rw[fL,xJ]
 omega
end
end L2
namespace Att
open PySem PySem.W PySem.Calls PyProof.Rows
theorem Tb {P:Params}{h:aU} : ∀ (ns:List Int) (vs:List aE),WellAll P h vs (ns.map WData.int)->IntsAre vs ns:=by
 intro ns
 induction ns with
 | nil=>
  intro vs w
  rw[List.map_nil] at w
  cases w
  exact .nil
 | cons n ns ih=>
  intro vs w
  rw[fE] at w
  cases w with
  | cons a b=>
   cases a
   exact .cons _ _ (ih _ b)
theorem Xe {l:OpenLaw}{n:Nat}(hn:l.most=some n){P:Params}{h:aU}{args:List WData}{vals:List aE}
  (hpre:l.row.toRowW.claim.pre args=true) (hwl:WellAll P h vals args) :
  ∃ a vs ns,vals=[fQ a]/\args=[WData.list (ns.map WData.int)]/\h.get? a=some { cls:=.type "list",data:=.seq vs.toArray }/\IntsAre vs ns/\ns.length≤n:=by
 have hsh:WShape.hasAll [] args [.list .int]=true:=(pre_splitW hpre).1
 have hc:l.pre.holds [] { args:=args }=true:=(pre_splitW hpre).2
 obtain⟨d,r,rfl,h1,h2⟩:=hasAllW_cons hsh
 obtain rfl:=hasAllW_nil h2
 obtain⟨xs,rfl,h3⟩:=hasW_list h1
 obtain⟨ns,rfl⟩:=items_int h3
 have hlen:ns.length≤n:=by
  unfold OpenLaw.pre at hc
  have h4:(WTm.not (.lt (.lit (.int (n:Int))) (.len (.arg 0)))).holds [] { args:=[.list (ns.map .int)] }=true:=by
   have h4:=(holds_andW hc).1
   rw[hn] at h4
   exact h4
  have h5:=condW_of h4 (w_not (w_lt w_lit (w_len_list (w_arg rfl))))
  rw[cX] at h5
  refine Nat.le_of_not_lt fun q=>?_
  have q':(n:Int)<((ns.length:Nat):Int):=by omega
  first
   | (rw[decide_eq_true q'] at h5; exact absurd h5 (by decide))
   | (simp at h5; omega)
 cases hwl with
 | cons w1 w2=>
  cases w2
  cases w1 with
  | list ho hall=>exact⟨_,_,ns,rfl,rfl,ho,Tb ns _ hall,hlen⟩
theorem Yi (l:OpenLaw)(args:List WData):l.row.toRowW.claim.post args (.bool true) args=true:=
 postW_of (r:=l.row.toRowW) (X:=(true == true))
  (show WShape.has [] (.bool true) .bool=true by first | rfl | decide | simp[WShape.has,WShape.arms,WShape.armsAll])
  (show(WTm.eq .res (.lit (.bool true))).value [] { args:=args,res:=some (.bool true),after:=args }=some (.bool (true == true)) from w_eq_bool (w_res rfl) w_lit) rfl
theorem Au6 {l:OpenLaw}{n:Nat}{q:bS}{loose:List aB}{XP:(aB->Option aE)->aU->Prop}{YP:bB->aU->Prop}{d:DefRec}
  (hn:l.most=some n) (hdf:d.params.defaults=[])
  (call : ∀ (w:bB) (s₀ s₁:aG) (mg mb:aB->Option aE) (fa:aD) (o:aY) (pm cd doc:aE) (a:aD) (vs:List aE) (ns:List Int),
   Ground q loose [] XP w s₀ mg mb s₁.heap->YP w s₁.heap ->
   s₁.heap.get? fa=some o->o.data = .func (docDef d.name d.params d.body d.scope pm cd doc)->s₁.heap.CodeRec cd d.name->mg d.name=some (.ref fa) ->
   s₁.heap.get? a=some { cls:=.type "list",data:=.seq vs.toArray }->IntsAre vs ns->ns.length≤n->s₁.gens = #[] ->
   mD (aR l.prog w) xC (.call (.ref fa) ⟨[.ref a],[]⟩) (fun r s'=>r = .ok (.ret (.bool true))/\OldK s₁.heap s'.heap/\s'.os=s₁.os/\qC s'.gens) s₁) :
  WalkO q loose XP YP l.row.toRowW d [] (fun f vs=>PySem.call f vs):=by
 intro w s₀ s₁ mg mb G Y fa o pm cd doc dV kV ho hd hcd hD hmg hg args vals as hpre hlay hrd hwl hlo
 obtain rfl:dV = .none:=Dflts.none hD hdf
 obtain rfl:kV = .none:=Dflts.noKw hD
 obtain⟨a,vs,ns,rfl,rfl,hobj,hints,hlen⟩:=Xe hn hpre hwl
 refine enter_call (tR (call w s₀ s₁ mg mb fa o pm cd doc a vs ns G Y ho (fd_plain hd) hcd hmg hobj hints hlen hg) fun r s' hq=>?_)
 obtain⟨rfl,h2,h3,h4⟩:=hq
 exact⟨.inl ⟨.bool true,.bool true,[],rfl,fun _=>rfl,.bool true,Yi l _,fun _=>⟨List.Pairwise.nil,fun _ hm=>(nomatch hm)⟩⟩,h2,h3,h4⟩
end Att
namespace L2
open PySem PySem.Spec PyProof.Rows
theorem TF : ∀ {vs:List aE} {ns:List Int},IntsAre vs ns->Vals (ns.map V.int) vs
 | _,_,.nil=>.nil
 | _,_,.cons n t h=>.cons ⟨t,rfl⟩ (TF h)
def Only (H:Hp):Prop:=∀ b,H b=none \/ ∃ o xs,H b=some (.frz o (.lst xs))
theorem Vd {P:bS}{w:bB}{K:aK}{mg mb:aB->Option aE}{CX:CXT}{k:Nat}{fa a:aD}{fd:gD}{x:aB}{sp:Sp}{s₁:aG}{vs:List aE}{ns:List Int}
  (KX:K.In s₁.heap) (hns:s₁.heap.Ns cK mg) (hb:s₁.heap.Ns builtinsNs mb) (hbb : ∀ x:aB,x ≠ "__name__" -> mb x=mO x) (hlim:s₁.heap.NoLimit) (hg:s₁.gens = #[])
  (ha:s₁.heap.get? a=some { cls:=.type "list",data:=.seq vs.toArray }) (hi:IntsAre vs ns) (hl:ns.length≤sizeLine) (hr:Room k xC)
  (F : ∀ base:aU,K.In base->base.Ns cK mg->FnOk P w K mg base CX k fa fd [x] sp) (hbind : ∀ (s:aG) (u:aE),xQ s fd ⟨[u],[]⟩ [(x,u)])
  (hsp : ∀ H:Hp,Only H->SqL K H a (ns.map V.int)->sp [.ref a] H (fun v _=>v = .bl true) fun _ _ _=>False)
  (hCX : ∀ H e s',CX [] H s₁ (fun _ _ _=>False) e s'->False) :
  mD (aR P w) xC (.call (.ref fa) ⟨[.ref a],[]⟩) (fun r s'=>r = .ok (.ret (.bool true))/\OldK s₁.heap s'.heap/\s'.os=s₁.os/\qC s'.gens) s₁:=by
 have rv:=TF hi
 have lenV:=hi.length
 have core : ∀ H:Hp,Only H->SqL K H a (ns.map V.int)->HOk P w H s₁.heap->(∀ b,H b≠none->b=a)->(H a≠none->K.lookup a=none) ->
   mD (aR P w) xC (.call (.ref fa) ⟨[.ref a],[]⟩) (fun r s'=>r = .ok (.ret (.bool true))/\OldK s₁.heap s'.heap/\s'.os=s₁.os/\qC s'.gens) s₁:=by
  intro H hO hS hok hA hK
  have base_of : ∀ {b:aD} {o:aY},s₁.heap.get? b=some o->H b=none->(pO s₁.heap H).get? b=some o:=fun e n=>Ue e n
  have noA : ∀ {b:aD} {o:aY} {es:Array pZ} {ep:Nat},s₁.heap.get? b=some o->o.data = .dict es ep->H b=none:=fun {b o es ep} e d=>by
   cases q:H b with
   | none=>rfl
   | some u=>
    have e':b=a:=hA b (by rw[q]; simp)
    subst e'
    rw[ha] at e; cases e
    have d':Data.seq vs.toArray _=Data.dict es ep:=d
    cases d'
  have nsK : ∀ {b:aD} {m:aB->Option aE},s₁.heap.Ns b m->(pO s₁.heap H).Ns b m:=fun {b m} ⟨o,es,ep,e,d,r⟩=>⟨o,es,ep,base_of e (noA e d),d,r⟩
  have hKb:K.In (pO s₁.heap H):=fun b o e=>base_of (KX b o e) (by
   cases q:H b with
   | none=>rfl
   | some u=>
    have e':b=a:=hA b (by rw[q]; simp)
    subst e'
    rw[hK (by rw[q]; simp)] at e; cases e)
  have hM:Mod K mg (pO s₁.heap H):=⟨hKb,nsK hns,⟨mb,nsK hb,hbb⟩,let ⟨mc,h1,h2⟩:=hlim; ⟨mc,nsK h1,h2⟩⟩
  have e0:Env0 P w K mg (pO s₁.heap H) xC [] s₁ H:=⟨rfl,hM,fun b o e=>Ly e,Nat.le_of_eq (Xk _ _),trivial,fun b hb=>absurd (show b∈([]:List aD) from hb) (by simp),hok,.of_eq hg⟩
  refine tR ((F _ hKb (nsK hns)).run xC [] s₁ H ⟨[.ref a],[]⟩ [.ref a] [.ref a] _ _ hr e0 (hbind s₁ (.ref a)) (.cons rfl .nil) (hsp H hO hS)) fun r s' h=>?_
  cases r with
  | error e=>exact(hCX H e s' h).elim
  | ok fl=>
   cases fl with
   | next=>exact mZ h
   | brk=>exact mZ h
   | cont=>exact mZ h
   | ret u=>
    obtain⟨v,H',os,bare,un,hok',r',q⟩:=h
    have q':v = .bl true:=q
    subst q'
    obtain rfl:u=Value.bool true:=r'
    refine⟨rfl,OldK.of_keep fun b o e=>?_,os,bare⟩
    cases q:H b with
    | none=>exact un.keep b o e q (by intro z; exact absurd (show b∈([]:List aD) from z) (by simp)) (by simp)
    | some u=>
     rcases hO b with z | ⟨ob,xs,z⟩
     ·rw[q] at z; cases z
     ·have z2:=un.frzs b ob _ z
      obtain⟨e1,_⟩:=hok b _ z
      obtain⟨e2,_⟩:=hok' b _ z2
      rw[e] at e1; cases e1
      exact e2
 cases hk:K.lookup a with
 | some o=>
  have e:=KX a o hk
  rw[ha] at e
  cases e
  refine core (fun _=>none) (fun _=>.inl rfl) (.inr ⟨_,vs.toArray,_,hk,rfl,rfl,rfl,by rw[eF,lenV]; exact hl,by simpa using rv⟩) (fun b u z=>by have z':(none:Option HO)=some u:=z; cases z') (fun b z=>absurd rfl z) fun z=>absurd rfl z
 | none=>
  refine core (fun b=>if b=a then some (.frz { cls:=.type "list",data:=.seq vs.toArray } (.lst (ns.map V.int))) else none) (fun b=>?_) (.inl (.inr ⟨{ cls:=.type "list",data:=.seq vs.toArray },if_pos rfl⟩)) (fun b u z=>?_) (fun b z=>?_) fun _=>hk
  ·by_cases hb:b=a
   ·exact .inr ⟨_,_,if_pos hb⟩
   ·exact .inl (if_neg hb)
  ·by_cases hb:b=a
   ·have z':=(if_pos hb).symm.trans z
    cases z'
    subst hb
    exact⟨ha,by rw[cX]; exact hl,vs,_,rv,ha⟩
   ·have z':=(if_neg hb).symm.trans z
    cases z'
  ·by_cases hb:b=a
   ·exact hb
   ·exact absurd (if_neg hb) z
theorem Bc6 {l:Bb}{n k:Nat}{q:bS}{loose:List aB}{XP:(aB->Option aE)->aU->Prop}{YP:bB->aU->Prop}{d:DefRec}{K:Params->aK}{CX:bB->CXT}{sp:bB->Sp}{x:aB}
  (hn:l.most=some n) (hn2:n≤sizeLine) (hdf:d.params.defaults=[]) (hr:Room k xC)
  (hY : ∀ (w:bB) (h:aU),YP w h->(K w.params).In h)
  (F : ∀ (w:bB) (mg:aB->Option aE) (fa:aD) (h:aU),(K w.params).In h->h.Ns cK mg->mg d.name=some (.ref fa) ->
   ∃ fd:gD,(∀ (s:aG) (u:aE),xQ s fd ⟨[u],[]⟩ [(x,u)]) /\
    ∀ base:aU,(K w.params).In base->base.Ns cK mg->FnOk l.prog w (K w.params) mg base (CX w) k fa fd [x] (sp w))
  (hsp : ∀ (w:bB) (H:Hp) (a:aD) (ns:List Int),ns.length≤n->Only H->SqL (K w.params) H a (ns.map V.int)->sp w [.ref a] H (fun v _=>v = .bl true) fun _ _ _=>False)
  (hCX : ∀ (w:bB) (H:Hp) (s:aG) (e:aE) (s':aG),CX w [] H s (fun _ _ _=>False) e s'->False) :
  PySem.W.WalkO q loose XP YP l.row.toRowW d [] (fun f vs=>PySem.call f vs):=by
 refine Att.Au6 hn hdf fun w s₀ s₁ mg mb fa o pm cd doc a vs ns G Y ho hd hcd hmg hobj hints hlen hg=>?_
 have KX:=hY w _ Y
 obtain⟨fd,hb,hF⟩:=F w mg fa _ KX G.T.g hmg
 exact Vd KX G.T.g G.T.b G.T.builtins G.T.nolimit hg hobj hints (jB hlen hn2) hr hF hb (fun H hO hS=>hsp w H a ns hlen hO hS) fun H e s'=>hCX w H s₁ e s'
noncomputable def mB (s:bR):Arguments:=match s with
 | .FunctionDef _ a _ _ _ _ _ _ _ _=>a
 | _=>{ posonlyargs:=[],args:=[],vararg:=none,kwonlyargs:=[],kw_defaults:=[],kwarg:=none,defaults:=[] }
noncomputable def jG (s:bR):List bR:=match s with
 | .FunctionDef _ _ b _ _ _ _ _ _ _=>b
 | _=>[]
noncomputable def bJ (s:bR):iP:=match s with
 | .FunctionDef _ _ _ _ _ _ sc _ _ _=>sc
 | _=>{ kind:=.function,names:=[],isGenerator:=false,isCoroutine:=false }
noncomputable abbrev CX0:CXT:=fun _ _ _ _ _ _=>False
noncomputable abbrev E0:XK:=fun _ _ _=>False
theorem OC {X:Cx}:Passes CX0 X E0:=fun _ _ _ _ _ _ _ h=>h.elim
structure Fun (K:aK)(x qual:aB)(st:bR)(f:aD)(fd:gD):Prop where
 ex : ∃ (oc:aE) (od:Option aD) (kV doc pm:aE) (an:Option aD) (cdv ct:aE) (osl:Array (Option aE)),
  fd=lF x qual (mB st) (jG st) (bJ st) .none kV doc pm an cdv ct/\K.lookup f=some ⟨oc,od,.func fd,osl⟩/\AO K cdv qual=true
 kp:rL K (.ref f)=true
section
variable {P:bS}{w:bB}{K:aK}{mg:aB->Option aE}{base:aU}
theorem Fun.ok {x qual:aB}{st:bR}{f:aD}{fd:gD}{N ps:List aB}{k:Nat}{sp:Sp}(F:Fun K x qual st f fd)(S:FnScope N ps (bJ st))(len : ∀ vs H Q E,sp vs H Q E->vs.length=ps.length)
  (hbody : ∀ (cdv:aE) (A:cE) (outer:List eT) (s:aG) (H:Hp) (vs:List V) (Q:VK) (E:XK),Room k (A.deeper (jA qual (bJ st) s.heap.objs.size f cdv))->sp vs H Q E ->
   ∃ t,PSs (jV CX0 P w K mg base N qual (bJ st) f cdv A outer s H E).nox (jG st) t/\t { nx:=fun _ H'=>Q .non H',rt:=Q } (start N vs) H):FnOk P w K mg base CX0 (k+1) f fd ps sp:=by
 obtain⟨oc,od,kV,doc,pm,an,cdv,ct,osl,rfl,lk,hcd⟩:=F.ex
 refine ON lk hcd S len fun A outer s H vs Q E hr hsp=>?_
 obtain⟨t,h,q⟩:=hbody cdv A outer s H vs Q E hr hsp
 exact⟨t,h.nox,q⟩
theorem Fun.binds {x qual:aB}{st:bR}{f:aD}{fd:gD}{ps:List aB}(F:Fun K x qual st f fd)
  (h : ∀ (kV doc pm:aE) (an:Option aD) (cdv ct:aE) (us:List aE),us.length=ps.length->xD (lF x qual (mB st) (jG st) (bJ st) .none kV doc pm an cdv ct) ⟨us,[]⟩=pure (ps.zip us)):Binds K fd ps []:=by
 obtain⟨oc,od,kV,doc,pm,an,cdv,ct,osl,rfl,lk,hcd⟩:=F.ex
 exact .all (h kV doc pm an cdv ct)
theorem PH {x qual:aB}{st:bR}{f:aD}{oc:aE}{od an:Option aD}{osl:Array (Option aE)}{kV doc pm cdv ct:aE}(l:K.lookup f=some ⟨oc,od,.func (lF x qual (mB st) (jG st) (bJ st) .none kV doc pm an cdv ct),osl⟩)
  (c:AO K cdv qual=true) (k:rL K (.ref f)=true):Fun K x qual st f (lF x qual (mB st) (jG st) (bJ st) .none kV doc pm an cdv ct):=⟨⟨oc,od,kV,doc,pm,an,cdv,ct,osl,rfl,l,c⟩,k⟩
end
theorem dM {A:cE}{k:Nat}(hr:Room k A):A.units+40<cLine:=Bm (Nat.add_le_add_left (by decide:40≤64) _) hr.units
section
variable {X:Cx}
theorem Xt:Aeq X (.builtin "len") (fun xs H Q=>∃ a ep kvs,xs=[V.ref a]/\H a=some (.dK ep kvs)/\Q (.int kvs.length) H):=by
 intro pins s σ H xs us Q I r h
 obtain⟨a,ep,kvs,rfl,ha,q⟩:=h
 obtain⟨u,rfl,ru⟩:=vals1 r
 cases ru
 exact Fg I (.inl ha) fun t s' I'=>⟨.int kvs.length,H,I',⟨t,rfl⟩,q⟩
end
theorem rG {A B:Prop}(h:B):if false=true then A else B:=by
 rw[if_neg qA]
 exact h
theorem qE {A B:Prop}(h:A):if true=true then A else B:=by
 rw[if_pos rfl]
 exact h
section
variable {prog:bS}{w:bB}{A:cE}{R:Result->aG->Prop}{s:aG}
theorem Qh {elt target iter:aW}{ifs:List aW}{scope:iP}{pos:cC}{it acc:aE}{env:eT}(I:Nat->aG->Prop)
  (turn : ∀ n s,I n s->aN (aR prog w) A (kY it) (fun r s₁=>match r with
   | none=>R (.ok .next) s₁
   | some v=>aN (aR prog w) A (LX target it v) (fun _ s₂=>aN (aR prog w) A (assign target env v) (fun _ s₃=>
     aN (aR prog w) A (forIn ifs true fun c r=>if r=true then do let ok ← isTrue c env (bZ c env); pure (BH ok) else pure (BH r)) (fun ok s₄=>
      if ok=true then aN (aR prog w) A (bZ elt env) (fun x s₅=>
       aN (aR prog w) A (call (.builtin "list.append") [acc,x]) (fun _ s₆=>∃ m,m<n/\I m s₆) (fun _ _=>False) s₅) (fun _ _=>False) s₄
      else ∃ m,m<n/\I m s₄) (fun _ _=>False) s₃) (fun _ _=>False) s₂) (fun _ _=>False) s₁) (fun _ _=>False) s)
  (n:Nat) (h:I n s):mD (aR prog w) A (.compLoop (.ListComp elt [⟨target,iter,ifs,0⟩] scope pos) 0 it acc env) R s:=by
 refine codeAny_loop rfl I (fun n s hI=>?_) n h
 refine wpAny_noted ?_
 rw[compTurn_list]
 refine aI (wpAny_standAt (aI (kW (turn n s hI) (fun r s₁ h₁=>?_) fun _ _ h'=>h'.elim)))
 cases r with
 | none=>exact aT h₁
 | some v=>
  refine aI (kW h₁ (fun _ s₂ h₂=>?_) fun _ _ h'=>h'.elim)
  refine aI (kW h₂ (fun _ s₃ h₃=>aI (kW h₃ (fun ok s₄ h₄=>?_) fun _ _ h'=>h'.elim)) fun _ _ h'=>h'.elim)
  cases ok with
  | false=>exact aT ⟨rfl,h₄⟩
  | true=>
   exact aI (aI (kW h₄ (fun x s₅ h₅=>aI (kW h₅ (fun _ s₆ h₆=>aT (aT ⟨rfl,h₆⟩)) fun _ _ h'=>h'.elim)) fun _ _ h'=>h'.elim))
end
theorem cellOf_eq {env:eT}{n:aB}{c:aD}(h:env.cells.lookup n=some c):cellOf env n=pure c:=by
 unfold cellOf
 rw[h]
noncomputable def fD (env:eT):List (aB×mT)->List (aB×aD)->List (aB×aD)
 | [],cs=>cs
 | (n,k)::r,cs=>fD env r (if (k == gC)=true then(match env.cells.lookup n with | some c=>(n,c)::cs | none=>cs) else cs)
theorem XH {sc:iP}{env:eT}(h : ∀ n,(n,gC)∈sc.names -> ∃ c,env.cells.lookup n=some c):closureFor sc env=pure (fD env sc.names []):=by
 unfold closureFor
 generalize sc.names=l at h
 have go : ∀ (l:List (aB×mT)) (cs:List (aB×aD)),(∀ n,(n,gC)∈l -> ∃ c,env.cells.lookup n=some c) ->
   (forIn l cs (fun(x:aB×mT) (r:List (aB×aD))=>if (x.2 == gC)=true then(do let c ← cellOf env x.1; pure (BH ((x.1,c)::r))) else pure (BH r)):Sem (List (aB×aD)))=pure (fD env l cs):=by
  intro l
  induction l with
  | nil=>intro cs _; rfl
  | cons p r ih=>
   intro cs hl
   obtain⟨n,k⟩:=p
   rw[List.forIn_cons]
   have hr : ∀ n,(n,gC)∈r -> ∃ c,env.cells.lookup n=some c:=fun n hn=>hl n (cA _ hn)
   cases hk:(k == gC) with
   | true=>
    have ek:k=gC:=by simpa using hk
    subst ek
    obtain⟨c,hc⟩:=hl n bQ
    have e1:fD env ((n,gC)::r) cs=fD env r ((n,c)::cs):=by
     show fD env r (if (gC == gC)=true then(match env.cells.lookup n with | some c=>(n,c)::cs | none=>cs) else cs)=_
     rw[hc]; rfl
    rw[e1]
    simp only[cellOf_eq hc,hk,if_true]
    exact ih ((n,c)::cs) hr
   | false=>
    have e1:fD env ((n,k)::r) cs=fD env r cs:=by
     show fD env r (if (k == gC)=true then(match env.cells.lookup n with | some c=>(n,c)::cs | none=>cs) else cs)=_
     rw[hk]; rfl
    rw[e1]
    simp only[hk,iV,if_false]
    exact ih cs hr
 have e:=go l [] h
 simp only[e]
 rfl
theorem JZ {env:eT} : ∀ (l:List (aB×mT)) (cs:List (aB×aD)),(∀ x c,cs.lookup x=some c->env.cells.lookup x=some c) -> ∀ x c,(fD env l cs).lookup x=some c->env.cells.lookup x=some c
 | [],cs,h,x,c,e=>h x c e
 | (n,k)::r,cs,h,x,c,e=>by
  refine JZ r _ ?_ x c e
  intro y d q
  by_cases hk:(k == gC)=true
  ·rw[if_pos hk] at q
   cases hc:env.cells.lookup n with
   | none=>rw[hc] at q; exact h y d q
   | some a=>
    rw[hc] at q
    by_cases hy:(y == n)=true
    ·simp only[nR,hy] at q
     have:y=n:=by simpa using hy
     rw[this,hc]; exact q
    ·have hy':(y == n)=false:=by simpa using hy
     simp only[nR,hy'] at q
     exact h y d q
  ·rw[if_neg hk] at q; exact h y d q
theorem WK {env:eT}{x:aB}{c:aD}(hx:env.cells.lookup x=some c) : ∀ (l:List (aB×mT)) (cs:List (aB×aD)),cs.lookup x=some c->(fD env l cs).lookup x=some c
 | [],cs,h=>h
 | (n,k)::r,cs,h=>by
  refine WK hx r _ ?_
  by_cases hk:(k == gC)=true
  ·rw[if_pos hk]
   cases hc:env.cells.lookup n with
   | none=>exact h
   | some a=>
    by_cases hy:(x == n)=true
    ·have:x=n:=by simpa using hy
     subst this
     rw[hx] at hc; cases hc
     simp[nR]
    ·have hy':(x == n)=false:=by simpa using hy
     simp only[nR,hy']; exact h
  ·rw[if_neg hk]; exact h
theorem JX {env:eT}{x:aB}{c:aD}(hx:env.cells.lookup x=some c) : ∀ (l:List (aB×mT)) (cs:List (aB×aD)),(x,gC)∈l->(fD env l cs).lookup x=some c
 | [],cs,h=>by simp at h
 | (n,k)::r,cs,h=>by
  rcases cN.mp h with e | h
  ·cases e
   refine WK hx r _ ?_
   rw[if_pos (by rfl),hx]
   simp[nR]
  ·exact JX hx r _ h
theorem WX {sc:iP}{env:eT}(x:aB):(xA sc env).names.lookup x=(sc.names.lookup x).map fun k=>if (k == gC&&env.scope.kind == .function&&env.kindOf x == some .cell)=true then NameKind.cell else k:=by
 unfold xA
 induction sc.names with
 | nil=>rfl
 | cons p r ih=>
  obtain⟨n,k⟩:=p
  show List.lookup x ((if (k == gC&&env.scope.kind == .function&&env.kindOf n == some .cell)=true then(n,NameKind.cell) else(n,k))::List.map _ r)=_
  by_cases hy:(x == n)=true
  ·have:x=n:=by simpa using hy
   subst this
   by_cases hc:(k == gC&&env.scope.kind == .function&&env.kindOf x == some .cell)=true
   ·rw[if_pos hc]
    simp only[nR,hy,tW]
    rw[if_pos hc]
   ·rw[if_neg hc]
    simp only[nR,hy,tW]
    rw[if_neg hc]
  ·have hy':(x == n)=false:=by simpa using hy
   have e2:List.lookup x ((n,k)::r)=List.lookup x r:=by simp only[nR,hy']
   rw[e2]
   by_cases hc:(k == gC&&env.scope.kind == .function&&env.kindOf n == some .cell)=true
   ·rw[if_pos hc]
    simp only[nR,hy']
    exact ih
   ·rw[if_neg hc]
    simp only[nR,hy']
    exact ih
theorem lookup_mem {α:Type}{x:aB}{v:α} : ∀ {l:List (aB×α)},l.lookup x=some v->(x,v)∈l
 | [],h=>by simp at h
 | (n,k)::r,h=>by
  by_cases hy:(x == n)=true
  ·have:x=n:=by simpa using hy
   subst this
   simp[nR] at h
   subst h
   exact bQ
  ·have hy':(x == n)=false:=by simpa using hy
   simp only[nR,hy'] at h
   exact cA _ (lookup_mem h)
noncomputable def iO (X:Cx)(N:List aB)(sc:iP)(cl:List (aB×aD))(C:aD)(s₀:aG)(H₀:Hp)(ex:List aD):Cx:=
 { X with N:=N,s₀:=s₀,H₀:=H₀,env:=compEnvC sc cl C X.env,outer:=X.stack,ex:=ex,fn:=fun _=>false,pn:=[],xe:=fun _ _=>False }
structure CompScope (X:Cx)(N:List aB)(cap:List (Option Nat))(sc:iP):Prop where
 kind:sc.kind = .function
 nocell : ∀ y∈sc.names,y.2 ≠ .cell
 nm : ∀ y∈sc.names,y.2 = .local->sc.names.lookup y.1=some .local
 fre : ∀ y∈sc.names,y.2 = .free->X.env.scope.names.lookup y.1=some .cell \/ X.env.scope.names.lookup y.1=some .free
 len:cap.length=N.length
 cap : ∀ (i j:Nat),cap[i]?=some (some j) -> ∃ x,N[i]?=some x/\X.N[j]?=some x/\sc.names.lookup x=some .free
noncomputable def uH (cap:List (Option Nat))(σ:St):St:=cap.map fun o=>o.bind fun j=>(σ[j]?).join
def uG (X:Cx)(ifs:List aW)(t:TT):Prop:=
 ∀ (pins:List (aD×aY)) (s:aG) (σ:St) (H:Hp) (Q:Bool->Hp->Prop),Inv X pins σ H s->t σ H Q ->
  aN (aR X.prog X.w) X.A (forIn ifs true fun c r=>if r=true then do let ok ← isTrue c X.env (bZ c X.env); pure (BH ok) else pure (BH r)) (TP X pins σ Q) X.xe s
noncomputable def Fw:TT:=fun _ H Q=>Q true H
theorem Js {X:Cx}:uG X [] Fw:=fun _ _ _ H _ I h=>wpAny_tests_nil ⟨H,I,h⟩
theorem Ms {X:Cx}{c:aW}{t:TT}(h:PT X c t):uG X [c] t:=fun pins s σ H Q I hw=>wpAny_tests_one (h pins s σ H Q I hw)
def NQ (cap:List (Option Nat))(J:It)(g:TG)(tc:TT)(te:TE)(σ:St)(H1:Hp)(Q:VK):Prop:=∀ D,H1 D=none ->
 ∃ W:Nat->Nat->List V->St->Hp->Prop,(∃ m,W 0 m [] (uH cap σ) (upd H1 D (.lst []))) /\
  ∀ i m ys σ' H',W i m ys σ' H'->H' D=some (.lst ys)/\((J.stop i H'/\Q (.ref D) H') \/
   (J.go i H'/\ys.length<sizeLine /\ ∃ M:List V->St->Hp->Prop,(∀ zs σ2 H2,M zs σ2 H2 -> ∃ m',m'<m/\W (i+1) m' zs σ2 H2) /\ ∀ x H2,J.yld i H' x H2->g x σ' H2 fun σ3 H3=>tc σ3 H3 fun b H4=>
    if b=true then te σ3 H4 fun y H5=>H5 D=some (.lst ys)/\M (ys++[y]) σ3 (upd H5 D (.lst (ys++[y]))) else M ys σ3 H4))
noncomputable def tLC (cap:List (Option Nat))(wi:TI)(g:TG)(tc:TT)(te:TE):TE:=fun σ H Q=>wi σ H fun J H1=>NQ cap J g tc te σ H1 Q
section
variable {X:Cx}{N:List aB}{cap:List (Option Nat)}{sc:iP}{pins:List (aD×aY)}{σ:St}{H:Hp}{s:aG}
theorem CompScope.cells (S:CompScope X N cap sc)(ok:X.Ok) : ∀ n,(n,gC)∈sc.names -> ∃ c,X.env.cells.lookup n=some c:=fun n hn=>ok.has n (S.fre _ hn rfl)
theorem Yu (S:CompScope X N cap sc){fp:List aD}(I:Inv X pins σ H s)(hf : ∀ b∈fp,lM X pins H b)(hl : ∀ b∈fp,b<s.heap.objs.size) :
  (iO X N sc (fD X.env sc.names []) s.heap.objs.size s H fp).Ok:=by
 have sub : ∀ x c,(fD X.env sc.names []).lookup x=some c->X.env.cells.lookup x=some c:=JZ sc.names [] (fun x c e=>by simp at e)
 refine⟨I.ok.mod,?_,I.ok.glob,I.ok.blt,bU _,?_,?_,?_,I.ok.hd,I.ok.frames,.inl rfl,?_,I.bs,jB I.ok.bsz I.sz,?_,?_,I.stack,I.stkFree⟩
 ·exact S.kind
 ·intro x y c h1 h2
  exact I.ok.inj x y c (sub x c h1) (sub y c h2)
 ·intro x hx
  have hk:(xA sc X.env).names.lookup x=some .cell \/ (xA sc X.env).names.lookup x=some .free:=hx
  have hfree:sc.names.lookup x=some .free:=by
   rw[WX] at hk
   cases e:sc.names.lookup x with
   | none=>rw[e] at hk; simp at hk
   | some k=>
    rw[e] at hk
    have hm:=lookup_mem e
    have nc:=S.nocell _ hm
    simp only[tW,FT] at hk
    by_cases hc:(k == gC&&X.env.scope.kind == .function&&X.env.kindOf x == some .cell)=true
    ·have:(k == gC)=true:=by
      simp only[jI] at hc; exact hc.1.1
     rw[show k=gC by simpa using this]
    ·rw[if_neg hc] at hk
     rcases hk with q | q
     ·exact absurd q nc
     ·rw[q]
  obtain⟨c,hc⟩:=S.cells I.ok x (lookup_mem hfree)
  exact⟨c,JX hc _ _ (lookup_mem hfree)⟩
 ·intro x c h1 _
  exact absurd (show false=true from h1) qA
 ·intro b hb
  refine⟨cZ (hl b hb),fun x c e=>(hf b hb).2.2.2.2.1 x c (sub x c e)⟩
 ·intro b o e hb
  rcases(hf b hb).2.2.2.1 with z | z
  ·exact I.ok.noex b o e z
  ·exact absurd (iQ (cL e) (jB I.ok.bsz z)) (mS _)
 ·intro b hb hz
  obtain⟨_,h1,h2,_⟩:=hf b hb
  rcases cN.mp (I.stkSub b hz) with e | e
  ·exact h1 e
  ·exact h2 e
theorem Vt (S:CompScope X N cap sc){fp:List aD}{h':aU}{tk:Nat}(I:Inv X pins σ H s)(hf : ∀ b∈fp,lM X pins H b)(hl : ∀ b∈fp,b<s.heap.objs.size)
  (hn:h'.Ns s.heap.objs.size fun _=>none) (hk : ∀ b o,s.heap.get? b=some o->h'.get? b=some o) :
  Inv (iO X N sc (fD X.env sc.names []) s.heap.objs.size s H fp) [] (uH cap σ) H { s with heap:=h',toks:=tk }:=by
 have sub : ∀ x c,(fD X.env sc.names []).lookup x=some c->X.env.cells.lookup x=some c:=JZ sc.names [] (fun x c e=>by simp at e)
 have fr:H s.heap.objs.size=none:=I.hok.fresh (bU _)
 refine⟨Yu S I hf hl,rfl,I.bare,Un.kept hk,⟨_,hn,fun i x v e1 e2 e3=>?_⟩,fun x c e=>?_,fr,fun x c e=>I.freeC x c (sub x c e),fun p hp=>by simp[iO] at hp,I.hok.kept hk,?_⟩
 ·have e2':(cap.map fun o=>o.bind fun j=>(σ[j]?).join)[i]?=some (some v):=e2
  rw[fM] at e2'
  cases hc:cap[i]? with
  | none=>rw[hc] at e2'; simp at e2'
  | some o=>
   rw[hc] at e2'
   simp only[tW,FT] at e2'
   cases o with
   | none=>simp at e2'
   | some j=>
    have e2':(σ[j]?).join=some v:=e2'
    have ej:σ[j]?=some (some v):=by
     cases q:σ[j]? with
     | none=>rw[q] at e2'; simp at e2'
     | some z=>rw[q] at e2'; simp at e2'; rw[e2']
    obtain⟨y,n1,n2,fr1⟩:=S.cap i j hc
    have exy:x=y:=gU (e1.symm.trans n1)
    subst exy
    have hmem:=lookup_mem fr1
    have hkind:=S.fre _ hmem rfl
    obtain⟨m,_,hlk⟩:=I.loc
    obtain⟨u,r,l⟩:=hlk j x v n2 ej (.inr hkind)
    refine⟨u,r,.inr ⟨?_,?_⟩⟩
    ·show(xA sc X.env).names.lookup x=some .cell \/ (xA sc X.env).names.lookup x=some .free
     rw[WX,fr1]
     simp only[tW,FT]
     by_cases hc:(gC == gC&&X.env.scope.kind == .function&&X.env.kindOf x == some .cell)=true
     ·exact .inl (if_pos hc)
     ·exact .inr (if_neg hc)
    ·rcases l with⟨k1,_⟩ | ⟨_,c,hc1,hcell⟩
     ·exfalso
      have k1':X.env.scope.names.lookup x=some .local:=k1
      rcases hkind with q | q
      ·rw[k1'] at q; cases q
      ·rw[k1'] at q; cases q
     ·obtain⟨oc,h1,h2⟩:=hcell
      exact⟨c,JX hc1 _ _ hmem,oc,hk _ _ h1,h2⟩
 ·obtain⟨v,oc,h1,h2⟩:=I.cell x c (sub x c e)
  exact⟨v,oc,hk _ _ h1,h2⟩
 ·show(cap.map _).length=N.length
  rw[cX,S.len]
theorem comp_back {fp:List aD}{cl:List (aB×aD)}{σ':St}{H':Hp}{s':aG}{pl:List (aD×aY)}(I:Inv X pins σ H s)(hf : ∀ b∈fp,lM X pins H b)
  (I':Inv (iO X N sc cl s.heap.objs.size s H fp) pl σ' H' s'):Inv X pins σ H' s':=
 I.call' I'.os (show Un (frs X.stack) fp H H' s.heap s'.heap from I'.base) I'.hok I'.bare fun b hb=>⟨(hf b hb).2.2.2.1,(hf b hb).2.1,(hf b hb).2.2.2.2.1,(hf b hb).2.2.2.2.2⟩
end
section
variable {X:Cx}{N:List aB}{cap:List (Option Nat)}{sc:iP}{elt iter tg:aW}{ifs:List aW}{pos:cC}{wi:TI}{g:TG}{tc:TT}{te:TE}
def Block (X:Cx)(N:List aB)(sc:iP)(tg elt:aW)(ifs:List aW)(g:TG)(tc:TT)(te:TE):Prop:=
 ∀ (cl:List (aB×aD)) (C:aD) (s₀:aG) (H₀:Hp) (ex:List aD),PG (iO X N sc cl C s₀ H₀ ex) tg g/\uG (iO X N sc cl C s₀ H₀ ex) ifs tc/\PE (iO X N sc cl C s₀ H₀ ex) elt te
theorem PV {pins:List (aD×aY)}{σ:St}{H:Hp}{s:aG}{RR:aE->aD->Result->aG->Prop}{E:aE->aG->Prop}(hc:X.calm=true)(S:CompScope X N cap sc)(hb:Block X N sc tg elt ifs g tc te)
  {it:aD} {fp:List aD} {tn:Nat->aU->Prop} {J:It} {Q:VK} (I:Inv X pins σ H s) (T:Turn X.prog X.w X.K tg J fp it tn) (st:tn 0 s.heap) (hf : ∀ b∈fp,lM X pins H b)
  (q:NQ cap J g tc te σ H Q)
  (hRR : ∀ (D:aD) (s₀:aG) (H₀:Hp) (σ':St) (H':Hp) (s':aG),Inv X pins σ H₀ s₀->(∀ b∈fp,lM X pins H₀ b)->Inv (iO X N sc (fD X.env sc.names []) s₀.heap.objs.size s₀ H₀ fp) [] σ' H' s'->Q (.ref D) H' ->
   RR (.ref D) s₀.heap.objs.size (.ok .next) s') :
  aN (aR X.prog X.w) X.A (newList []) (fun acc s₃=>aN (aR X.prog X.w) X.A (newFunctionEnv sc X.env.globals (fD X.env sc.names []) [] X.env.qual none .none (some X.env)) (fun cenv s₄=>
   mD (aR X.prog X.w) X.A (.compStart (.ListComp elt [⟨tg,iter,ifs,0⟩] sc pos) 0 (.ref it) acc { cenv with scope:=xA sc X.env }) (RR acc cenv.locals) s₄) E s₃) E s:=by
 have hl : ∀ b∈fp,b<s.heap.objs.size:=fun b hb=>by
  obtain⟨o,e,_⟩:=T.obj 0 _ st b hb
  exact cL e
 refine jQ (wpAny_newFunctionEnv S.nocell (by intro y hy; simp at hy) (fun h₁ hns₁ hsb₁=>?_) S.kind)
 dsimp only at hns₁ hsb₁ ⊢
 have I0:Inv X pins σ (upd H s.heap.objs.size (.lst [])) { s with heap:=s.heap.push { cls:=.type "list",data:=.seq ([]:List aE).toArray },toks:=s.toks }:=I.lnew (ys:=[]) .nil (by simp)
 obtain⟨W,⟨m0,w0⟩,turn⟩:=q s.heap.objs.size I.fresh
 generalize hs0:({ s with heap:=s.heap.push { cls:=.type "list",data:=.seq ([]:List aE).toArray },toks:=s.toks }:aG)=s0 at I0
 have hh:s.heap.push { cls:=.type "list",dict:=none,data:=.seq ([]:List aE).toArray }=s0.heap:=by rw[← hs0]
 have ht0:s0.toks=s.toks:=by rw[← hs0]
 have hg0:s0.gens=s.gens/\s0.drawn=s.drawn/\s0.os=s.os:=by rw[← hs0]; exact⟨rfl,rfl,rfl⟩
 rw[hh] at hns₁ hsb₁ ⊢
 have old0 : ∀ b o,s.heap.get? b=some o->s0.heap.get? b=some o:=fun b o e=>by rw[← hh]; exact cP _ e
 have old1 : ∀ b o,s0.heap.get? b=some o->h₁.get? b=some o:=fun b o e=>hsb₁.extBut b o (cZ (cL e)) (cP _ e)
 have hl0 : ∀ b∈fp,b<s0.heap.objs.size:=fun b hb=>by
  obtain⟨o,e,_⟩:=T.obj 0 _ st b hb
  exact cL (old0 b o e)
 have hf0 : ∀ b∈fp,lM X pins (upd H s.heap.objs.size (.lst [])) b:=fun b hb=>by
  refine⟨?_,(hf b hb).2⟩
  rw[fG (cZ (hl b hb))]
  exact(hf b hb).1
 have I1:Inv (iO X N sc (fD X.env sc.names []) s0.heap.objs.size s0 (upd H s.heap.objs.size (.lst [])) fp) [] (uH cap σ) (upd H s.heap.objs.size (.lst [])) { s0 with heap:=h₁,toks:=s.toks+0 }:=
  Vt S I0 hf0 hl0 hns₁ old1
 obtain⟨pg,pf,pe⟩:=hb (fD X.env sc.names []) s0.heap.objs.size s0 (upd H s.heap.objs.size (.lst [])) fp
 have st1:tn 0 h₁:=T.keep _ _ _ st fun b hb o e=>old1 b o (old0 b o e)
 have stat : ∀ {H':Hp},(∀ b∈fp,H' b=none) -> ∀ b∈fp,lM (iO X N sc (fD X.env sc.names []) s0.heap.objs.size s0 (upd H s.heap.objs.size (.lst [])) fp) [] H' b:=fun hn b hb=>
  ⟨hn b hb,(I1.ok.exf b hb).1,I1.ok.exfs b hb,.inl hb,(I1.ok.exf b hb).2,fun p hp=>by simp[iO] at hp⟩
 have loop : ∀ s3:aG,s3 = { s0 with heap:=h₁,toks:=s.toks+0 } ->
   mD (aR X.prog X.w) X.A (.compLoop (.ListComp elt [⟨tg,iter,ifs,0⟩] sc pos) 0 (.ref it) (.ref s.heap.objs.size) (compEnvC sc (fD X.env sc.names []) s0.heap.objs.size X.env)) (RR (.ref s.heap.objs.size) s0.heap.objs.size) s3:=by
  rintro s3 rfl
  refine Qh (fun n s'=>∃ i ys σ' H',Inv (iO X N sc (fD X.env sc.names []) s0.heap.objs.size s0 (upd H s.heap.objs.size (.lst [])) fp) [] σ' H' s'/\tn i s'.heap/\(∀ b∈fp,H' b=none)/\W i n ys σ' H') ?_ m0
   ⟨0,[],uH cap σ,_,I1,st1,fun b hb=>(hf0 b hb).1,w0⟩
  rintro n s3 ⟨i,ys,σ3,H3,I3,st3,fr3,w3⟩
  obtain⟨hD,h3⟩:=turn i n ys σ3 H3 w3
  rcases h3 with⟨stop,qn⟩ | ⟨go,hlen,M,hM,step⟩
  ·refine thn (T.done (iO X N sc (fD X.env sc.names []) s0.heap.objs.size s0 (upd H s.heap.objs.size (.lst [])) fp) rfl rfl rfl hc i [] s3 σ3 H3 (fun _ _=>False) I3 (stat fr3) st3 stop) fun r s4 gh=>?_
   obtain⟨hr,I4⟩:=gh
   subst hr
   exact hRR _ s0 _ σ3 H3 s4 I0 hf0 I4 qn
  ·refine thn (T.item (iO X N sc (fD X.env sc.names []) s0.heap.objs.size s0 (upd H s.heap.objs.size (.lst [])) fp) rfl rfl rfl hc i [] s3 σ3 H3 (fun _ _=>False) I3 (stat fr3) st3 go) fun r s4 gh=>?_
   obtain⟨u,hr,h4⟩:=gh
   subst hr
   refine thn h4 fun _ s5 gh=>?_
   obtain⟨x,H5,I5,r5,y5,st5,fr5⟩:=gh
   have I5':=I5.pinned (stat fr5) (T.obj _ _ st5)
   refine thn (pg _ s5 σ3 H5 x u _ I5' r5 (step x H5 y5)) fun _ s6 gh=>?_
   obtain⟨σ6,H6,I6,q6⟩:=gh
   refine thn (pf _ s6 σ6 H6 _ I6 q6) fun b s7 gh=>?_
   obtain⟨H7,I7,q7⟩:=gh
   have again : ∀ {s8:aG} {H8:Hp} {zs:List V},Inv (iO X N sc (fD X.env sc.names []) s0.heap.objs.size s0 (upd H s.heap.objs.size (.lst [])) fp) ([]++yC fp s5.heap) σ6 H8 s8->M zs σ6 H8 ->
     ∃ m,m<n /\ ∃ i ys σ' H',Inv (iO X N sc (fD X.env sc.names []) s0.heap.objs.size s0 (upd H s.heap.objs.size (.lst [])) fp) [] σ' H' s8/\tn i s8.heap/\(∀ b∈fp,H' b=none)/\W i m ys σ' H':=fun {s8 H8 zs} I8 w8=>by
    obtain⟨m',hm,w8⟩:=hM _ _ _ w8
    refine⟨m',hm,i+1,zs,σ6,H8,I8.unpinned,T.keep _ _ _ st5 fun b hb o e=>(I8.pin (b,o) (nQ _ (nQ _ (DV hb e)))).1,fun b hb=>?_,w8⟩
    obtain⟨o,e,d⟩:=T.obj _ _ st5 b hb
    exact(I8.pin (b,o) (nQ _ (nQ _ (DV hb e)))).2.1
   cases b with
   | false=>
    rw[if_neg qA] at q7 ⊢
    exact again I7 q7
   | true=>
    rw[if_pos rfl] at q7 ⊢
    refine thn (pe _ s7 σ6 H7 _ I7 q7) fun v s8 gh=>?_
    obtain⟨y,H8,I8,r8,hD8,w8⟩:=gh
    refine thn (UM _ s8 σ6 H8 (.ref s.heap.objs.size) [y] (.ref s.heap.objs.size) [v] (fun _ H9=>H9=upd H8 s.heap.objs.size (.lst (ys++[y]))) I8 rfl (.cons r8 .nil) ⟨_,ys,y,rfl,rfl,hD8,hlen,rfl⟩) fun _ s9 gh=>?_
    obtain⟨_,H9,I9,_,e9⟩:=gh
    subst e9
    exact again I9 w8
 have e3:({ s with heap:=h₁,toks:=s.toks+([]:List (aB×aE)).length }:aG) = { s0 with heap:=h₁,toks:=s.toks+0 }:=by
  rw[← hs0]; rfl
 have fin:=codeAny_compStart_list (loop _ rfl) (T.self X.A 0 _ _ _ st1 (loop _ rfl))
 rw[← e3] at fin
 exact fin
theorem Er (hc:X.calm=true)(S:CompScope X N cap sc)(hi:PI X tg iter wi)(hb:Block X N sc tg elt ifs g tc te)(hs : ∀ x,tQ iter X.env x=pure x:=by intro _; rfl) :
  PE X (.ListComp elt [⟨tg,iter,ifs,0⟩] sc pos) (tLC cap wi g tc te):=by
 intro pins s σ H Q I h
 rw[eval_ListComp]
 refine wpAny_comprehension_free rfl hs (XH (S.cells I.ok)) S.kind S.nm (thn (hi pins s σ H _ I h) fun v s1 h1=>thn h1 fun itv s2 h2=>?_)
 obtain⟨it,fp,tn,J,H2,e,I2,T,st2,f2,q2⟩:=h2
 subst e
 refine PV hc S hb I2 T st2 f2 q2 ?_
 intro D s₀ H₀ σ' H' s' I0 f0 I' qD
 obtain⟨m,hn,_⟩:=id I'.loc
 have IX:=comp_back I0 f0 I'
 refine⟨m,hn,fun h' hs'=>⟨.ref D,H',?_,rfl,qD⟩⟩
 exact IX.turned (fun b o hb e=>(hs'.2 b hb).trans e) I'.free (mQ I0.lt) (.inr I0.sz) (fun x c e z=>by
  obtain⟨v,oc,h1,_⟩:=I0.cell x c e
  exact absurd (cL h1) (by rw[z]; exact mS _)) fun p hp z=>by
   have h1:=(I0.pin p hp).1
   exact absurd (cL h1) (by rw[z]; exact mS _)
theorem Vi {i:Nat}{x:aB}{px spos:cC}(hc:X.calm=true)(hN:X.N.Nodup)(hi':X.N[i]?=some x)(hx:nV X.env.scope x)(S:CompScope X N cap sc)(hi:PI X tg iter wi)(hb:Block X N sc tg elt ifs g tc te)
  (hsw:pT (.ListComp elt [⟨tg,iter,ifs,0⟩] sc pos) (some (.Name x px)) spos.line X.env=pure true:=by rfl)
  (hs : ∀ x,tQ iter X.env x=pure x:=by intro _; rfl) (hf:X.fn x=true \/ X.env.scope.names.lookup x=some .local:=by first | exact .inl rfl | exact .inr rfl | assumption) :
  PS X (.Assign [.Name x px] (.ListComp elt [⟨tg,iter,ifs,0⟩] sc pos) spos) (BS (tLC cap wi g tc te) (EX i)):=by
 intro pins s σ H D I h
 rw[exec_Assign_Name_used _ _ _ _ hsw]
 refine aI (wpAny_standAt (aI ?_))
 refine aI (kW (wpAny_comprehension_free rfl hs (XH (S.cells I.ok)) S.kind S.nm
  (thn (hi pins s σ H _ I h) fun v s1 h1=>thn h1 fun itv s2 h2=>?_)) (fun _ s' hq=>aT (aT hq)) fun _ _ e=>e)
 obtain⟨it,fp,tn,J,H2,e,I2,T,st2,f2,q2⟩:=h2
 subst e
 refine PV hc S hb I2 T st2 f2 q2 ?_
 intro D' s₀ H₀ σ' H' s' I0 f0 I' qD
 obtain⟨m,hn,_⟩:=id I'.loc
 have IX:=comp_back I0 f0 I'
 have cellNe : ∀ x c,X.env.cells.lookup x=some c->c≠s₀.heap.objs.size:=fun x c e z=>by
  obtain⟨v,oc,h1,_⟩:=I0.cell x c e
  exact absurd (cL h1) (by rw[z]; exact mS _)
 refine wpAny_assign_Name (TU IX hN hi' hx (show RelV (.ref D') (.ref D') from rfl) (fun s3 I3 ch=>?_) hf)
 obtain⟨a,sb,ha⟩:=ch
 have hne:s₀.heap.objs.size≠a:=by
  rcases ha with z | z
  ·rw[z]; exact mQ I0.lt
  ·exact fun q=>cellNe x a z q.symm
 refine⟨m,Heap.Ns.sameBut hn sb hne,fun h' hs'=>⟨_,H',?_,qD⟩⟩
 exact I3.turned (fun b o hb e=>(hs'.2 b hb).trans e) I'.free (mQ I0.lt) (.inr I0.sz) cellNe fun p hp z=>by
  have h1:=(I0.pin p hp).1
  exact absurd (cL h1) (by rw[z]; exact mS _)
end
noncomputable def ZT (out:List (aB×mT))(XN N:List aB)(cap:List (Option Nat))(ns:List (aB×mT)):Bool:=
 ns.all (fun y=>y.2 != .cell)&&ns.all (fun y=>y.2 != .local||ns.lookup y.1 == some .local)&&ns.all (fun y=>y.2 != .free||out.lookup y.1 == some .cell||out.lookup y.1 == some .free) &&
 cap.length == N.length&&(cap.zip N).all (fun p=>match p.1 with | none=>true | some j=>XN[j]? == some p.2&&ns.lookup p.2 == some .free)
theorem fY {X:Cx}{N:List aB}{cap:List (Option Nat)}{sc:iP}{out:List (aB×mT)}{XN:List aB}(h1:X.env.scope.names=out)(h2:X.N=XN)(chk:ZT out XN N cap sc.names=true)(hk:sc.kind = .function):CompScope X N cap sc:=by
 unfold ZT at chk
 simp only[jI,dZ,bne_iff_ne,ne_eq,Bool.or_eq_true,beq_iff_eq] at chk
 obtain⟨⟨⟨⟨c1,c2⟩,c3⟩,c4⟩,c5⟩:=chk
 refine⟨hk,c1,fun y hy e=>?_,fun y hy e=>?_,c4,fun i j e=>?_⟩
 ·rcases c2 y hy with q | q
  ·exact absurd e q
  ·exact q
 ·rw[h1]
  rcases c3 y hy with(q | q) | q
  ·exact absurd e q
  ·exact .inl q
  ·exact .inr q
 ·have hi:=(fN.mp e).1
  have hi':i<N.length:=by omega
  have hm:(cap[i],N[i])∈cap.zip N:=by
   have:(cap.zip N)[i]?=some (cap[i],N[i]):=by
    rw[List.getElem?_zip_eq_some]
    exact⟨gV hi,gV hi'⟩
   exact iH this
  have q:=c5 _ hm
  have ec:cap[i]=some j:=by
   rw[gV hi] at e
   exact gU e
  rw[ec] at q
  simp only[jI,beq_iff_eq] at q
  exact⟨N[i],gV hi',by rw[h2]; exact q.1,q.2⟩
abbrev Ext (H H':Hp):Prop:=∀ b o,H b=some o->H' b=some o
theorem Ext.refl {H:Hp}:Ext H H:=fun _ _ e=>e
theorem Ext.trans {H H1 H2:Hp}(a:Ext H H1)(b:Ext H1 H2):Ext H H2:=fun x o e=>b x o (a x o e)
theorem Ext.new {H:Hp}{p:aD}{o:HO}(n:H p=none):Ext H (upd H p o):=fun b u e=>by
 rw[fG (nK e n)]; exact e
theorem Ext.rd {H H':Hp}(x:Ext H H'){a:aD}{u:HO}(r:Rd H a u):Rd H' a u:=by
 rcases r with r | ⟨o,r⟩
 ·exact .inl (x _ _ r)
 ·exact .inr ⟨o,x _ _ r⟩
theorem Ext.sqL {K:aK}{H H':Hp}(x:Ext H H'){a:aD}{xs:List V}(h:SqL K H a xs):SqL K H' a xs:=h.imp x.rd id
theorem Ext.none {H H':Hp}(x:Ext H H'){a:aD}(h:H' a=Option.none):H a=Option.none:=by
 cases e:H a with
 | none=>rfl
 | some o=>rw[x a o e] at h; cases h
open Classical in
noncomputable def hid (H:Hp)(P:aD->Prop):Hp:=fun a=>if P a then none else H a
theorem Afm {H:Hp}{P:aD->Prop}{a:aD}{o:HO}:hid H P a=some o ↔ ¬ P a/\H a=some o:=by
 unfold hid
 by_cases h:P a <;> simp[h]
theorem kP {H:Hp}{P:aD->Prop}{a:aD}{o:HO}(n : ¬ P a)(e:H a=some o):hid H P a=some o:=Afm.mpr ⟨n,e⟩
theorem Abd {H:Hp}{P:aD->Prop}:Ext (hid H P) H:=fun _ _ e=>(Afm.mp e).2
theorem cW {H H':Hp}{P:aD->Prop}(x:Ext H H'):Ext (hid H P) (hid H' P):=fun b o e=>by
 obtain⟨n,e⟩:=Afm.mp e
 exact kP n (x b o e)
theorem jZ {H:Hp}{P P':aD->Prop}(s : ∀ a,P' a->P a):Ext (hid H P) (hid H P'):=fun b o e=>by
 obtain⟨n,e⟩:=Afm.mp e
 exact kP (fun q=>n (s b q)) e
abbrev DQ:=(Nat×List (aO×V)) ⊕ (Nat×List (List aA×V))
noncomputable def dO:DQ->HO
 | .inl kvs=>.dK kvs.1 kvs.2
 | .inr ts=>.dT ts.1 ts.2
def Hid (P:aD->Prop)(H:Hp):Prop:=∀ a,P a->(∃ xs,H a=some (.lst xs)) \/ ∃ q:DQ,H a=some (dO q)
theorem Hid.ext {P:aD->Prop}{H H':Hp}(h:Hid P H)(x:Ext H H'):Hid P H':=fun a p=>(h a p).imp (fun⟨xs,e⟩=>⟨xs,x _ _ e⟩) fun⟨xs,e⟩=>⟨xs,x _ _ e⟩
theorem Hid.new {P:aD->Prop}{H:Hp}(h:Hid P H){a:aD}(n:H a=none) : ¬ P a:=fun p=>by
 rcases h a p with⟨xs,e⟩ | ⟨xs,e⟩ <;> rw[n] at e <;> cases e
abbrev orL (P:aD->Prop)(F:List aD):aD->Prop:=fun a=>P a \/ a∈F
theorem Ak {P:aD->Prop}:orL P []=P:=by
 funext a
 simp[orL]
noncomputable def kD:aO->aA
 | .inl i=>.int i
 | .inr x=>.str x
noncomputable def NT (a:aD)(kvs:Nat×List (V×V)):HO:=.ext fun h=>kvs.2.length≤sizeLine/\(a == kE)=false /\ ∃ o es,h.get? a=some o/\o.ExactDict/\o.data = .dict es kvs.1/\eR (fun(p:V×V) (e:pZ)=>RelV p.1 e.key/\RelV p.2 e.val) kvs.2 es.toList
noncomputable def iJ (K:aK)(c:aB):Option aE:=(dE K cK c).join
def BP (x:aD)(cls:aE)(h:aU):Prop:=∃ o,h.get? x=some o/\o.cls=cls /\ ∃ vs,o.data = .fields vs
noncomputable def exO (cls:aE)(a:aD):HO:=.ext (BP a cls)
def Bbq (K:aK)(H:Hp)(kds:List (aA×aA))(a:aD):Prop:=(∃ c cls,kds=[(.none,.str c),(.none,.none)]/\iJ K c=some cls/\H a=some (exO cls a)) \/ ∃ c,kds=[(.none,.str c),(.none,.bool false)]/\iJ K c=some (.ref a)
theorem Bbq.mark {K:aK}{H:Hp}{kds:List (aA×aA)}{a:aD}(h:Bbq K H kds a) : ∃ c m,kds=[(.none,.str c),(.none,m)]:=by
 rcases h with⟨c,_,e,_⟩ | ⟨c,e,_⟩
 ·exact⟨c,_,e⟩
 ·exact⟨c,_,e⟩
theorem Bbq.ext {K:aK}{H H':Hp}(x:Ext H H'){kds:List (aA×aA)}{a:aD}(h:Bbq K H kds a):Bbq K H' kds a:=h.imp (fun⟨c,cls,e,h1,h2⟩=>⟨c,cls,e,h1,x _ _ h2⟩) id
mutual
def Ab4 (K:aK)(H:Hp):aA->V->Prop
 | .none,v=>v = .non
 | .bool b,v=>v = .bl b
 | .int i,v=>v = .int i
 | .str x,v=>v = .str x/\cD (.str x)=true
 | .list ds,v=>∃ a xs,v = .ref a/\SqL K H a xs/\Aaw K H ds xs
 | .tuple ds,v=>∃ a xs,v = .ref a/\H a=some (.tup xs)/\Aaw K H ds xs
 | .dict kds,v=>∃ a,v = .ref a/\((∃ kvs:Nat×List (aO×V),H a=some (.dK kvs.1 kvs.2)/\Acv K H kds kvs.2) \/ (∃ ts:Nat×List (List aA×V),H a=some (.dT ts.1 ts.2)/\Aze K H kds ts.2) \/ (∃ xs,H a=some (NT a xs)/\A1f K H kds xs.2) \/ Bbq K H kds a)
def Aaw (K:aK)(H:Hp):List aA->List V->Prop
 | [],xs=>xs=[]
 | d::ds,xs=>∃ x r,xs=x::r/\Ab4 K H d x/\Aaw K H ds r
def Acv (K:aK)(H:Hp):List (aA×aA)->List (aO×V)->Prop
 | [],xs=>xs=[]
 | (k,d)::ds,xs=>∃ k' x r,xs=(k',x)::r/\k=kD k'/\Ab4 K H d x/\Acv K H ds r
def Aeb (K:aK)(H:Hp):List (aA×aA)->List (List aA×V)->Prop
 | [],xs=>xs=[]
 | (k,d)::ds,xs=>∃ k' x r,xs=(k',x)::r/\(k = .tuple k'/\cG k'=true)/\Ab4 K H d x/\Aeb K H ds r
def Aze (K:aK)(H:Hp):List (aA×aA)->List (List aA×V)->Prop
 | [],_=>False
 | (k,_)::ds,xs=>k = .none/\Aeb K H ds xs
def A1f (K:aK)(H:Hp):List (aA×aA)->List (V×V)->Prop
 | [],_=>False
 | (k,m)::ds,xs=>k = .none/\ds=[(.none,.none)]/\Ati K H m xs
def Ati (K:aK)(H:Hp):aA->List (V×V)->Prop
 | .list es,xs=>Ajp K H es xs
 | _,_=>False
def Ajp (K:aK)(H:Hp):List aA->List (V×V)->Prop
 | [],xs=>xs=[]
 | d::ds,xs=>∃ x r,xs=x::r/\Ay5 K H d x/\Ajp K H ds r
def Ay5 (K:aK)(H:Hp):aA->V×V->Prop
 | .tuple ds,x=>Aaw K H ds [x.1,x.2]
 | _,_=>False
end
noncomputable def plK:List (aA×aA)->Bool
 | (.none,_)::_=>false
 | _=>true
section
variable {K:aK}{H H':Hp}
theorem Abw {v:V}:Ab4 K H .none v↔v = .non:=by simp[Ab4]
theorem Aas {b:Bool}{v:V}:Ab4 K H (.bool b) v↔v = .bl b:=by simp[Ab4]
theorem Aau {b:Int}{v:V}:Ab4 K H (.int b) v↔v = .int b:=by simp[Ab4]
theorem Aap {b:aB}{v:V}:Ab4 K H (.str b) v↔v = .str b/\cD (.str b)=true:=by simp only[Ab4]
theorem Abp {ds:List aA}{v:V}:Ab4 K H (.list ds) v ↔ ∃ a xs,v = .ref a/\SqL K H a xs/\Aaw K H ds xs:=by simp only[Ab4]
theorem Aa4 {ds:List aA}{v:V}:Ab4 K H (.tuple ds) v ↔ ∃ a xs,v = .ref a/\H a=some (.tup xs)/\Aaw K H ds xs:=by simp only[Ab4]
theorem Acd {ds:List (aA×aA)}{v:V}:Ab4 K H (.dict ds) v ↔ ∃ a,v = .ref a/\((∃ kvs:Nat×List (aO×V),H a=some (.dK kvs.1 kvs.2)/\Acv K H ds kvs.2) \/ (∃ ts:Nat×List (List aA×V),H a=some (.dT ts.1 ts.2)/\Aze K H ds ts.2) \/ (∃ xs,H a=some (NT a xs)/\A1f K H ds xs.2) \/ Bbq K H ds a):=by simp only[Ab4]
theorem Ah7 {k m:aA}{ds:List (aA×aA)}{xs:List (V×V)}:A1f K H ((k,m)::ds) xs↔k = .none/\ds=[(.none,.none)]/\Ati K H m xs:=by simp only[A1f]
theorem Xl {m:aA}{xs:List (V×V)}(h:Ati K H m xs) : ∃ es,m = .list es/\Ajp K H es xs:=by
 cases m with
 | list es=>exact⟨es,rfl,by simpa only[Ati] using h⟩
 | _=>simp[Ati] at h
theorem Awi {xs:List (V×V)}:Ajp K H [] xs↔xs=[]:=by simp[Ajp]
theorem Arp {d:aA}{ds:List aA}{xs:List (V×V)}:Ajp K H (d::ds) xs ↔ ∃ x r,xs=x::r/\Ay5 K H d x/\Ajp K H ds r:=by simp only[Ajp]
theorem yU {ds:List (aA×aA)}{xs:List (V×V)}(h:A1f K H ds xs) : ∃ es,ds=[(.none,.list es),(.none,.none)]/\Ajp K H es xs:=by
 cases ds with
 | nil=>simp[A1f] at h
 | cons p r=>
  obtain⟨k,m⟩:=p
  obtain⟨rfl,rfl,h1⟩:=Ah7.mp h
  obtain⟨es,rfl,h2⟩:=Xl h1
  exact⟨es,rfl,h2⟩
theorem Afu {xs:List (List aA×V)}:Aeb K H [] xs↔xs=[]:=by simp[Aeb]
theorem Ac0 {k d:aA}{ds:List (aA×aA)}{xs:List (List aA×V)}:Aeb K H ((k,d)::ds) xs ↔ ∃ k' x r,xs=(k',x)::r/\(k = .tuple k'/\cG k'=true)/\Ab4 K H d x/\Aeb K H ds r:=by simp only[Aeb]
theorem Ael {k m:aA}{ds:List (aA×aA)}{xs:List (List aA×V)}:Aze K H ((k,m)::ds) xs↔k = .none/\Aeb K H ds xs:=by simp only[Aze]
theorem Wh {ds:List (aA×aA)}{xs:List (List aA×V)}(hk:plK ds=true) : ¬ Aze K H ds xs:=by
 cases ds with
 | nil=>simp[Aze]
 | cons p r=>
  obtain⟨k,d⟩:=p
  intro h
  rw[(Ael.mp h).1] at hk
  simp[plK] at hk
theorem IW {ds:List (aA×aA)}{v:V}(hk:plK ds=true):Ab4 K H (.dict ds) v ↔ ∃ a,∃ kvs:Nat×List (aO×V),v = .ref a/\H a=some (.dK kvs.1 kvs.2)/\Acv K H ds kvs.2:=by
 rw[Acd]
 constructor
 ·rintro⟨a,e,⟨kvs,h,r⟩ | ⟨ts,h,r⟩ | ⟨xs,h,r⟩ | r⟩
  case inr.inr.inr=>
   obtain⟨_,_,rfl⟩:=r.mark
   simp[plK] at hk
  ·exact⟨a,kvs,e,h,r⟩
  ·exact absurd r (Wh hk)
  ·obtain⟨es,rfl,_⟩:=yU r
   simp[plK] at hk
 ·rintro⟨a,kvs,e,h,r⟩
  exact⟨a,e,.inl ⟨kvs,h,r⟩⟩
theorem Nj {ds:List (aA×aA)}{v:V}{a:aD}{kvs:Nat×List (aO×V)}(e:v = .ref a)(h:H a=some (.dK kvs.1 kvs.2))(r:Acv K H ds kvs.2):Ab4 K H (.dict ds) v:=Acd.mpr ⟨a,e,.inl ⟨kvs,h,r⟩⟩
theorem Aax {xs:List V}:Aaw K H [] xs↔xs=[]:=by simp[Aaw]
theorem Aao {d:aA}{ds:List aA}{xs:List V}:Aaw K H (d::ds) xs ↔ ∃ x r,xs=x::r/\Ab4 K H d x/\Aaw K H ds r:=by simp only[Aaw]
theorem Acu {xs:List (aO×V)}:Acv K H [] xs↔xs=[]:=by simp[Acv]
theorem Abn {k d:aA}{ds:List (aA×aA)}{xs:List (aO×V)}:Acv K H ((k,d)::ds) xs ↔ ∃ k' x r,xs=(k',x)::r/\k=kD k'/\Ab4 K H d x/\Acv K H ds r:=by simp only[Acv]
theorem vQ {m:aA}{ds:List (aA×aA)}{v:V}(hm : ∀ es,m ≠ .list es:=by intro _ z; cases z)(hm2 : ∀ c,m ≠ .str c:=by intro _ z; cases z):Ab4 K H (.dict ((.none,m)::ds)) v ↔ ∃ a,∃ ts:Nat×List (List aA×V),v = .ref a/\H a=some (.dT ts.1 ts.2)/\Aeb K H ds ts.2:=by
 rw[Acd]
 constructor
 ·rintro⟨a,e,⟨kvs,h,r⟩ | ⟨ts,h,r⟩ | ⟨xs,h,r⟩ | r⟩
  case inr.inr.inr=>
   obtain⟨_,_,z⟩:=r.mark
   cases z
   exact absurd rfl (hm2 _)
  ·obtain⟨k',_,_,_,ek,_⟩:=Abn.mp r
   cases k' <;> simp[kD] at ek
  ·exact⟨a,ts,e,h,(Ael.mp r).2⟩
  ·obtain⟨es,z,_⟩:=yU r
   cases z
   exact absurd rfl (hm es)
 ·rintro⟨a,ts,e,h,r⟩
  exact⟨a,e,.inr (.inl ⟨ts,h,Ael.mpr ⟨rfl,r⟩⟩)⟩
end
mutual
theorem Ab4.ext {K:aK}{H H':Hp}(x:Ext H H') : ∀ {d:aA} {v:V},Ab4 K H d v->Ab4 K H' d v
 | .none,_,h=>Abw.mpr (Abw.mp h)
 | .bool _,_,h=>Aas.mpr (Aas.mp h)
 | .int _,_,h=>Aau.mpr (Aau.mp h)
 | .str _,_,h=>Aap.mpr (Aap.mp h)
 | .list ds,_,h=>by
  obtain⟨a,xs,e,s,r⟩:=Abp.mp h
  exact Abp.mpr ⟨a,xs,e,x.sqL s,Aaw.ext x r⟩
 | .tuple ds,_,h=>by
  obtain⟨a,xs,e,s,r⟩:=Aa4.mp h
  exact Aa4.mpr ⟨a,xs,e,x _ _ s,Aaw.ext x r⟩
 | .dict ds,_,h=>by
  obtain⟨a,e,⟨kvs,r,q⟩ | ⟨ts,r,q⟩ | ⟨xs,r,q⟩ | r⟩:=Acd.mp h
  ·exact Acd.mpr ⟨a,e,.inl ⟨kvs,x _ _ r,Acv.ext x q⟩⟩
  ·exact Acd.mpr ⟨a,e,.inr (.inl ⟨ts,x _ _ r,Aze.ext x q⟩)⟩
  ·exact Acd.mpr ⟨a,e,.inr (.inr (.inl ⟨xs,x _ _ r,A1f.ext x q⟩))⟩
  ·exact Acd.mpr ⟨a,e,.inr (.inr (.inr (r.ext x)))⟩
theorem Aaw.ext {K:aK}{H H':Hp}(x:Ext H H') : ∀ {ds:List aA} {vs:List V},Aaw K H ds vs->Aaw K H' ds vs
 | [],_,h=>Aax.mpr (Aax.mp h)
 | d::ds,_,h=>by
  obtain⟨y,r,e,h1,h2⟩:=Aao.mp h
  exact Aao.mpr ⟨y,r,e,Ab4.ext x h1,Aaw.ext x h2⟩
theorem Acv.ext {K:aK}{H H':Hp}(x:Ext H H') : ∀ {ds:List (aA×aA)} {vs:List (aO×V)},Acv K H ds vs->Acv K H' ds vs
 | [],_,h=>Acu.mpr (Acu.mp h)
 | (k,d)::ds,_,h=>by
  obtain⟨k',y,r,e,ek,h1,h2⟩:=Abn.mp h
  exact Abn.mpr ⟨k',y,r,e,ek,Ab4.ext x h1,Acv.ext x h2⟩
theorem Aeb.ext {K:aK}{H H':Hp}(x:Ext H H') : ∀ {ds:List (aA×aA)} {vs:List (List aA×V)},Aeb K H ds vs->Aeb K H' ds vs
 | [],_,h=>Afu.mpr (Afu.mp h)
 | (k,d)::ds,_,h=>by
  obtain⟨k',y,r,e,ek,h1,h2⟩:=Ac0.mp h
  exact Ac0.mpr ⟨k',y,r,e,ek,Ab4.ext x h1,Aeb.ext x h2⟩
theorem Aze.ext {K:aK}{H H':Hp}(x:Ext H H') : ∀ {ds:List (aA×aA)} {vs:List (List aA×V)},Aze K H ds vs->Aze K H' ds vs
 | [],_,h=>absurd h (by simp[Aze])
 | (k,d)::ds,_,h=>Ael.mpr ⟨(Ael.mp h).1,Aeb.ext x (Ael.mp h).2⟩
theorem A1f.ext {K:aK}{H H':Hp}(x:Ext H H') : ∀ {ds:List (aA×aA)} {vs:List (V×V)},A1f K H ds vs->A1f K H' ds vs
 | [],_,h=>absurd h (by simp[A1f])
 | (k,d)::ds,_,h=>Ah7.mpr ⟨(Ah7.mp h).1,(Ah7.mp h).2.1,Ati.ext x (Ah7.mp h).2.2⟩
theorem Ati.ext {K:aK}{H H':Hp}(x:Ext H H') : ∀ {d:aA} {vs:List (V×V)},Ati K H d vs->Ati K H' d vs
 | .list es,_,h=>by
  rw[Ati] at h ⊢
  exact Ajp.ext x h
 | .none,_,h=>absurd h (by simp[Ati])
 | .bool _,_,h=>absurd h (by simp[Ati])
 | .int _,_,h=>absurd h (by simp[Ati])
 | .str _,_,h=>absurd h (by simp[Ati])
 | .tuple _,_,h=>absurd h (by simp[Ati])
 | .dict _,_,h=>absurd h (by simp[Ati])
theorem Ajp.ext {K:aK}{H H':Hp}(x:Ext H H') : ∀ {ds:List aA} {vs:List (V×V)},Ajp K H ds vs->Ajp K H' ds vs
 | [],_,h=>Awi.mpr (Awi.mp h)
 | d::ds,_,h=>by
  obtain⟨y,r,e,h1,h2⟩:=Arp.mp h
  exact Arp.mpr ⟨y,r,e,Ay5.ext x h1,Ajp.ext x h2⟩
theorem Ay5.ext {K:aK}{H H':Hp}(x:Ext H H') : ∀ {d:aA} {y:V×V},Ay5 K H d y->Ay5 K H' d y
 | .tuple ds,_,h=>by
  rw[Ay5] at h ⊢
  exact Aaw.ext x h
 | .none,_,h=>absurd h (by simp[Ay5])
 | .bool _,_,h=>absurd h (by simp[Ay5])
 | .int _,_,h=>absurd h (by simp[Ay5])
 | .str _,_,h=>absurd h (by simp[Ay5])
 | .list _,_,h=>absurd h (by simp[Ay5])
 | .dict _,_,h=>absurd h (by simp[Ay5])
end
section
variable {K:aK}{H H':Hp}
theorem Aaw.length : ∀ {ds:List aA} {vs:List V},Aaw K H ds vs->vs.length=ds.length
 | [],_,h=>by rw[Aax.mp h]; rfl
 | d::ds,_,h=>by
  obtain⟨y,r,e,h1,h2⟩:=Aao.mp h
  rw[e,fI,fI,Aaw.length h2]
theorem Aaw.get : ∀ {ds:List aA} {vs:List V} {i:Nat} {d:aA},Aaw K H ds vs->ds[i]?=some d -> ∃ v,vs[i]?=some v/\Ab4 K H d v
 | [],_,_,_,h,e=>by simp at e
 | d::ds,_,0,d',h,e=>by
  obtain⟨y,r,rfl,h1,h2⟩:=Aao.mp h
  have:d=d':=by simpa using e
  subst this
  exact⟨y,rfl,h1⟩
 | d::ds,_,i+1,d',h,e=>by
  obtain⟨y,r,rfl,h1,h2⟩:=Aao.mp h
  obtain⟨v,h3,h4⟩:=Aaw.get h2 (by simpa using e)
  exact⟨v,by simpa using h3,h4⟩
theorem Aaw.append : ∀ {ds es:List aA} {vs ws:List V},Aaw K H ds vs->Aaw K H es ws->Aaw K H (ds++es) (vs++ws)
 | [],es,_,_,h,g=>by rw[Aax.mp h]; exact g
 | d::ds,es,_,_,h,g=>by
  obtain⟨y,r,rfl,h1,h2⟩:=Aao.mp h
  exact Aao.mpr ⟨y,_,rfl,h1,Aaw.append h2 g⟩
theorem Aaw.snoc {ds:List aA}{vs:List V}{d:aA}{v:V}(h:Aaw K H ds vs)(g:Ab4 K H d v):Aaw K H (ds++[d]) (vs++[v]):=
 h.append (Aao.mpr ⟨v,[],rfl,g,Aax.mpr rfl⟩)
theorem Aaw.drop : ∀ {ds:List aA} {vs:List V} (n:Nat),Aaw K H ds vs->Aaw K H (ds.drop n) (vs.drop n)
 | _,_,0,h=>h
 | [],_,n+1,h=>by rw[Aax.mp h]; exact Aax.mpr rfl
 | d::ds,_,n+1,h=>by
  obtain⟨y,r,rfl,h1,h2⟩:=Aao.mp h
  exact Aaw.drop n h2
theorem Aaw.take : ∀ {ds:List aA} {vs:List V} (n:Nat),Aaw K H ds vs->Aaw K H (ds.take n) (vs.take n)
 | _,_,0,h=>Aax.mpr rfl
 | [],_,n+1,h=>by rw[Aax.mp h]; exact Aax.mpr rfl
 | d::ds,_,n+1,h=>by
  obtain⟨y,r,rfl,h1,h2⟩:=Aao.mp h
  exact Aao.mpr ⟨y,_,rfl,h1,Aaw.take n h2⟩
theorem Aaw.set {d:aA}{v:V}(g:Ab4 K H d v) : ∀ {ds:List aA} {vs:List V} (n:Nat),Aaw K H ds vs->Aaw K H (ds.set n d) (vs.set n v)
 | [],_,n,h=>by rw[Aax.mp h]; exact Aax.mpr rfl
 | e::ds,_,0,h=>by
  obtain⟨y,r,rfl,h1,h2⟩:=Aao.mp h
  exact Aao.mpr ⟨v,r,rfl,g,h2⟩
 | e::ds,_,n+1,h=>by
  obtain⟨y,r,rfl,h1,h2⟩:=Aao.mp h
  exact Aao.mpr ⟨y,_,rfl,h1,Aaw.set g n h2⟩
theorem UL : ∀ ns:List Int,Aaw K H (ns.map cO) (ns.map V.int)
 | []=>Aax.mpr rfl
 | n::r=>Aao.mpr ⟨_,_,rfl,Aau.mpr rfl,UL r⟩
theorem Ri {k:aO}{v:V}(h:Ab4 K H (kD k) v):v=kV k:=by
 cases k with
 | inl i=>exact Aau.mp h
 | inr x=>exact(Aap.mp h).1
mutual
theorem Ab4.key {K:aK}{H:Hp} : ∀ (d:aA) {v:V},bF d=true->Ab4 K H d v->Ale H d v
 | .int i,v,_,h=>by simpa [Ale] using Aau.mp h
 | .str i,v,_,h=>by simpa [Ale] using(Aap.mp h).1
 | .tuple ds,v,k,h=>by
  obtain⟨a,xs,e,s,r⟩:=Aa4.mp h
  simp only[Ale]
  exact⟨a,xs,e,s,Aaw.keys ds (by simpa [bF] using k) r⟩
 | .none,v,k,_=>by simp[bF] at k
 | .bool _,v,k,_=>by simp[bF] at k
 | .list _,v,k,_=>by simp[bF] at k
 | .dict _,v,k,_=>by simp[bF] at k
theorem Aaw.keys {K:aK}{H:Hp} : ∀ (ds:List aA) {vs:List V},cG ds=true->Aaw K H ds vs->Ail H ds vs
 | [],vs,_,h=>by simpa [Ail] using Aax.mp h
 | d::ds,vs,k,h=>by
  have k':bF d=true/\cG ds=true:=by simpa [cG] using k
  obtain⟨y,r,e,h1,h2⟩:=Aao.mp h
  simp only[Ail]
  exact⟨y,r,e,Ab4.key d k'.1 h1,Aaw.keys ds k'.2 h2⟩
end
end
mutual
noncomputable def gG:aA->Bool
 | .list _=>false
 | .dict _=>false
 | .tuple ds=>nY ds
 | _=>true
noncomputable def nY:List aA->Bool
 | []=>true
 | d::r=>gG d&&nY r
end
mutual
theorem Ab4.flat {K:aK}{H H':Hp}(x : ∀ a xs,H a=some (.tup xs)->H' a=some (.tup xs)) : ∀ (d:aA) {v:V},gG d=true->Ab4 K H d v->Ab4 K H' d v
 | .none,_,_,h=>Abw.mpr (Abw.mp h)
 | .bool _,_,_,h=>Aas.mpr (Aas.mp h)
 | .int _,_,_,h=>Aau.mpr (Aau.mp h)
 | .str _,_,_,h=>Aap.mpr (Aap.mp h)
 | .tuple ds,_,f,h=>by
  obtain⟨a,xs,e,s,r⟩:=Aa4.mp h
  exact Aa4.mpr ⟨a,xs,e,x _ _ s,Aaw.flat x ds (by simpa [gG] using f) r⟩
 | .list _,_,f,_=>by simp[gG] at f
 | .dict _,_,f,_=>by simp[gG] at f
theorem Aaw.flat {K:aK}{H H':Hp}(x : ∀ a xs,H a=some (.tup xs)->H' a=some (.tup xs)) : ∀ (ds:List aA) {vs:List V},nY ds=true->Aaw K H ds vs->Aaw K H' ds vs
 | [],_,_,h=>Aax.mpr (Aax.mp h)
 | d::ds,_,f,h=>by
  have f':gG d=true/\nY ds=true:=by simpa [nY] using f
  obtain⟨y,r,e,h1,h2⟩:=Aao.mp h
  exact Aao.mpr ⟨y,r,e,Ab4.flat x d f'.1 h1,Aaw.flat x ds f'.2 h2⟩
end
inductive All3 {α β γ:Type}(R:α->β->γ->Prop):List α->List β->List γ->Prop
 | nil:All3 R [] [] []
 | cons {a b c as bs cs}:R a b c->All3 R as bs cs->All3 R (a::as) (b::bs) (c::cs)
theorem All3.imp {α β γ:Type}{R S:α->β->γ->Prop} : ∀ {as:List α} {bs:List β} {cs:List γ},All3 R as bs cs->(∀ a b c,c∈cs->R a b c->S a b c)->All3 S as bs cs:=by
 intro as bs cs h
 induction h with
 | nil=>exact fun _=>.nil
 | cons h _ ih=>exact fun f=>.cons (f _ _ _ bQ h) (ih fun a b c m=>f a b c (cA _ m))
def Agd (K:aK)(B H:Hp):Nat->aA->V->List aD->Prop
 | 0,d,v,F=>F=[]/\Ab4 K B d v
 | n+1,d,v,F=>match d with
  | .list ds=>∃ p xs Fs,v = .ref p/\H p=some (.lst xs)/\F=p::Fs.flatten/\All3 (Agd K B H n) ds xs Fs
  | .dict kds=>∃ p,∃ kvs:Nat×List (aO×V),∃ Fs,v = .ref p/\H p=some (.dK kvs.1 kvs.2)/\F=p::Fs.flatten/\All3 (fun(kd:aA×aA) (kv:aO×V) f=>kd.1=kD kv.1/\Agd K B H n kd.2 kv.2 f) kds kvs.2 Fs
  | .tuple ds=>(n=0/\F=[]/\Ab4 K B (.tuple ds) v) \/ (n≠0 /\ ∃ p xs Fs,v = .ref p/\B p=some (.tup xs)/\F=Fs.flatten/\All3 (Agd K B H n) ds xs Fs)
  | d=>F=[]/\Ab4 K B d v
theorem Agd.keep {K:aK}{B B' H H':Hp}(xb:Ext B B') : ∀ {n:Nat} {d:aA} {v:V} {F:List aD},(∀ a∈F,H' a=H a)->Agd K B H n d v F->Agd K B' H' n d v F
 | 0,d,v,F,_,h=>⟨h.1,h.2.ext xb⟩
 | n+1,.list ds,v,F,kp,h=>by
  obtain⟨p,xs,Fs,e,hp,rfl,q⟩:=h
  refine⟨p,xs,Fs,e,(kp p bQ).trans hp,rfl,q.imp fun a b c m r=>Agd.keep xb (fun z hz=>kp z (cA _ (rO.mpr ⟨c,m,hz⟩))) r⟩
 | n+1,.dict kds,v,F,kp,h=>by
  obtain⟨p,xs,Fs,e,hp,rfl,q⟩:=h
  refine⟨p,xs,Fs,e,(kp p bQ).trans hp,rfl,q.imp fun a b c m r=>⟨r.1,Agd.keep xb (fun z hz=>kp z (cA _ (rO.mpr ⟨c,m,hz⟩))) r.2⟩⟩
 | n+1,.none,v,F,_,h=>⟨h.1,h.2.ext xb⟩
 | n+1,.bool _,v,F,_,h=>⟨h.1,h.2.ext xb⟩
 | n+1,.int _,v,F,_,h=>⟨h.1,h.2.ext xb⟩
 | n+1,.str _,v,F,_,h=>⟨h.1,h.2.ext xb⟩
 | n+1,.tuple ds,v,F,kp,h=>by
  rcases h with⟨h0,h1,h2⟩ | ⟨h0,p,xs,Fs,e,hp,rfl,q⟩
  ·exact .inl ⟨h0,h1,h2.ext xb⟩
  ·exact .inr ⟨h0,p,xs,Fs,e,xb _ _ hp,rfl,q.imp fun a b c m r=>Agd.keep xb (fun z hz=>kp z (rO.mpr ⟨c,m,hz⟩)) r⟩
theorem UJ {K:aK}{B:Hp}{R:aA->V->List aD->Prop}(f : ∀ d v F,R d v F->Ab4 K B d v) : ∀ {ds:List aA} {xs:List V} {Fs:List (List aD)},All3 R ds xs Fs->Aaw K B ds xs:=by
 intro ds xs Fs h
 induction h with
 | nil=>exact Aax.mpr rfl
 | cons h _ ih=>exact Aao.mpr ⟨_,_,rfl,f _ _ _ h,ih⟩
theorem Ym {K:aK}{B:Hp}{R:aA×aA->aO×V->List aD->Prop}(f : ∀ d v F,R d v F->d.1=kD v.1/\Ab4 K B d.2 v.2) : ∀ {ds:List (aA×aA)} {xs:List (aO×V)} {Fs:List (List aD)},All3 R ds xs Fs->Acv K B ds xs:=by
 intro ds xs Fs h
 induction h with
 | nil=>exact Acu.mpr rfl
 | @cons p q F ds xs Fs h _ ih=>
  obtain⟨k,d⟩:=p
  obtain⟨k',v⟩:=q
  exact Abn.mpr ⟨_,_,_,rfl,(f _ _ _ h).1,(f _ _ _ h).2,ih⟩
theorem Agd.share {K:aK}{B B' H:Hp}(xb:Ext B B') : ∀ {n:Nat} {d:aA} {v:V} {F:List aD},(∀ a∈F,∀ o,H a=some o->B' a=some o)->Agd K B H n d v F->Ab4 K B' d v
 | 0,d,v,F,_,h=>h.2.ext xb
 | n+1,.list ds,v,F,kp,h=>by
  obtain⟨p,xs,Fs,e,hp,rfl,q⟩:=h
  refine Abp.mpr ⟨p,xs,e,SqL.of (kp p bQ _ hp),?_⟩
  exact UJ (fun d v F r=>r) (q.imp fun a b c m r=>Agd.share xb (fun z hz=>kp z (cA _ (rO.mpr ⟨c,m,hz⟩))) r)
 | n+1,.dict kds,v,F,kp,h=>by
  obtain⟨p,xs,Fs,e,hp,rfl,q⟩:=h
  refine Nj e (kp p bQ _ hp) ?_
  exact Ym (fun d v F r=>r) (q.imp fun a b c m r=>⟨r.1,Agd.share xb (fun z hz=>kp z (cA _ (rO.mpr ⟨c,m,hz⟩))) r.2⟩)
 | n+1,.none,v,F,_,h=>h.2.ext xb
 | n+1,.bool _,v,F,_,h=>h.2.ext xb
 | n+1,.int _,v,F,_,h=>h.2.ext xb
 | n+1,.str _,v,F,_,h=>h.2.ext xb
 | n+1,.tuple ds,v,F,kp,h=>by
  rcases h with⟨h0,h1,h2⟩ | ⟨h0,p,xs,Fs,e,hp,rfl,q⟩
  ·exact h2.ext xb
  ·refine Aa4.mpr ⟨p,xs,e,xb _ _ hp,?_⟩
   exact UJ (fun d v F r=>r) (q.imp fun a b c m r=>Agd.share xb (fun z hz=>kp z (rO.mpr ⟨c,m,hz⟩)) r)
noncomputable def iL:Nat->aA->Bool
 | 0,d=>gG d
 | n+1,.list ds=>ds.all (iL n)
 | n+1,.dict kds=>kds.all fun kd=>iL n kd.2
 | n+2,.tuple ds=>ds.all (iL (n+1))
 | n+1,d=>gG d
theorem Agd.flat {K:aK}{B B' H:Hp}(xb : ∀ a xs,B a=some (.tup xs)->B' a=some (.tup xs)) : ∀ {n:Nat} {d:aA} {v:V} {F:List aD},iL n d=true->Agd K B H n d v F->Agd K B' H n d v F
 | 0,d,v,F,f,h=>⟨h.1,h.2.flat xb d f⟩
 | n+1,.list ds,v,F,f,h=>by
  obtain⟨p,xs,Fs,e,hp,rfl,q⟩:=h
  refine⟨p,xs,Fs,e,hp,rfl,?_⟩
  have f' : ∀ d∈ds,iL n d=true:=by simpa [iL] using f
  clear hp f e
  induction q with
  | nil=>exact .nil
  | cons h t ih=>exact .cons (Agd.flat xb (f' _ bQ) h) (ih fun d m=>f' d (cA _ m))
 | n+1,.dict kds,v,F,f,h=>by
  obtain⟨p,xs,Fs,e,hp,rfl,q⟩:=h
  refine⟨p,xs,Fs,e,hp,rfl,?_⟩
  have f' : ∀ d∈kds,iL n d.2=true:=fun d m=>by
   have:kds.all (fun kd=>iL n kd.2)=true:=by simpa [iL] using f
   exact dZ.mp this d m
  clear hp f e
  obtain⟨xe,xs⟩:=xs
  replace q:All3 _ kds xs Fs:=q
  induction q with
  | nil=>exact .nil
  | cons h t ih=>exact .cons ⟨h.1,Agd.flat xb (f' _ bQ) h.2⟩ (ih fun d m=>f' d (cA _ m))
 | n+1,.none,v,F,f,h=>⟨h.1,h.2.flat xb _ f⟩
 | n+1,.bool _,v,F,f,h=>⟨h.1,h.2.flat xb _ f⟩
 | n+1,.int _,v,F,f,h=>⟨h.1,h.2.flat xb _ f⟩
 | n+1,.str _,v,F,f,h=>⟨h.1,h.2.flat xb _ f⟩
 | 1,.tuple ds,v,F,f,h=>by
  rcases h with⟨h0,h1,h2⟩ | ⟨h0,_⟩
  ·exact .inl ⟨h0,h1,h2.flat xb _ f⟩
  ·exact absurd rfl h0
 | n+2,.tuple ds,v,F,f,h=>by
  rcases h with⟨h0,_⟩ | ⟨h0,p,xs,Fs,e,hp,rfl,q⟩
  ·exact absurd h0 (by omega)
  ·refine .inr ⟨h0,p,xs,Fs,e,xb _ _ hp,rfl,?_⟩
   have f' : ∀ d∈ds,iL (n+1) d=true:=by simpa [iL] using f
   clear hp f e
   induction q with
   | nil=>exact .nil
   | cons h t ih=>exact .cons (Agd.flat xb (f' _ bQ) h) (ih fun d m=>f' d (cA _ m))
theorem All3.of {α β γ:Type}{R:α->β->γ->Prop} : ∀ {as:List α} {bs:List β} {cs:List γ},All3 R as bs cs -> ∀ c∈cs,∃ a b,R a b c:=by
 intro as bs cs h
 induction h with
 | nil=>exact fun c m=>by simp at m
 | cons h _ ih=>
  intro c m
  rcases cN.mp m with rfl | m
  ·exact⟨_,_,h⟩
  ·exact ih c m
mutual
noncomputable def ndD:aA->Bool
 | .dict kds=>ndM kds
 | .list ds=>uK ds
 | .tuple ds=>uK ds
 | _=>true
noncomputable def uK:List aA->Bool
 | []=>true
 | d::r=>ndD d&&uK r
noncomputable def ndM:List (aA×aA)->Bool
 | (.none,.none)::r=>xW r
 | _=>false
noncomputable def xW:List (aA×aA)->Bool
 | []=>true
 | (_,d)::r=>ndD d&&xW r
end
noncomputable def jU:Nat->aA->Bool
 | 0,d=>ndD d
 | n+1,.list ds=>ds.all (jU n)
 | n+1,.dict kds=>kds.all fun kd=>jU n kd.2
 | _,_=>false
theorem Io (xs:List V) : ∀ q,HO.lst xs≠dO q:=fun q z=>by cases q <;> cases z
theorem Gb (xs:List V) : ∀ q,HO.tup xs≠dO q:=fun q z=>by cases q <;> cases z
theorem Hf (o:aY)(u:HO) : ∀ q,HO.frz o u≠dO q:=fun q z=>by cases q <;> cases z
def NdX (H H':Hp):Prop:=∀ a o,H a=some o->(∀ q,o≠dO (.inl q))->H' a=some o
mutual
theorem Ab4.nd {K:aK}{H H':Hp}(x:NdX H H') : ∀ (d:aA) {v:V},ndD d=true->Ab4 K H d v->Ab4 K H' d v
 | .none,_,_,h=>Abw.mpr (Abw.mp h)
 | .bool _,_,_,h=>Aas.mpr (Aas.mp h)
 | .int _,_,_,h=>Aau.mpr (Aau.mp h)
 | .str _,_,_,h=>Aap.mpr (Aap.mp h)
 | .tuple ds,_,f,h=>by
  obtain⟨a,xs,e,s,r⟩:=Aa4.mp h
  exact Aa4.mpr ⟨a,xs,e,x _ _ s (fun q=>Gb _ _),Aaw.nd x ds (by simpa [ndD] using f) r⟩
 | .list ds,_,f,h=>by
  obtain⟨a,xs,e,s,r⟩:=Abp.mp h
  refine Abp.mpr ⟨a,xs,e,s.imp (fun s=>?_) id,Aaw.nd x ds (by simpa [ndD] using f) r⟩
  rcases s with s | ⟨o,s⟩
  ·exact .inl (x _ _ s (fun q=>Io _ _))
  ·exact .inr ⟨o,x _ _ s (fun q=>Hf _ _ _)⟩
 | .dict [],_,f,_=>by simp[ndD,ndM] at f
 | .dict ((k,m)::kds),_,f,h=>by
  have f:ndM ((k,m)::kds)=true:=by simpa only[ndD] using f
  cases k <;> cases m <;> first | (simp[ndM] at f; done) | skip
  obtain⟨a,ts,e,s,r⟩:=(vQ).mp h
  exact(vQ).mpr ⟨a,ts,e,x _ _ s (fun q z=>by cases z),Aeb.nd x kds (by simpa only[ndM] using f) r⟩
theorem Aeb.nd {K:aK}{H H':Hp}(x:NdX H H') : ∀ (kds:List (aA×aA)) {ts:List (List aA×V)},xW kds=true->Aeb K H kds ts->Aeb K H' kds ts
 | [],_,_,h=>Afu.mpr (Afu.mp h)
 | (k,d)::r,_,f,h=>by
  have f':ndD d=true/\xW r=true:=by simpa [xW] using f
  obtain⟨k',y,rr,e,ek,h1,h2⟩:=Ac0.mp h
  exact Ac0.mpr ⟨k',y,rr,e,ek,Ab4.nd x d f'.1 h1,Aeb.nd x r f'.2 h2⟩
theorem Aaw.nd {K:aK}{H H':Hp}(x:NdX H H') : ∀ (ds:List aA) {vs:List V},uK ds=true->Aaw K H ds vs->Aaw K H' ds vs
 | [],_,_,h=>Aax.mpr (Aax.mp h)
 | d::ds,_,f,h=>by
  have f':ndD d=true/\uK ds=true:=by simpa [uK] using f
  obtain⟨y,r,e,h1,h2⟩:=Aao.mp h
  exact Aao.mpr ⟨y,r,e,Ab4.nd x d f'.1 h1,Aaw.nd x ds f'.2 h2⟩
end
theorem Agd.mut1 {K:aK}{B H:Hp} : ∀ {n:Nat} {d:aA} {v:V} {F:List aD},Agd K B H n d v F -> ∀ a∈F,(∃ xs,H a=some (.lst xs)) \/ ∃ q,H a=some (dO (.inl q))
 | 0,d,v,F,h,a,m=>by rw[h.1] at m; simp at m
 | n+1,.list ds,v,F,h,a,m=>by
  obtain⟨p,xs,Fs,e,hp,rfl,q⟩:=h
  rcases cN.mp m with e1 | m2
  ·rw[e1]; exact .inl ⟨xs,hp⟩
  ·obtain⟨f,hf,ha⟩:=rO.mp m2
   obtain⟨_,_,r⟩:=q.of f hf
   exact Agd.mut1 r a ha
 | n+1,.dict kds,v,F,h,a,m=>by
  obtain⟨p,xs,Fs,e,hp,rfl,q⟩:=h
  rcases cN.mp m with e1 | m2
  ·rw[e1]; exact .inr ⟨xs,hp⟩
  ·obtain⟨f,hf,ha⟩:=rO.mp m2
   obtain⟨_,_,r⟩:=q.of f hf
   exact Agd.mut1 r.2 a ha
 | n+1,.none,v,F,h,a,m=>by rw[h.1] at m; simp at m
 | n+1,.bool _,v,F,h,a,m=>by rw[h.1] at m; simp at m
 | n+1,.int _,v,F,h,a,m=>by rw[h.1] at m; simp at m
 | n+1,.str _,v,F,h,a,m=>by rw[h.1] at m; simp at m
 | n+1,.tuple ds,v,F,h,a,m=>by
  rcases h with⟨_,h1,_⟩ | ⟨h0,p,xs,Fs,e,hp,rfl,q⟩
  ·rw[h1] at m; simp at m
  ·obtain⟨f,hf,ha⟩:=rO.mp m
   obtain⟨_,_,r⟩:=q.of f hf
   exact Agd.mut1 r a ha
theorem Agd.mut {K:aK}{B H:Hp}{n:Nat}{d:aA}{v:V}{F:List aD}(h:Agd K B H n d v F) : ∀ a∈F,(∃ xs,H a=some (.lst xs)) \/ ∃ q:DQ,H a=some (dO q):=fun a m=>(h.mut1 a m).imp id fun⟨q,e⟩=>⟨.inl q,e⟩
mutual
noncomputable def ftD:aA->Bool
 | .dict kds=>ftM kds
 | .list _=>false
 | .tuple ds=>xS ds
 | _=>true
noncomputable def xS:List aA->Bool
 | []=>true
 | d::r=>ftD d&&xS r
noncomputable def ftM:List (aA×aA)->Bool
 | (.none,.none)::r=>xU r
 | _=>false
noncomputable def xU:List (aA×aA)->Bool
 | []=>true
 | (_,d)::r=>ftD d&&xU r
end
def FtX (H H':Hp):Prop:=∀ a o,H a=some o->((∃ xs,o = .tup xs) \/ ∃ q,o=dO (.inr q))->H' a=some o
mutual
theorem Ab4.ft {K:aK}{H H':Hp}(x:FtX H H') : ∀ (d:aA) {v:V},ftD d=true->Ab4 K H d v->Ab4 K H' d v
 | .none,_,_,h=>Abw.mpr (Abw.mp h)
 | .bool _,_,_,h=>Aas.mpr (Aas.mp h)
 | .int _,_,_,h=>Aau.mpr (Aau.mp h)
 | .str _,_,_,h=>Aap.mpr (Aap.mp h)
 | .tuple ds,_,f,h=>by
  obtain⟨a,xs,e,s,r⟩:=Aa4.mp h
  exact Aa4.mpr ⟨a,xs,e,x _ _ s (.inl ⟨xs,rfl⟩),Aaw.ft x ds (by simpa [ftD] using f) r⟩
 | .list ds,_,f,h=>by simp[ftD] at f
 | .dict [],_,f,_=>by simp[ftD,ftM] at f
 | .dict ((k,m)::kds),_,f,h=>by
  have f:ftM ((k,m)::kds)=true:=by simpa only[ftD] using f
  cases k <;> cases m <;> first | (simp[ftM] at f; done) | skip
  obtain⟨a,ts,e,s,r⟩:=(vQ).mp h
  exact(vQ).mpr ⟨a,ts,e,x _ _ s (.inr ⟨ts,rfl⟩),Aeb.ft x kds (by simpa only[ftM] using f) r⟩
theorem Aeb.ft {K:aK}{H H':Hp}(x:FtX H H') : ∀ (kds:List (aA×aA)) {ts:List (List aA×V)},xU kds=true->Aeb K H kds ts->Aeb K H' kds ts
 | [],_,_,h=>Afu.mpr (Afu.mp h)
 | (k,d)::r,_,f,h=>by
  have f':ftD d=true/\xU r=true:=by simpa [xU] using f
  obtain⟨k',y,rr,e,ek,h1,h2⟩:=Ac0.mp h
  exact Ac0.mpr ⟨k',y,rr,e,ek,Ab4.ft x d f'.1 h1,Aeb.ft x r f'.2 h2⟩
theorem Aaw.ft {K:aK}{H H':Hp}(x:FtX H H') : ∀ (ds:List aA) {vs:List V},xS ds=true->Aaw K H ds vs->Aaw K H' ds vs
 | [],_,_,h=>Aax.mpr (Aax.mp h)
 | d::ds,_,f,h=>by
  have f':ftD d=true/\xS ds=true:=by simpa [xS] using f
  obtain⟨y,r,e,h1,h2⟩:=Aao.mp h
  exact Aao.mpr ⟨y,r,e,Ab4.ft x d f'.1 h1,Aaw.ft x ds f'.2 h2⟩
end
theorem Agd.nd {K:aK}{B B' H:Hp}(xb:NdX B B') : ∀ {n:Nat} {d:aA} {v:V} {F:List aD},jU n d=true->Agd K B H n d v F->Agd K B' H n d v F
 | 0,d,v,F,f,h=>⟨h.1,h.2.nd xb d f⟩
 | n+1,.list ds,v,F,f,h=>by
  obtain⟨p,xs,Fs,e,hp,rfl,q⟩:=h
  refine⟨p,xs,Fs,e,hp,rfl,?_⟩
  have f' : ∀ d∈ds,jU n d=true:=by simpa [jU] using f
  clear hp f e
  induction q with
  | nil=>exact .nil
  | cons h t ih=>exact .cons (Agd.nd xb (f' _ bQ) h) (ih fun d m=>f' d (cA _ m))
 | n+1,.dict kds,v,F,f,h=>by
  obtain⟨p,xs,Fs,e,hp,rfl,q⟩:=h
  refine⟨p,xs,Fs,e,hp,rfl,?_⟩
  have f' : ∀ d∈kds,jU n d.2=true:=fun d m=>by
   have:kds.all (fun kd=>jU n kd.2)=true:=by simpa [jU] using f
   exact dZ.mp this d m
  clear hp f e
  obtain⟨xe,xs⟩:=xs
  replace q:All3 _ kds xs Fs:=q
  induction q with
  | nil=>exact .nil
  | cons h t ih=>exact .cons ⟨h.1,Agd.nd xb (f' _ bQ) h.2⟩ (ih fun d m=>f' d (cA _ m))
 | n+1,.none,v,F,f,h=>by simp[jU] at f
 | n+1,.bool _,v,F,f,h=>by simp[jU] at f
 | n+1,.int _,v,F,f,h=>by simp[jU] at f
 | n+1,.str _,v,F,f,h=>by simp[jU] at f
 | n+1,.tuple ds,v,F,f,h=>by simp[jU] at f
def Em (K:aK)(B H:Hp)(d:aA)(v:V)(F:List aD):Prop:=∃ kds p,∃ ts:Nat×List (List aA×V),d = .dict ((.none,.none)::kds)/\v = .ref p/\H p=some (.dT ts.1 ts.2)/\F=[p]/\(∀ kd∈kds,gG kd.2=true)/\Aeb K B kds ts.2
def Ajb (K:aK)(B H:Hp)(n:Nat)(d:aA)(v:V)(F:List aD):Prop:=if n=9 then(d = .none/\v = .non/\F=[]) \/ Em K B H d v F else Agd K B H n d v F
theorem Aeb.flat {K:aK}{B B':Hp}(xb : ∀ a xs,B a=some (.tup xs)->B' a=some (.tup xs)) : ∀ {kds:List (aA×aA)} {ts:List (List aA×V)},(∀ kd∈kds,gG kd.2=true)->Aeb K B kds ts->Aeb K B' kds ts
 | [],ts,_,h=>Afu.mpr (Afu.mp h)
 | (k,d)::r,ts,f,h=>by
  obtain⟨k',x,rr,e,ek,h1,h2⟩:=Ac0.mp h
  exact Ac0.mpr ⟨k',x,rr,e,ek,h1.flat xb _ (f (k,d) bQ),Aeb.flat xb (fun kd m=>f kd (cA _ m)) h2⟩
section
variable {K:aK}{B B' H H':Hp}{n:Nat}{d:aA}{v:V}{F:List aD}
theorem Ajb.keep (xb:Ext B B')(kp : ∀ a∈F,H' a=H a)(h:Ajb K B H n d v F):Ajb K B' H' n d v F:=by
 unfold Ajb at h ⊢
 split at h
 ·rw[if_pos ‹_›]
  refine h.imp id fun h=>?_
  obtain⟨kds,p,ts,e1,e2,hp,rfl,f,r⟩:=h
  exact⟨kds,p,ts,e1,e2,(kp p bQ).trans hp,rfl,f,r.ext xb⟩
 ·rw[if_neg ‹_›]
  exact Agd.keep xb kp h
theorem Ajb.share (xb:Ext B B')(kp : ∀ a∈F,∀ o,H a=some o->B' a=some o)(h:Ajb K B H n d v F):Ab4 K B' d v:=by
 unfold Ajb at h
 split at h
 ·rcases h with⟨rfl,rfl,_⟩ | ⟨kds,p,ts,rfl,e2,hp,rfl,f,r⟩
  ·exact Abw.mpr rfl
  exact(vQ).mpr ⟨p,ts,e2,kp p bQ _ hp,r.ext xb⟩
 ·exact Agd.share xb kp h
theorem Ajb.flat (xb : ∀ a xs,B a=some (.tup xs)->B' a=some (.tup xs))(f:iL n d=true)(h:Ajb K B H n d v F):Ajb K B' H n d v F:=by
 unfold Ajb at h ⊢
 split at h
 ·rw[if_pos ‹_›]
  refine h.imp id fun h=>?_
  obtain⟨kds,p,ts,e1,e2,hp,rfl,f,r⟩:=h
  exact⟨kds,p,ts,e1,e2,hp,rfl,f,r.flat xb f⟩
 ·rw[if_neg ‹_›]
  exact Agd.flat xb f h
theorem Ajb.nd (xb:NdX B B')(hn:n<9)(f:jU n d=true)(h:Ajb K B H n d v F):Ajb K B' H n d v F:=by
 unfold Ajb at h ⊢
 rw[if_neg (by omega)] at h ⊢
 exact Agd.nd xb f h
theorem Ajb.mut (h:Ajb K B H n d v F) : ∀ a∈F,(∃ xs,H a=some (.lst xs)) \/ ∃ q:DQ,H a=some (dO q):=by
 unfold Ajb at h
 split at h
 ·rcases h with⟨_,_,rfl⟩ | ⟨kds,p,ts,e1,e2,hp,rfl,f,r⟩
  ·exact fun a m=>by simp at m
  intro a m
  rw[dX.mp m]
  exact .inr ⟨.inr ts,hp⟩
 ·exact Agd.mut h
end
abbrev EF:=List (Option aA)->Option aA
abbrev BF:=List (Option aA)->Option Bool
abbrev AF:=List (Option aA)->Option (List aA)
def Alx (K:aK)(B:Hp)(ρ:List (Option aA))(σ:St):Prop:=∀ (i:Nat) d,ρ[i]?=some (some d) -> ∃ v,σ[i]?=some (some v)/\Ab4 K B d v
theorem Alx.ext {K:aK}{B B':Hp}{ρ:List (Option aA)}{σ:St}(h:Alx K B ρ σ)(x:Ext B B'):Alx K B' ρ σ:=fun i d e=>let ⟨v,h1,h2⟩:=h i d e; ⟨v,h1,h2.ext x⟩
def Res (K:aK)(P:aD->Prop)(n:Nat)(d:aA)(H:Hp)(Q:VK):Prop:=
 ∀ v H' Fr,Ext H H'->Fr.Nodup->(∀ a∈Fr,H a=none /\ ∃ o,H' a=some o)->Ajb K (hid H' (orL P Fr)) H' n d v Fr->Q v H'
section
variable {K:aK}{P:aD->Prop}{n:Nat}{d:aA}{H H':Hp}{Q:VK}{v:V}
theorem Res.zero (h:Res K P 0 d H Q)(x:Ext H H')(r:Ab4 K (hid H' P) d v):Q v H':=
 h v H' [] x .nil (fun a m=>by simp at m) ⟨rfl,by rw[Ak]; exact r⟩
theorem dB (h : ∀ v H',Ext H H'->Ab4 K (hid H' P) d v->Q v H'):Res K P 0 d H Q:=fun v H' Fr x _ _ r=>by
 obtain⟨rfl,r⟩:=r
 rw[Ak] at r
 exact h v H' x r
theorem Res.mono (h:Res K P n d H Q)(x:Ext H H'):Res K P n d H' Q:=fun v H2 Fr x2 nd fr r=>
 h v H2 Fr (x.trans x2) nd (fun a m=>⟨x.none (fr a m).1,(fr a m).2⟩) r
theorem Res.of (hP:Hid P H)(h:Res K P 0 d H Q):Res K P n d H Q:=fun v H2 Fr x2 nd fr r=>
 h.zero x2 (r.share (jZ fun a p=>.inl p) fun a m o e=>kP (hP.new (fr a m).1) e)
theorem Res.lst {ds:List aA}{xs:List V}{p:aD}(hP:Hid P H)(h:Res K P 1 (.list ds) H Q)(n:H p=none)(r:Aaw K (hid H P) ds xs):Q (.ref p) (upd H p (.lst xs)):=by
 refine h (.ref p) _ [p] (Ext.new n) (oR.mpr ⟨by simp,.nil⟩) (fun a m=>?_) ⟨p,xs,xs.map fun _=>[],rfl,kC,?_,?_⟩
 ·have:a=p:=by simpa using m
  subst this
  exact⟨n,_,kC⟩
 ·have : ∀ l:List V,(l.map fun _=>([]:List aD)).flatten=[]:=fun l=>by
   induction l with
   | nil=>rfl
   | cons a l ih=>rw[fE,uB,ih]; rfl
  rw[this]
 ·have xe:Ext (hid H P) (hid (upd H p (.lst xs)) (orL P [p])):=fun b o e=>by
   obtain⟨nb,e⟩:=Afm.mp e
   have hb:=nK e n
   exact kP (fun q=>q.elim nb fun m=>hb (by simpa using m)) (by rw[fG hb]; exact e)
  generalize hid (upd H p (.lst xs)) (orL P [p])=B at xe
  generalize upd H p (.lst xs)=H1
  clear h
  have go : ∀ (ds:List aA) (xs:List V),Aaw K (hid H P) ds xs->All3 (Agd K B H1 0) ds xs (xs.map fun _=>[]):=by
   intro ds
   induction ds with
   | nil=>intro xs r; rw[Aax.mp r]; exact .nil
   | cons d ds ih=>
    intro xs r
    obtain⟨y,t,rfl,h1,h2⟩:=Aao.mp r
    exact .cons ⟨rfl,h1.ext xe⟩ (ih t h2)
  exact go ds xs r
theorem Res.tup {ds:List aA}{xs:List V}{p:aD}(hP:Hid P H)(h:Res K P 0 (.tuple ds) H Q)(n:H p=none)(r:Aaw K (hid H P) ds xs):Q (.ref p) (upd H p (.tup xs)):=by
 refine h.zero (Ext.new n) (Aa4.mpr ⟨p,xs,rfl,kP (hP.new n) kC,r.ext fun b o e=>?_⟩)
 obtain⟨nb,e⟩:=Afm.mp e
 exact kP nb (Ext.new n _ _ e)
end
noncomputable def tF (K:aK)(n:Nat)(f:EF):TE:=fun σ H Q=>∃ P ρ d,Hid P H/\Alx K (hid H P) ρ σ/\f ρ=some d/\Res K P n d H Q
noncomputable def tTF (K:aK)(f:BF):TT:=fun σ H Q=>∃ P ρ b,Hid P H/\Alx K (hid H P) ρ σ/\f ρ=some b /\ ∀ H',Ext H H'->Q b H'
noncomputable def tAF (K:aK)(f:AF):TA:=fun σ H Q=>∃ P ρ ds,Hid P H/\Alx K (hid H P) ρ σ/\f ρ=some ds /\ ∀ vs H',Ext H H'->Aaw K (hid H' P) ds vs->Q vs H'
abbrev DF (n:Nat)(X:Cx)(e:aW)(f:EF):Prop:=PE X e (tF X.K n f)
abbrev DE (X:Cx)(e:aW)(f:EF):Prop:=PE X e (tF X.K 0 f)
abbrev DT (X:Cx)(e:aW)(f:BF):Prop:=PT X e (tTF X.K f)
abbrev DW (X:Cx)(e:aW)(f:BF):Prop:=PW X e (tTF X.K f)
abbrev DA (X:Cx)(es:List aW)(f:AF):Prop:=PA X es (tAF X.K f)
section
variable {X:Cx}{e a b:aW}{es:List aW}{pos:cC}{n:Nat}
theorem PE.imp {t t':TE}(h:PE X e t)(w : ∀ σ H Q,t' σ H Q->t σ H Q):PE X e t':=fun pins s σ H Q I q=>h pins s σ H Q I (w _ _ _ q)
theorem PT.imp {t t':TT}(h:PT X e t)(w : ∀ σ H Q,t' σ H Q->t σ H Q):PT X e t':=fun pins s σ H Q I q=>h pins s σ H Q I (w _ _ _ q)
theorem PW.imp {t t':TT}(h:PW X e t)(w : ∀ σ H Q,t' σ H Q->t σ H Q):PW X e t':=fun whole pins s σ H Q I q=>h whole pins s σ H Q I (w _ _ _ q)
theorem PA.imp {t t':TA}(h:PA X es t)(w : ∀ σ H Q,t' σ H Q->t σ H Q):PA X es t':=fun pos pins s σ H Q I q=>h pos pins s σ H Q I (w _ _ _ q)
theorem dW {f:EF}(h:DF n X e f):DE X e f:=PE.imp h fun σ H Q ⟨P,ρ,d,hP,rs,ef,k⟩=>⟨P,ρ,d,hP,rs,ef,Res.of hP k⟩
noncomputable def aC (i:Nat):EF:=fun ρ=>(ρ[i]?).join
theorem JU {i:Nat}{ρ:List (Option aA)}{d:aA}(h:aC i ρ=some d):ρ[i]?=some (some d):=by
 unfold aC at h
 cases e:ρ[i]? with
 | none=>rw[e] at h; simp at h
 | some o=>rw[e] at h; simp at h; rw[h]
theorem aH (i:Nat){x:aB}(hN:X.N[i]?=some x:=by rfl)(hv:nU X.env.scope x:=by first | exact aX rfl | exact bD (aX rfl) | exact bD (bD rfl))(hd:(x == ("__debug__" : aB))=false:=by decide)
  (hcd:(x == ("__classdict__" : aB))=false:=by decide):DE X (.Name x pos) (aC i):=PE.imp (sN hN hv hd hcd) fun σ H Q gh=>by
 obtain⟨P,ρ,d,hP,rs,ef,k⟩:=gh
 obtain⟨v,h1,h2⟩:=rs i d (JU ef)
 exact⟨v,h1,k.zero Ext.refl h2⟩
noncomputable def eC (d:aA):EF:=fun _=>some d
theorem uE {d:aA}{v:V}(h:PE X e (tC v))(hr : ∀ H,Ab4 X.K H d v):DE X e (eC d):=PE.imp h fun σ H Q gh=>by
 obtain⟨P,ρ,d',hP,rs,ef,k⟩:=gh
 cases ef
 exact k.zero Ext.refl (hr _)
theorem aP {i j}:DE X (.Constant (.int i) j pos) (eC (.int i)):=uE Hy fun _=>Aau.mpr rfl
theorem mK {i j}:DE X (.Constant (.bool i) j pos) (eC (.bool i)):=uE Fi fun _=>Aas.mpr rfl
theorem PJ {j}:DE X (.Constant .none j pos) (eC .none):=uE Jd fun _=>Abw.mpr rfl
theorem iW {i j}(h:cD (.str i)=true:=by decide +kernel):DE X (.Constant (.str i) j pos) (eC (.str i)):=uE PL fun _=>Aap.mpr ⟨rfl,h⟩
theorem vO {x:aB}{i:Int}{u:aE}(hg:Gl X x)(hm:X.mg x=some u)(r:RelV (.int i) u)(hd:(x == ("__debug__" : aB))=false:=by decide):DE X (.Name x pos) (eC (.int i)):=uE (QF hg hm r hd) fun _=>Aau.mpr rfl
theorem CU {x:aB}{i:aB}{u:aE}(hg:Gl X x)(hm:X.mg x=some u)(r:RelV (.str i) u)(hl:cD (.str i)=true:=by decide +kernel)(hd:(x == ("__debug__" : aB))=false:=by decide):DE X (.Name x pos) (eC (.str i)):=uE (QF hg hm r hd) fun _=>Aap.mpr ⟨rfl,hl⟩
noncomputable def aJ:AF:=fun _=>some []
noncomputable def aF (f:EF)(g:AF):AF:=fun ρ=>(f ρ).bind fun d=>(g ρ).bind fun ds=>some (d::ds)
theorem aQ:DA X [] aJ:=PA.imp lX fun σ H Q gh=>by
 obtain⟨P,ρ,d,hP,rs,ef,k⟩:=gh
 cases ef
 exact k [] H Ext.refl (Aax.mpr rfl)
theorem aM {f:EF}{g:AF}(h1:DE X e f)(h2:DA X es g)(hs:bI (e::es) X.env=(false,bZ e X.env)::bI es X.env:=by rfl):DA X (e::es) (aF f g):=
 PA.imp (kS h1 h2 hs) fun σ H Q gh=>by
  obtain⟨P,ρ,ds,hP,rs,ef,k⟩:=gh
  obtain⟨d,e1,ef⟩:=XBs ef
  obtain⟨r,e2,ef⟩:=XBs ef
  cases ef
  exact⟨P,ρ,d,hP,rs,e1,dB fun v H1 x1 r1=>⟨P,ρ,r,hP.ext x1,rs.ext (cW x1),e2,fun vs H2 x2 r2=>
   k _ _ (x1.trans x2) (Aao.mpr ⟨v,vs,rfl,r1.ext (cW x2),r2⟩)⟩⟩
noncomputable def gX (g:AF):EF:=fun ρ=>(g ρ).bind fun ds=>if ds.length≤sizeLine then some (.tuple ds) else none
noncomputable def lN (g:AF):EF:=fun ρ=>(g ρ).bind fun ds=>if ds.length≤sizeLine then some (.list ds) else none
theorem dS {α:Type}{c:Prop}[Decidable c]{x y:α}(h:(if c then some x else none)=some y):c/\x=y:=by
 by_cases q:c
 ·rw[if_pos q] at h; exact⟨q,gU h⟩
 ·rw[if_neg q] at h; cases h
theorem nZ {g:AF}{x1}(h:DA X es g):DE X (.Tuple es x1 pos) (gX g):=PE.imp (Ic h) fun σ H Q gh=>by
 obtain⟨P,ρ,d,hP,rs,ef,k⟩:=gh
 obtain⟨ds,e1,ef⟩:=XBs ef
 obtain⟨hl,rfl⟩:=dS ef
 exact⟨P,ρ,ds,hP,rs,e1,fun vs H1 x1 r1=>⟨by rw[r1.length]; exact hl,fun p hp=>(k.mono x1).tup (hP.ext x1) hp r1⟩⟩
theorem pG {g:AF}(h:DA X es g):DF 1 X (.List es pos) (lN g):=PE.imp (Iv h) fun σ H Q gh=>by
 obtain⟨P,ρ,d,hP,rs,ef,k⟩:=gh
 obtain⟨ds,e1,ef⟩:=XBs ef
 obtain⟨hl,rfl⟩:=dS ef
 exact⟨P,ρ,ds,hP,rs,e1,fun vs H1 x1 r1=>⟨by rw[r1.length]; exact hl,fun p hp=>(k.mono x1).lst (hP.ext x1) hp r1⟩⟩
def OpD (K:aK)(n:Nat)(r:R2)(g:aA->aA->Option aA):Prop:=
 ∀ (P:aD->Prop) (H:Hp) (x y:V) (a b d:aA) (Q:VK),Hid P H->Ab4 K (hid H P) a x->Ab4 K (hid H P) b y->g a b=some d->Res K P n d H Q->r x y H Q
noncomputable def eOp (g:aA->aA->Option aA)(fa fb:EF):EF:=fun ρ=>(fa ρ).bind fun a=>(fb ρ).bind fun b=>g a b
theorem HG {r:R2}{g:aA->aA->Option aA}{fa fb:EF}{K:aK}(hg:OpD K n r g) : ∀ σ H Q,tF K n (eOp g fa fb) σ H Q->tOp r (tF K 0 fa) (tF K 0 fb) σ H Q:=fun σ H Q gh=>by
 obtain⟨P,ρ,d,hP,rs,ef,k⟩:=gh
 obtain⟨d1,e1,ef⟩:=XBs ef
 obtain⟨d2,e2,ef⟩:=XBs ef
 exact⟨P,ρ,d1,hP,rs,e1,dB fun v H1 x1 r1=>⟨P,ρ,d2,hP.ext x1,rs.ext (cW x1),e2,dB fun u H2 x2 r2=>
  hg P H2 v u d1 d2 d Q (hP.ext (x1.trans x2)) (r1.ext (cW x2)) r2 ef (k.mono (x1.trans x2))⟩⟩
theorem qI {op:Operator}{r:R2}{g:aA->aA->Option aA}{fa fb:EF}(ho:OpR X (kZ op) r)(hg:OpD X.K n r g)(ha:DE X a fa)(hb:DE X b fb):DF n X (.BinOp a op b pos) (eOp g fa fb):=PE.imp (Dz ho ha hb) (HG hg)
theorem lU {op:CmpOp}{r:R2}{g:aA->aA->Option aA}{fa fb:EF}(ho:OpR X (iC op) r)(hg:OpD X.K 0 r g)(ha:DE X a fa)(hb:DE X b fb)(hm:AL op b=false):DE X (.Compare a [op] [b] pos) (eOp g fa fb):=PE.imp (Mb ho ha hb hm) (HG hg)
def UnD (K:aK)(n:Nat)(r:V->Hp->VK->Prop)(g:aA->Option aA):Prop:=
 ∀ (P:aD->Prop) (H:Hp) (x:V) (a d:aA) (Q:VK),Hid P H->Ab4 K (hid H P) a x->g a=some d->Res K P n d H Q->r x H Q
noncomputable def eUn (g:aA->Option aA)(fa:EF):EF:=fun ρ=>(fa ρ).bind g
theorem Ei {op:UnaryOp}{r:V->Hp->VK->Prop}{g:aA->Option aA}{fa:EF}(ho:UnR X (unaryOp op) r)(hg:UnD X.K n r g)(ha:DE X a fa):DF n X (.UnaryOp op a pos) (eUn g fa):=
 PE.imp (Fu ho ha) fun σ H Q gh=>by
  obtain⟨P,ρ,d,hP,rs,ef,k⟩:=gh
  obtain⟨d1,e1,ef⟩:=XBs ef
  exact⟨P,ρ,d1,hP,rs,e1,dB fun v H1 x1 r1=>hg P H1 v d1 d Q (hP.ext x1) r1 ef (k.mono x1)⟩
def CallD (K:aK)(n:Nat)(r:List V->Hp->VK->Prop)(g:List aA->Option aA):Prop:=
 ∀ (P:aD->Prop) (H:Hp) (xs:List V) (ds:List aA) (d:aA) (Q:VK),Hid P H->Aaw K (hid H P) ds xs->g ds=some d->Res K P n d H Q->r xs H Q
noncomputable def aL (g:List aA->Option aA)(fa:AF):EF:=fun ρ=>(fa ρ).bind g
variable {r:List V->Hp->VK->Prop}{g:List aA->Option aA}{fa:AF}{x:aB}{p:cC}{id T:String}
theorem eZ (hc:Aeq X (.builtin id) r)(hg:CallD X.K n r g)(hgl:Gl X x)(hm:X.mg x=none)(hv:mO x=some (.builtin id))(ha:DA X (e::es) fa)(hn:x ≠ "__name__":=by decide)(hdb:(x == ("__debug__" : aB))=false:=by decide)
  (he:bI (e::es) X.env=(false,bZ e X.env)::bI es X.env:=by rfl) (hpl:(eM pos (bI es X.env)).any (·.1)=false:=by rfl):DF n X (.Call (.Name x p) (e::es) [] pos) (aL g fa):=
 PE.imp (CQ hc hgl hm hv ha hn hdb he hpl) fun σ H Q gh=>by
  obtain⟨P,ρ,d,hP,rs,ef,k⟩:=gh
  obtain⟨d1,e1,ef⟩:=XBs ef
  exact⟨P,ρ,d1,hP,rs,e1,fun vs H1 x1 r1=>hg P H1 vs d1 d Q (hP.ext x1) r1 ef (k.mono x1)⟩
theorem oF (hc:Aeq X (.type T) r)(hg:CallD X.K n r g)(hgl:Gl X x)(hm:X.mg x=none)(hv:mO x=some (.type T))(ha:DA X (e::es) fa)(hn:x ≠ "__name__":=by decide)(hdb:(x == ("__debug__" : aB))=false:=by decide)
  (he:bI (e::es) X.env=(false,bZ e X.env)::bI es X.env:=by rfl) (hpl:(eM pos (bI es X.env)).any (·.1)=false:=by rfl):DF n X (.Call (.Name x p) (e::es) [] pos) (aL g fa):=
 PE.imp (JR hc hgl hm hv ha hn hdb he hpl) fun σ H Q gh=>by
  obtain⟨P,ρ,d,hP,rs,ef,k⟩:=gh
  obtain⟨d1,e1,ef⟩:=XBs ef
  exact⟨P,ρ,d1,hP,rs,e1,fun vs H1 x1 r1=>hg P H1 vs d1 d Q (hP.ext x1) r1 ef (k.mono x1)⟩
noncomputable def asB:aA->Option Bool
 | .bool b=>some b
 | _=>none
theorem sW {d:aA}{b:Bool}(h:asB d=some b):d = .bool b:=by
 cases d <;> simp[asB] at h
 rw[h]
noncomputable def bOf (f:EF):BF:=fun ρ=>(f ρ).bind asB
theorem jY {f:EF}(h:DE X e f)(he : ∀ whole,isTrue e X.env whole=(do let v ← whole; standAt e.pos; rJ [v] (truthy v)):=by intro _; rfl):DT X e (bOf f):=PT.imp (Jg h he) fun σ H Q gh=>by
 obtain⟨P,ρ,b,hP,rs,ef,k⟩:=gh
 obtain⟨d,e1,ef⟩:=XBs ef
 cases sW ef
 exact⟨P,ρ,_,hP,rs,e1,dB fun v H1 x1 r1=>⟨b,Aas.mp r1,k H1 x1⟩⟩
theorem fV {op:CmpOp}{r:R2}{g:aA->aA->Option aA}{fa fb:EF}(ho:OpR X (iC op) r)(hg:OpD X.K 0 r g)(ha:DE X a fa)(hb:DE X b fb)(hm:AL op b=false):DT X (.Compare a [op] [b] pos) (bOf (eOp g fa fb)):=
 PT.imp (Nd ho ha hb hm) fun σ H Q gh=>by
  obtain⟨P,ρ,c,hP,rs,ef,k⟩:=gh
  obtain⟨d,e1,ef⟩:=XBs ef
  cases sW ef
  exact HG hg σ H _ ⟨P,ρ,_,hP,rs,e1,dB fun v H1 x1 r1=>⟨c,Aas.mp r1,k H1 x1⟩⟩
noncomputable def eK (f:BF):BF:=fun ρ=>(f ρ).bind fun b=>some (!b)
noncomputable def rE (f g:BF):BF:=fun ρ=>(f ρ).bind fun b=>if b=true then g ρ else some false
noncomputable def bOr (f g:BF):BF:=fun ρ=>(f ρ).bind fun b=>if b=true then some true else g ρ
variable {fB gB:BF}{rest:List aW}
theorem lY (h:DT X a fB):DT X (.UnaryOp .Not a pos) (eK fB):=PT.imp (Im h) fun σ H Q gh=>by
 obtain⟨P,ρ,c,hP,rs,ef,k⟩:=gh
 obtain⟨b,e1,ef⟩:=XBs ef
 cases ef
 exact⟨P,ρ,b,hP,rs,e1,fun H1 x1=>k H1 x1⟩
theorem Ah (h:DT X a fB):DW X (.BoolOp .And [a] pos) fB:=Kl h
theorem vE (h:DT X a fB):DW X (.BoolOp .Or [a] pos) fB:=Gn h
theorem OW (h:DT X a fB)(h2:DW X (.BoolOp .And (b::rest) pos) gB):DW X (.BoolOp .And (a::b::rest) pos) (rE fB gB):=PW.imp (Gf h h2) fun σ H Q gh=>by
 obtain⟨P,ρ,c,hP,rs,ef,k⟩:=gh
 obtain⟨b,e1,ef⟩:=XBs ef
 refine⟨P,ρ,b,hP,rs,e1,fun H1 x1=>?_⟩
 cases b with
 | true=>exact qE ⟨P,ρ,c,hP.ext x1,rs.ext (cW x1),by simpa using ef,fun H2 x2=>k H2 (x1.trans x2)⟩
 | false=>
  have:false=c:=by simpa using ef
  subst this
  exact rG (k H1 x1)
theorem sF (h:DT X a fB)(h2:DW X (.BoolOp .Or (b::rest) pos) gB):DW X (.BoolOp .Or (a::b::rest) pos) (bOr fB gB):=PW.imp (En h h2) fun σ H Q gh=>by
 obtain⟨P,ρ,c,hP,rs,ef,k⟩:=gh
 obtain⟨b,e1,ef⟩:=XBs ef
 refine⟨P,ρ,b,hP,rs,e1,fun H1 x1=>?_⟩
 cases b with
 | true=>
  have:true=c:=by simpa using ef
  subst this
  exact qE (k H1 x1)
 | false=>exact rG ⟨P,ρ,c,hP.ext x1,rs.ext (cW x1),by simpa using ef,fun H2 x2=>k H2 (x1.trans x2)⟩
theorem rF (h:DW X a fB):DT X a fB:=h.pt
noncomputable def NN (f:EF):EF:=fun ρ=>(f ρ).bind fun d=>(asB d).bind fun b=>some (.bool (!b))
noncomputable def mH (f g:EF):EF:=fun ρ=>(f ρ).bind fun d=>(asB d).bind fun b=>if b=true then g ρ else some (.bool false)
noncomputable def eOr (f g:EF):EF:=fun ρ=>(f ρ).bind fun d=>(asB d).bind fun b=>if b=true then some (.bool true) else g ρ
variable {f1 f2:EF}
theorem pC {op}(h:DE X a f1):DE X (.BoolOp op [a] pos) f1:=Hn h
theorem Fn (h:DE X a f1):DE X (.UnaryOp .Not a pos) (NN f1):=PE.imp (Gq h) fun σ H Q gh=>by
 obtain⟨P,ρ,c,hP,rs,ef,k⟩:=gh
 obtain⟨d,e1,ef⟩:=XBs ef
 obtain⟨b,e2,ef2⟩:=XBs ef
 clear ef
 have ef:=ef2
 clear ef2
 cases ef
 cases sW e2
 exact⟨P,ρ,_,hP,rs,e1,dB fun v H1 x1 r1=>⟨b,Aas.mp r1,k.zero x1 (Aas.mpr rfl)⟩⟩
theorem pH (h:DE X a f1)(h2:DE X (.BoolOp .And (b::rest) pos) f2):DE X (.BoolOp .And (a::b::rest) pos) (mH f1 f2):=PE.imp (Hc h h2) fun σ H Q gh=>by
 obtain⟨P,ρ,c,hP,rs,ef,k⟩:=gh
 obtain⟨d,e1,ef⟩:=XBs ef
 obtain⟨b,e2,ef2⟩:=XBs ef
 clear ef
 have ef:=ef2
 clear ef2
 cases sW e2
 refine⟨P,ρ,_,hP,rs,e1,dB fun v H1 x1 r1=>⟨b,Aas.mp r1,?_⟩⟩
 cases b with
 | true=>exact qE ⟨P,ρ,c,hP.ext x1,rs.ext (cW x1),by simpa using ef,k.mono x1⟩
 | false=>
  have:eO false=c:=by simpa using ef
  subst this
  exact rG (k.zero x1 (Aas.mpr rfl))
theorem Ft (h:DE X a f1)(h2:DE X (.BoolOp .Or (b::rest) pos) f2):DE X (.BoolOp .Or (a::b::rest) pos) (eOr f1 f2):=PE.imp (Ff h h2) fun σ H Q gh=>by
 obtain⟨P,ρ,c,hP,rs,ef,k⟩:=gh
 obtain⟨d,e1,ef⟩:=XBs ef
 obtain⟨b,e2,ef2⟩:=XBs ef
 clear ef
 have ef:=ef2
 clear ef2
 cases sW e2
 refine⟨P,ρ,_,hP,rs,e1,dB fun v H1 x1 r1=>⟨b,Aas.mp r1,?_⟩⟩
 cases b with
 | true=>
  have:eO true=c:=by simpa using ef
  subst this
  exact qE (k.zero x1 (Aas.mpr rfl))
 | false=>exact rG ⟨P,ρ,c,hP.ext x1,rs.ext (cW x1),by simpa using ef,k.mono x1⟩
noncomputable def eIf (t:BF)(f g:EF):EF:=fun ρ=>(t ρ).bind fun b=>if b=true then f ρ else g ρ
theorem RH {c:aW}{t:BF}(hc:DT X c t)(ha:DF n X a f1)(hb:DF n X b f2):DF n X (.IfExp c a b pos) (eIf t f1 f2):=PE.imp (Vf hc ha hb) fun σ H Q gh=>by
 obtain⟨P,ρ,d,hP,rs,ef,k⟩:=gh
 obtain⟨b,e1,ef⟩:=XBs ef
 refine⟨P,ρ,b,hP,rs,e1,fun H1 x1=>?_⟩
 cases b with
 | true=>exact qE ⟨P,ρ,d,hP.ext x1,rs.ext (cW x1),by simpa using ef,k.mono x1⟩
 | false=>exact rG ⟨P,ρ,d,hP.ext x1,rs.ext (cW x1),by simpa using ef,k.mono x1⟩
noncomputable def iX (g g':aA->aA->Option aA)(fa fb fc:EF):EF:=fun ρ=>(fa ρ).bind fun a=>(fb ρ).bind fun b=>(g a b).bind fun z=>(asB z).bind fun t=>if t=true then(fc ρ).bind fun c=>g' b c else some (.bool false)
theorem Vp {r r':R2}{g g':aA->aA->Option aA}{fa fb fc:EF}{K:aK}(hg:OpD K 0 r g)(hg':OpD K 0 r' g') : ∀ σ H Q,tF K 0 (iX g g' fa fb fc) σ H Q->YJ r r' (tF K 0 fa) (tF K 0 fb) (tF K 0 fc) σ H Q:=fun σ H Q gh=>by
 obtain⟨P,ρ,d,hP,rs,ef,k⟩:=gh
 obtain⟨d1,e1,ef⟩:=XBs ef
 obtain⟨d2,e2,ef⟩:=XBs ef
 obtain⟨z,e3,ef⟩:=XBs ef
 obtain⟨t,e4,ef2⟩:=XBs ef
 clear ef
 have ef:=ef2
 clear ef2
 cases sW e4
 refine⟨P,ρ,d1,hP,rs,e1,dB fun v H1 x1 r1=>⟨P,ρ,d2,hP.ext x1,rs.ext (cW x1),e2,dB fun u H2 x2 r2=>?_⟩⟩
 refine hg P H2 v u d1 d2 _ _ (hP.ext (x1.trans x2)) (r1.ext (cW x2)) r2 e3 (dB fun q H3 x3 r3=>⟨t,Aas.mp r3,?_⟩)
 cases t with
 | true=>
  obtain⟨d3,e5,ef⟩:=XBs (show((fc ρ).bind fun c=>g' d2 c)=some d by simpa using ef)
  exact qE ⟨P,ρ,d3,hP.ext ((x1.trans x2).trans x3),rs.ext (cW ((x1.trans x2).trans x3)),e5,dB fun w H4 x4 r4=>
   hg' P H4 u w d2 d3 d Q (hP.ext (((x1.trans x2).trans x3).trans x4)) (r2.ext (cW (x3.trans x4))) r4 ef (k.mono (((x1.trans x2).trans x3).trans x4))⟩
 | false=>
  have:eO false=d:=by simpa using ef
  subst this
  exact rG (k.zero ((x1.trans x2).trans x3) (Aas.mpr rfl))
end
abbrev Slot:=Option (Nat×aA)
abbrev bE:=List Slot
noncomputable def vS (ρ:bE):List (Option aA):=ρ.map fun s=>match s with | some (0,d)=>some d | _=>none
noncomputable def vA (ρ:bE):List (Option aA):=ρ.map fun s=>s.map (·.2)
theorem Hx {ρ:bE}{i:Nat}{d:aA}(h:(vS ρ)[i]?=some (some d)):ρ[i]?=some (some (0,d)):=by
 unfold vS at h
 rw[fM] at h
 cases e:ρ[i]? with
 | none=>rw[e] at h; simp at h
 | some s=>
  rw[e] at h
  simp only[tW,FT] at h
  cases s with
  | none=>simp at h
  | some q=>
   obtain⟨n,d'⟩:=q
   cases n with
   | zero=>simp at h; rw[h]
   | succ n=>simp at h
theorem Gx {ρ:bE}{i:Nat}{d:aA}(h:(vA ρ)[i]?=some (some d)) : ∃ n,ρ[i]?=some (some (n,d)):=by
 unfold vA at h
 rw[fM] at h
 cases e:ρ[i]? with
 | none=>rw[e] at h; simp at h
 | some s=>
  rw[e] at h
  cases s with
  | none=>simp at h
  | some q=>
   obtain⟨n,d'⟩:=q
   simp at h
   exact⟨n,by rw[h]⟩
abbrev Hd (P0:aD->Prop)(fp:Nat->List aD):aD->Prop:=fun a=>P0 a \/ ∃ i,a∈fp i
structure Sta (K:aK)(H0:Hp)(P0:aD->Prop)(B0:Hp)(ρ:bE)(σ:St)(H:Hp)(fp:Nat->List aD):Prop where
 len:σ.length=ρ.length
 nd : ∀ i,(fp i).Nodup
 dj : ∀ i j a,a∈fp i->a∈fp j->i=j
 own : ∀ i a,a∈fp i->H0 a=none/\((∃ xs,H a=some (.lst xs)) \/ ∃ q:DQ,H a=some (dO q))
 ext:Ext H0 H
 hd:Hid P0 H0
 base:Ext B0 (hid H (Hd P0 fp))
 slot : ∀ (i:Nat) n d,ρ[i]?=some (some (n,d)) -> ∃ v,σ[i]?=some (some v)/\Ajb K (hid H (Hd P0 fp)) H n d v (fp i)
section
variable {K:aK}{H0 H H' B0:Hp}{P0:aD->Prop}{ρ:bE}{σ:St}{fp:Nat->List aD}
theorem Sta.hid (S:Sta K H0 P0 B0 ρ σ H fp):Hid (Hd P0 fp) H:=fun a h=>by
 rcases h with h | ⟨i,h⟩
 ·exact S.hd.ext S.ext a h
 ·exact(S.own i a h).2
theorem Sta.np (S:Sta K H0 P0 B0 ρ σ H fp){i:Nat}{a:aD}(m:a∈fp i) : ¬ P0 a:=S.hd.new (S.own i a m).1
theorem Sta.grow (S:Sta K H0 P0 B0 ρ σ H fp)(x:Ext H H'):Sta K H0 P0 B0 ρ σ H' fp:=by
 refine⟨S.len,S.nd,S.dj,fun i a m=>⟨(S.own i a m).1,(S.own i a m).2.imp (fun⟨xs,e⟩=>⟨xs,x _ _ e⟩) fun⟨xs,e⟩=>⟨xs,x _ _ e⟩⟩,S.ext.trans x,S.hd,S.base.trans (cW x),fun i n d e=>?_⟩
 obtain⟨v,h1,h2⟩:=S.slot i n d e
 refine⟨v,h1,h2.keep (cW x) fun a m=>?_⟩
 rcases(S.own i a m).2 with⟨xs,e⟩ | ⟨xs,e⟩
 ·rw[e,x _ _ e]
 ·rw[e,x _ _ e]
theorem Sta.viewS (S:Sta K H0 P0 B0 ρ σ H fp):Alx K (L2.hid H (Hd P0 fp)) (vS ρ) σ:=fun i d e=>by
 obtain⟨v,h1,h2⟩:=S.slot i 0 d (Hx e)
 exact⟨v,h1,h2.2⟩
theorem Sta.viewA (S:Sta K H0 P0 B0 ρ σ H fp):Alx K (L2.hid H P0) (vA ρ) σ:=fun i d e=>by
 obtain⟨n,e⟩:=Gx e
 obtain⟨v,h1,h2⟩:=S.slot i n d e
 exact⟨v,h1,h2.share (jZ fun a p=>.inl p) fun a m o e=>kP (S.np m) e⟩
def Tmp (K:aK)(H0:Hp)(P0:aD->Prop)(B0:Hp)(ρ:bE)(σ:St)(n:Nat)(d:aA)(v:V)(H:Hp):Prop:=
 ∃ fp,Sta K H0 P0 B0 ρ σ H fp/\Ajb K (L2.hid H (Hd P0 fp)) H n d v (fp ρ.length)
inductive Md | s | a
noncomputable def GP (ρ:bE):Bool:=ρ.all fun s=>match s with
 | some (0,_)=>true
 | some (1,.dict _)=>true
 | none=>true
 | _=>false
noncomputable def GS (ρ:bE):Bool:=ρ.all fun s=>match s with
 | some (9,_)=>false
 | _=>true
noncomputable def eV (n:Nat)(m:Md)(f:EF)(ρ:bE):Option aA:=match m with
 | .s=>f (vS ρ)
 | .a=>(f (vA ρ)).bind fun d=>if (iL n d||(GP ρ&&decide (n<9)&&jU n d)||(GS ρ&&decide (n=0)&&ftD d))=true then some d else none
noncomputable def bV (m:Md)(f:BF)(ρ:bE):Option Bool:=match m with
 | .s=>f (vS ρ)
 | .a=>f (vA ρ)
noncomputable def aV (m:Md)(f:AF)(ρ:bE):Option (List aA):=match m with
 | .s=>f (vS ρ)
 | .a=>f (vA ρ)
noncomputable def tE (K:aK)(H0:Hp)(P0:aD->Prop)(n:Nat)(m:Md)(f:EF):TE:=fun σ H Q=>∃ B0 ρ fp d,Sta K H0 P0 B0 ρ σ H fp/\eV n m f ρ=some d /\ ∀ v H',Tmp K H0 P0 B0 ρ σ n d v H'->Q v H'
end
section
variable {X:Cx}{H0:Hp}{P0:aD->Prop}{e:aW}{n:Nat}
theorem Sta.trim {K:aK}{B0:Hp}{ρ:bE}{σ:St}{H:Hp}{fp:Nat->List aD}(S:Sta K H0 P0 B0 ρ σ H fp) : ∃ fp',Sta K H0 P0 B0 ρ σ H fp' /\ ∀ i a,a∈fp' i->a∈fp i /\ ∃ n d,ρ[i]?=some (some (n,d)):=by
 let fp':Nat->List aD:=fun i=>match ρ[i]? with
  | some (some _)=>fp i
  | _=>[]
 have sub : ∀ i a,a∈fp' i->a∈fp i /\ ∃ n d,ρ[i]?=some (some (n,d)):=fun i a m=>by
  have m:a∈(match ρ[i]? with | some (some _)=>fp i | _=>[]):=m
  split at m
  ·rename_i x e
   exact⟨m,x.1,x.2,e⟩
  ·simp at m
 have same : ∀ i n d,ρ[i]?=some (some (n,d))->fp' i=fp i:=fun i n d e=>by
  show(match ρ[i]? with | some (some _)=>fp i | _=>[])=fp i
  rw[e]
 have xb:Ext (L2.hid H (Hd P0 fp)) (L2.hid H (Hd P0 fp')):=jZ fun a h=>h.imp id fun⟨i,m⟩=>⟨i,(sub i a m).1⟩
 refine⟨fp',⟨S.len,fun i=>?_,fun i j a h1 h2=>S.dj i j a (sub i a h1).1 (sub j a h2).1,fun i a m=>S.own i a (sub i a m).1,S.ext,S.hd,S.base.trans xb,fun i n d e=>?_⟩,sub⟩
 ·show(match ρ[i]? with | some (some _)=>fp i | _=>[]).Nodup
  split
  ·exact S.nd i
  ·exact List.nodup_nil
 ·obtain⟨v,h1,h2⟩:=S.slot i n d e
  rw[same i n d e]
  exact⟨v,h1,h2.keep xb fun a m=>rfl⟩
theorem Sta.dicts {K:aK}{B0:Hp}{ρ:bE}{σ:St}{H:Hp}{fp:Nat->List aD}(S:Sta K H0 P0 B0 ρ σ H fp)(ho:GP ρ=true){i:Nat}{a:aD}{n:Nat}{d:aA}(m:a∈fp i)(e:ρ[i]?=some (some (n,d))) : ∃ q,H a=some (dO (.inl q)):=by
 have:=dZ.mp ho _ (iH e)
 obtain⟨v,h1,h2⟩:=S.slot i n d e
 split at this
 ·rename_i z
  cases z
  rw[h2.1] at m
  simp at m
 ·rename_i kds z
  cases z
  obtain⟨p,xs,Fs,_,hp,hF,h3⟩:=h2
  have hn : ∀ {ds:List (aA×aA)} {ys:List (aO×V)} {Gs:List (List aD)},All3 (fun(kd:aA×aA) (kv:aO×V) f=>kd.1=kD kv.1/\Agd K (L2.hid H (Hd P0 fp)) H 0 kd.2 kv.2 f) ds ys Gs->Gs.flatten=[]:=fun q=>by
   induction q with
   | nil=>rfl
   | cons h _ ih=>rw[uB,h.2.1,ih]; rfl
  rw[hF,hn h3] at m
  rw[dX.mp m]
  exact⟨xs,hp⟩
 ·rename_i z
  cases z
 ·cases this
theorem Sta.no9 {K:aK}{B0:Hp}{ρ:bE}{σ:St}{H:Hp}{fp:Nat->List aD}(S:Sta K H0 P0 B0 ρ σ H fp)(ho:GS ρ=true){i:Nat}{a:aD}{n:Nat}{d:aA}(m:a∈fp i)(e:ρ[i]?=some (some (n,d))) : ∀ q,H a≠some (dO (.inr q)):=fun q z=>by
 have:=dZ.mp ho _ (iH e)
 have n9:n≠9:=fun w=>by subst w; simp at this
 obtain⟨v,h1,h2⟩:=S.slot i n d e
 unfold Ajb at h2
 rw[if_neg n9] at h2
 rcases h2.mut1 a m with⟨xs,w⟩ | ⟨p,w⟩ <;> rw[z] at w <;> cases w
theorem BR {K:aK}{f:EF}(m:Md) : ∀ σ H Q,tE K H0 P0 n m f σ H Q->tF K n f σ H Q:=fun σ H Q gh=>by
 obtain⟨B0,ρ,fp,d,S,ef,k⟩:=gh
 cases m with
 | s=>
  refine⟨Hd P0 fp,vS ρ,d,S.hid,S.viewS,ef,fun v H' Fr x nd fr r=>k v H' ?_⟩
  have S':=S.grow x
  have hsub : ∀ a,Hd P0 (fun i=>if i=ρ.length then Fr else fp i) a->orL (Hd P0 fp) Fr a:=fun a h=>by
   rcases h with h | ⟨i,h⟩
   ·exact .inl (.inl h)
   ·by_cases hi:i=ρ.length
    ·simp only[hi,if_true] at h; exact .inr h
    ·simp only[hi,if_false] at h; exact .inl (.inr ⟨i,h⟩)
  have nfr : ∀ i a,a∈fp i->a∉Fr:=fun i a h1 h2=>by
   have:=(fr a h2).1
   rcases(S.own i a h1).2 with⟨xs,e⟩ | ⟨xs,e⟩ <;> rw[this] at e <;> first | cases e | (cases xs <;> simp[dO] at e)
  have xb:Ext (L2.hid H (Hd P0 fp)) (L2.hid H' (Hd P0 fun i=>if i=ρ.length then Fr else fp i)):=fun b o e=>by
   obtain⟨nb,e⟩:=Afm.mp e
   refine kP (fun q=>?_) (x _ _ e)
   rcases q with q | ⟨j,q⟩
   ·exact nb (.inl q)
   ·by_cases hj:j=ρ.length
    ·simp only[hj,if_true] at q; rw[(fr b q).1] at e; cases e
    ·simp only[hj,if_false] at q; exact nb (.inr ⟨j,q⟩)
  refine⟨fun i=>if i=ρ.length then Fr else fp i,⟨S.len,fun i=>?_,fun i j a hi hj=>?_,fun i a hi=>?_,S'.ext,S.hd,S.base.trans xb,fun i n' d' e'=>?_⟩,?_⟩
  ·by_cases hi:i=ρ.length
   ·simp only[hi,if_true]; exact nd
   ·simp only[hi,if_false]; exact S.nd i
  ·by_cases h1:i=ρ.length <;> by_cases h2:j=ρ.length
   ·rw[h1,h2]
   ·simp only[h1,if_true] at hi; simp only[h2,if_false] at hj; exact absurd hi (nfr _ _ hj)
   ·simp only[h1,if_false] at hi; simp only[h2,if_true] at hj; exact absurd hj (nfr _ _ hi)
   ·simp only[h1,if_false] at hi; simp only[h2,if_false] at hj; exact S.dj i j a hi hj
  ·by_cases h1:i=ρ.length
   ·simp only[h1,if_true] at hi
    exact⟨S.ext.none (fr a hi).1,r.mut a hi⟩
   ·simp only[h1,if_false] at hi
    exact S'.own i a hi
  ·have hlt:=(fN.mp e').1
   have h1:i≠ρ.length:=by omega
   obtain⟨v',q1,q2⟩:=S'.slot i n' d' e'
   refine⟨v',q1,?_⟩
   simp only[h1,if_false]
   obtain⟨v2,p1,p2⟩:=S.slot i n' d' e'
   have ev:=gU (gU (p1.symm.trans q1))
   subst ev
   refine p2.keep xb fun a m=>?_
   rcases(S.own i a m).2 with⟨xs,e⟩ | ⟨xs,e⟩
   ·rw[e,x _ _ e]
   ·rw[e,x _ _ e]
  ·simp only[if_true]
   exact r.keep (jZ hsub) fun a m=>rfl
 | a=>
  obtain⟨d',ed,ef⟩:=XBs ef
  obtain⟨fl,rfl⟩:=dS ef
  obtain⟨fp,S,trm⟩:=S.trim
  refine⟨P0,vA ρ,d',S.hd.ext S.ext,S.viewA,ed,fun v H' Fr x nd fr r=>k v H' ?_⟩
  have S':=S.grow x
  have nfr : ∀ i a,a∈fp i->a∉Fr:=fun i a h1 h2=>by
   have:=(fr a h2).1
   rcases(S.own i a h1).2 with⟨xs,e⟩ | ⟨xs,e⟩ <;> rw[this] at e <;> first | cases e | (cases xs <;> simp[dO] at e)
  have xb:Ext (L2.hid H (Hd P0 fp)) (L2.hid H' (Hd P0 fun i=>if i=ρ.length then Fr else fp i)):=fun b o e=>by
   obtain⟨nb,e⟩:=Afm.mp e
   refine kP (fun q=>?_) (x _ _ e)
   rcases q with q | ⟨j,q⟩
   ·exact nb (.inl q)
   ·by_cases hj:j=ρ.length
    ·simp only[hj,if_true] at q; rw[(fr b q).1] at e; cases e
    ·simp only[hj,if_false] at q; exact nb (.inr ⟨j,q⟩)
  refine⟨fun i=>if i=ρ.length then Fr else fp i,⟨S.len,fun i=>?_,fun i j a hi hj=>?_,fun i a hi=>?_,S'.ext,S.hd,S.base.trans xb,fun i n' d' e'=>?_⟩,?_⟩
  ·by_cases hi:i=ρ.length
   ·simp only[hi,if_true]; exact nd
   ·simp only[hi,if_false]; exact S.nd i
  ·by_cases h1:i=ρ.length <;> by_cases h2:j=ρ.length
   ·rw[h1,h2]
   ·simp only[h1,if_true] at hi; simp only[h2,if_false] at hj; exact absurd hi (nfr _ _ hj)
   ·simp only[h1,if_false] at hi; simp only[h2,if_true] at hj; exact absurd hj (nfr _ _ hi)
   ·simp only[h1,if_false] at hi; simp only[h2,if_false] at hj; exact S.dj i j a hi hj
  ·by_cases h1:i=ρ.length
   ·simp only[h1,if_true] at hi
    exact⟨S.ext.none (fr a hi).1,r.mut a hi⟩
   ·simp only[h1,if_false] at hi
    exact S'.own i a hi
  ·have hlt:=(fN.mp e').1
   have h1:i≠ρ.length:=by omega
   obtain⟨v2,p1,p2⟩:=S.slot i n' d' e'
   refine⟨v2,p1,?_⟩
   simp only[h1,if_false]
   refine p2.keep xb fun a m=>?_
   rcases(S.own i a m).2 with⟨xs,e⟩ | ⟨xs,e⟩
   ·rw[e,x _ _ e]
   ·rw[e,x _ _ e]
  ·simp only[if_true]
   have up : ∀ a o,(L2.hid H' (orL P0 Fr)) a=some o->((∃ xs,o = .tup xs) \/ (GP ρ=true /\ ∀ q,o≠dO (.inl q)) \/ (GS ρ=true /\ ∃ q,o=dO (.inr q)))->(L2.hid H' (Hd P0 fun i=>if i=ρ.length then Fr else fp i)) a=some o:=fun a o e ho=>by
    obtain⟨na,e⟩:=Afm.mp e
    refine kP (fun q=>?_) e
    rcases q with q | ⟨j,q⟩
    ·exact na (.inl q)
    ·by_cases hj:j=ρ.length
     ·simp only[hj,if_true] at q; exact na (.inr q)
     ·simp only[hj,if_false] at q
      rcases ho with⟨xs,rfl⟩ | ⟨ho,hq⟩ | ⟨ho,qq,rfl⟩
      ·rcases(S'.own j a q).2 with⟨ys,e2⟩ | ⟨ys,e2⟩ <;> rw[e] at e2 <;> first | cases e2 | (cases ys <;> simp[dO] at e2)
      ·obtain⟨_,n',d',e'⟩:=trm j a q
       obtain⟨z,ez⟩:=S'.dicts ho q e'
       rw[e] at ez
       injection ez with ez
       exact hq z ez
      ·obtain⟨_,n',d',e'⟩:=trm j a q
       exact absurd e (S'.no9 ho q e' qq)
   rcases Bool.or_eq_true_iff.mp fl with fl | fl3
   rcases Bool.or_eq_true_iff.mp fl with fl | fl
   ·exact r.flat (fun a xs e=>up a _ e (.inl ⟨xs,rfl⟩)) fl
   ·have fl:=qB.mp fl
    have fl1:=qB.mp fl.1
    exact r.nd (fun a o e hq=>up a o e (.inr (.inl ⟨fl1.1,hq⟩))) (of_decide_eq_true fl1.2) fl.2
   ·have fl:=qB.mp fl3
    have fl1:=qB.mp fl.1
    have z:=of_decide_eq_true fl1.2
    subst z
    exact⟨r.1,r.2.ft (fun a o e hq=>up a o e (hq.imp id fun hq=>.inr ⟨fl1.1,hq⟩)) _ fl.2⟩
theorem ev {f:EF}(m:Md)(h:DF n X e f):PE X e (tE X.K H0 P0 n m f):=PE.imp h (BR m)
noncomputable def tB' (K:aK)(H0:Hp)(P0:aD->Prop)(m:Md)(f:BF):TT:=fun σ H Q=>∃ B0 ρ fp b,Sta K H0 P0 B0 ρ σ H fp/\bV m f ρ=some b /\ ∀ H',Sta K H0 P0 B0 ρ σ H' fp->Q b H'
theorem evB {f:BF}(m:Md)(h:DT X e f):PT X e (tB' X.K H0 P0 m f):=PT.imp h fun σ H Q gh=>by
 obtain⟨B0,ρ,fp,b,S,ef,k⟩:=gh
 cases m with
 | s=>exact⟨Hd P0 fp,vS ρ,b,S.hid,S.viewS,ef,fun H' x=>k H' (S.grow x)⟩
 | a=>exact⟨P0,vA ρ,b,S.hd.ext S.ext,S.viewA,ef,fun H' x=>k H' (S.grow x)⟩
end
inductive Out where
 | nx (ρ:bE) | rt (d:aA) | bk (ρ:bE) | ct (ρ:bE)
abbrev SF:=bE->Option Out
def NG (K:aK)(H0:Hp)(P0:aD->Prop)(n0:Nat)(d:aA)(v:V)(H':Hp):Prop:=
 ∃ Fr,Ext H0 H'/\Fr.Nodup/\(∀ a∈Fr,H0 a=none /\ ∃ o,H' a=some o)/\Ajb K (hid H' (orL P0 Fr)) H' n0 d v Fr
def EW (K:aK)(H0:Hp)(P0:aD->Prop)(B0:Hp)(n0:Nat)(D:Ends):Out->Prop
 | .nx ρ=>∀ σ H fp,Sta K H0 P0 B0 ρ σ H fp->D.nx σ H
 | .bk ρ=>∀ σ H fp,Sta K H0 P0 B0 ρ σ H fp->D.bk σ H
 | .ct ρ=>∀ σ H fp,Sta K H0 P0 B0 ρ σ H fp->D.ct σ H
 | .rt d=>∀ v H',NG K H0 P0 n0 d v H'->D.rt v H'
noncomputable def tS (K:aK)(H0:Hp)(P0:aD->Prop)(n0:Nat)(F:SF):TS:=fun D σ H=>∃ B0 ρ fp o,Sta K H0 P0 B0 ρ σ H fp/\F ρ=some o/\EW K H0 P0 B0 n0 D o
abbrev DS (X:Cx)(H0:Hp)(P0:aD->Prop)(n0:Nat)(s:bR)(F:SF):Prop:=PS X s (tS X.K H0 P0 n0 F)
abbrev DSs (X:Cx)(H0:Hp)(P0:aD->Prop)(n0:Nat)(s:List bR)(F:SF):Prop:=PSs X s (tS X.K H0 P0 n0 F)
section
variable {X:Cx}{H0:Hp}{P0:aD->Prop}{n0 n:Nat}{s:bR}{ss:List bR}{F G:SF}{e:aW}{f:EF}{pos:cC}
theorem PS.imp {t t':TS}(h:PS X s t)(w : ∀ D σ H,t' D σ H->t D σ H):PS X s t':=fun pins st σ H D I q=>h pins st σ H D I (w _ _ _ q)
theorem PSs.imp {t t':TS}(h:PSs X ss t)(w : ∀ D σ H,t' D σ H->t D σ H):PSs X ss t':=fun pins st σ H D I q=>h pins st σ H D I (w _ _ _ q)
noncomputable def dI:SF:=fun ρ=>some (.nx ρ)
noncomputable def bC (F G:SF):SF:=fun ρ=>(F ρ).bind fun o=>match o with
 | .nx ρ'=>G ρ'
 | o=>some o
theorem eW:DSs X H0 P0 n0 [] dI:=PSs.imp ZJ fun D σ H gh=>by
 obtain⟨B0,ρ,fp,o,S,ef,k⟩:=gh
 cases ef
 exact k σ H fp S
theorem bO (h:DS X H0 P0 n0 s F):DSs X H0 P0 n0 [s] F:=ZF h
theorem bL (h:DS X H0 P0 n0 s F)(h2:DSs X H0 P0 n0 ss G):DSs X H0 P0 n0 (s::ss) (bC F G):=PSs.imp (Wb h h2) fun D σ H gh=>by
 obtain⟨B0,ρ,fp,o,S,ef,k⟩:=gh
 obtain⟨o1,e1,ef⟩:=XBs ef
 refine⟨B0,ρ,fp,o1,S,e1,?_⟩
 cases o1 with
 | nx ρ1=>exact fun σ1 H1 fp1 S1=>⟨B0,ρ1,fp1,o,S1,ef,k⟩
 | rt d=>cases ef; exact k
 | bk ρ1=>cases ef; exact k
 | ct ρ1=>cases ef; exact k
noncomputable def sIf (m:Md)(t:BF)(F G:SF):SF:=fun ρ=>(bV m t ρ).bind fun b=>if b=true then F ρ else G ρ
theorem eU {c:aW}{a b:List bR}{t:BF}(m:Md)(hc:DT X c t)(ha:DSs X H0 P0 n0 a F)(hb:DSs X H0 P0 n0 b G):DS X H0 P0 n0 (.If c a b pos) (sIf m t F G):=
 PS.imp (Fh (evB m hc) ha hb) fun D σ H gh=>by
  obtain⟨B0,ρ,fp,o,S,ef,k⟩:=gh
  obtain⟨b,e1,ef⟩:=XBs ef
  refine⟨B0,ρ,fp,b,S,e1,fun H1 S1=>?_⟩
  cases b with
  | true=>exact qE ⟨B0,ρ,fp,o,S1,by simpa using ef,k⟩
  | false=>exact rG ⟨B0,ρ,fp,o,S1,by simpa using ef,k⟩
noncomputable def frz (i:Nat)(ρ:bE):bE:=match ρ[i]? with
 | some (some (_,d))=>ρ.set i (some (0,d))
 | _=>ρ
theorem Sta.frz {K:aK}{H B0:Hp}{ρ:bE}{σ:St}{fp:Nat->List aD}(S:Sta K H0 P0 B0 ρ σ H fp)(i:Nat) : ∃ fp',Sta K H0 P0 B0 (L2.frz i ρ) σ H fp':=by
 unfold L2.frz
 cases e:ρ[i]? with
 | none=>exact⟨fp,S⟩
 | some s=>
  cases s with
  | none=>exact⟨fp,S⟩
  | some q=>
   obtain⟨n,d⟩:=q
   have hi:=(fN.mp e).1
   have hsub : ∀ a,Hd P0 (fun j=>if j=i then [] else fp j) a->Hd P0 fp a:=fun a h=>by
    rcases h with h | ⟨j,h⟩
    ·exact .inl h
    ·by_cases hj:j=i
     ·simp only[hj,if_true] at h; simp at h
     ·simp only[hj,if_false] at h; exact .inr ⟨j,h⟩
   refine⟨fun j=>if j=i then [] else fp j,⟨by simp[S.len],fun j=>?_,fun j k a h1 h2=>?_,fun j a h1=>?_,S.ext,S.hd,S.base.trans (jZ hsub),fun j n' d' e'=>?_⟩⟩
   ·by_cases hj:j=i
    ·simp only[hj,if_true]; exact .nil
    ·simp only[hj,if_false]; exact S.nd j
   ·by_cases hj:j=i
    ·simp only[hj,if_true] at h1; simp at h1
    ·by_cases hk:k=i
     ·simp only[hk,if_true] at h2; simp at h2
     ·simp only[hj,if_false] at h1; simp only[hk,if_false] at h2; exact S.dj j k a h1 h2
   ·by_cases hj:j=i
    ·simp only[hj,if_true] at h1; simp at h1
    ·simp only[hj,if_false] at h1; exact S.own j a h1
   ·by_cases hj:j=i
    ·subst hj
     rw[rP hi] at e'
     cases e'
     obtain⟨v,h1,h2⟩:=S.slot j n d e
     refine⟨v,h1,?_⟩
     simp only[if_true]
     refine⟨rfl,h2.share (jZ hsub) fun a m o q=>kP (fun z=>?_) q⟩
     rcases z with z | ⟨k,z⟩
     ·exact S.np m z
     ·by_cases hk:k=j
      ·simp only[hk,if_true] at z; simp at z
      ·simp only[hk,if_false] at z; exact hk (S.dj k j a z m)
    ·rw[rQ (fun z=>hj z.symm)] at e'
     obtain⟨v,h1,h2⟩:=S.slot j n' d' e'
     refine⟨v,h1,?_⟩
     simp only[hj,if_false]
     exact h2.keep (jZ hsub) fun a m=>rfl
noncomputable def pM (i:Nat)(F:SF):SF:=fun ρ=>F (frz i ρ)
theorem sT (i:Nat)(h:DSs X H0 P0 n0 ss F):DSs X H0 P0 n0 ss (pM i F):=PSs.imp h fun D σ H ⟨B0,ρ,fp,o,S,ef,k⟩=>let ⟨fp',S'⟩:=S.frz i; ⟨B0,_,fp',o,S',ef,k⟩
theorem Tmp.set {K:aK}{H B0:Hp}{ρ:bE}{σ:St}{d:aA}{v:V}{i:Nat}(t:Tmp K H0 P0 B0 ρ σ n d v H)(hi:i<ρ.length) : ∃ fp,Sta K H0 P0 B0 (ρ.set i (some (n,d))) (σ.set i (some v)) H fp:=by
 obtain⟨fp,S,r⟩:=t
 have hne:ρ.length≠i:=by omega
 have hsub : ∀ a,Hd P0 (fun j=>if j=i then fp ρ.length else if j=ρ.length then [] else fp j) a->Hd P0 fp a:=fun a h=>by
  rcases h with h | ⟨j,h⟩
  ·exact .inl h
  ·by_cases hj:j=i
   ·simp only[hj,if_true] at h; exact .inr ⟨_,h⟩
   ·by_cases hk:j=ρ.length
    ·simp only[hj,if_false,hk,if_true] at h
     rw[if_neg hne] at h
     simp at h
    ·simp only[hj,if_false,hk] at h; exact .inr ⟨j,h⟩
 have src : ∀ j a,a∈(if j=i then fp ρ.length else if j=ρ.length then [] else fp j)->(j=i/\a∈fp ρ.length) \/ (j≠i/\j≠ρ.length/\a∈fp j):=fun j a h=>by
  by_cases hj:j=i
  ·simp only[hj,if_true] at h; exact .inl ⟨hj,h⟩
  ·by_cases hk:j=ρ.length
   ·rw[if_neg hj,if_pos hk] at h; simp at h
   ·rw[if_neg hj,if_neg hk] at h; exact .inr ⟨hj,hk,h⟩
 refine⟨fun j=>if j=i then fp ρ.length else if j=ρ.length then [] else fp j,⟨by simp[S.len],fun j=>?_,fun j k a h1 h2=>?_,fun j a h1=>?_,S.ext,S.hd,S.base.trans (jZ hsub),fun j n' d' e'=>?_⟩⟩
 ·by_cases hj:j=i
  ·rw[if_pos hj]; exact S.nd _
  ·by_cases hk:j=ρ.length
   ·rw[if_neg hj,if_pos hk]; exact .nil
   ·rw[if_neg hj,if_neg hk]; exact S.nd _
 ·rcases src j a h1 with⟨e1,m1⟩ | ⟨e1,l1,m1⟩ <;> rcases src k a h2 with⟨e2,m2⟩ | ⟨e2,l2,m2⟩
  ·rw[e1,e2]
  ·exact absurd (S.dj _ _ a m2 m1) l2
  ·exact absurd (S.dj _ _ a m1 m2) l1
  ·exact S.dj j k a m1 m2
 ·rcases src j a h1 with⟨e1,m1⟩ | ⟨e1,l1,m1⟩
  ·exact S.own _ a m1
  ·exact S.own _ a m1
 ·by_cases hj:j=i
  ·subst hj
   rw[rP hi] at e'
   cases e'
   refine⟨v,?_,?_⟩
   ·rw[rP (by rw[S.len]; exact hi)]
   ·rw[if_pos rfl]
    exact r.keep (jZ hsub) fun a m=>rfl
  ·rw[rQ (fun z=>hj z.symm)] at e'
   have hlt:=(fN.mp e').1
   have hk:j≠ρ.length:=by omega
   obtain⟨v',h1,h2⟩:=S.slot j n' d' e'
   refine⟨v',?_,?_⟩
   ·rw[rQ (fun z=>hj z.symm)]; exact h1
   ·rw[if_neg hj,if_neg hk]
    exact h2.keep (jZ hsub) fun a m=>rfl
noncomputable def bX (i n:Nat)(m:Md)(f:EF):SF:=fun ρ=>(eV n m f ρ).bind fun d=>if i<ρ.length then some (.nx (ρ.set i (some (n,d)))) else none
theorem cS {i:Nat}{x:aB}{pos':cC}(n:Nat)(m:Md)(hN:X.N.Nodup)(hi:X.N[i]?=some x)(hx:nV X.env.scope x)(he:DF n X e f)(hs:pT e (some (.Name x pos')) pos.line X.env=pure false:=by rfl)(hf:X.fn x=true \/ X.env.scope.names.lookup x=some .local:=by first | exact .inl rfl | exact .inr rfl | assumption) :
  DS X H0 P0 n0 (.Assign [.Name x pos'] e pos) (bX i n m f):=PS.imp (PQ hN hi hx (ev m he) hs hf) fun D σ H gh=>by
 obtain⟨B0,ρ,fp,o,S,ef,k⟩:=gh
 obtain⟨d,e1,ef⟩:=XBs ef
 obtain⟨hl,rfl⟩:=dS ef
 refine⟨B0,ρ,fp,d,S,e1,fun v H' t=>?_⟩
 obtain⟨fp',S'⟩:=t.set hl
 exact k _ _ fp' S'
theorem Tmp.ret {K:aK}{H B0:Hp}{ρ:bE}{σ:St}{d:aA}{v:V}(t:Tmp K H0 P0 B0 ρ σ n d v H):NG K H0 P0 n d v H:=by
 obtain⟨fp,S,r⟩:=t
 refine⟨fp ρ.length,S.ext,S.nd _,fun a m=>⟨(S.own _ a m).1,?_⟩,r.keep (jZ fun a h=>?_) fun a m=>rfl⟩
 ·rcases(S.own _ a m).2 with⟨xs,e⟩ | ⟨xs,e⟩
  ·exact⟨_,e⟩
  ·exact⟨_,e⟩
 ·rcases h with h | h
  ·exact .inl h
  ·exact .inr ⟨_,h⟩
noncomputable def bY (n:Nat)(m:Md)(f:EF):SF:=fun ρ=>(eV n m f ρ).bind fun d=>some (.rt d)
theorem cJ (m:Md)(he:DF n0 X e f):DS X H0 P0 n0 (.Return (some e) pos) (bY n0 m f):=PS.imp (LO (ev m he)) fun D σ H gh=>by
 obtain⟨B0,ρ,fp,o,S,ef,k⟩:=gh
 obtain⟨d,e1,ef⟩:=XBs ef
 cases ef
 exact⟨B0,ρ,fp,d,S,e1,fun v H' t=>k v H' t.ret⟩
noncomputable def sH (i n0:Nat):SF:=fun ρ=>match ρ[i]? with
 | some (some (n,d))=>if n=n0 then some (.rt d) else none
 | _=>none
theorem yG (i:Nat){x:aB}{p:cC}(hN:X.N[i]?=some x:=by rfl)(hv:nU X.env.scope x:=by first | exact aX rfl | exact bD (aX rfl) | exact bD (bD rfl))(hd:(x == ("__debug__" : aB))=false:=by decide)
  (hcd:(x == ("__classdict__" : aB))=false:=by decide):DS X H0 P0 n0 (.Return (some (.Name x p)) pos) (sH i n0):=PS.imp (LO (sN hN hv hd hcd)) fun D σ H gh=>by
 obtain⟨B0,ρ,fp,o,S,ef,k⟩:=gh
 unfold sH at ef
 cases e:ρ[i]? with
 | none=>rw[e] at ef; simp at ef
 | some q=>
  cases q with
  | none=>rw[e] at ef; simp at ef
  | some q=>
   obtain⟨n,d⟩:=q
   rw[e] at ef
   obtain⟨rfl,rfl⟩:=dS ef
   obtain⟨v,h1,h2⟩:=S.slot i n d e
   refine⟨v,h1,k v H ⟨fp i,S.ext,S.nd i,fun a m=>⟨(S.own i a m).1,?_⟩,h2.keep (jZ fun a h=>?_) fun a m=>rfl⟩⟩
   ·rcases(S.own i a m).2 with⟨xs,e⟩ | ⟨xs,e⟩
    ·exact⟨_,e⟩
    ·exact⟨_,e⟩
   ·rcases h with h | h
    ·exact .inl h
    ·exact .inr ⟨_,h⟩
end
section
variable {X:Cx}
theorem Qk:Aeq X (.builtin "isinstance") (fun xs H Q=>∃ x T t b,xs=[x,.ty T]/\TyOf X.K H x t/\Ay X.K t (.type T)=some b/\Q (.bl b) H):=by
 intro pins s σ H xs us Q I r h
 obtain⟨x,T,t,b,rfl,ty,e,q⟩:=h
 obtain⟨u,w',rfl,ru,rw'⟩:=vals2 r
 cases rw'
 exact Yv I ru ty e fun tk=>⟨.bl b,H,I.tok tk,rfl,q⟩
end
section
variable {X:Cx}
noncomputable def BM (x:aB):It:=⟨fun i _=>i<x.cps.size,fun i H v H'=>H'=H /\ ∃ c,x.cps[i]?=some c/\v = .str ⟨#[c]⟩,fun i _=>x.cps.size≤i⟩
theorem UY {P:bS}{w:bB}{K:aK}{tg:aW}{it:aD}{x:aB}{tk0:Tok}{ty:String}
  (W : ∀ A':cE,A'.handled=none->Walks P w A' it [it] [it] x.cps.size (SignAt x) (fun i h=>h.IsStrIter it ty x tk0 i))
  (sf : ∀ (A:cE) (i:Nat) (s:aG) (Q:aE->aG->Prop) (E:aE->aG->Prop),s.heap.IsStrIter it ty x tk0 i->Q (.ref it) s->aN (aR P w) A (oP (.ref it)) Q E s)
  (hno:["enumerate","zip","dict_itemiterator","dict_reverseitemiterator","odict_iterator","itertools.zip_longest","itertools.pairwise"].contains ty=false) :
  Turn P w K tg (BM x) [it] it (fun i h=>h.IsStrIter it ty x tk0 i/\i≤x.cps.size) where
 mem:=by simp
 obj:=fun i h st b hb=>by
  have e:b=it:=by simpa using hb
  subst e
  obtain⟨o,e,_,d⟩:=st.1
  exact⟨o,e,fun v z=>by rw[d] at z; cases z⟩
 keep:=fun i h h' st k=>⟨let ⟨o,e,r⟩:=st.1; ⟨o,k it (by simp) o e,r⟩,st.2⟩
 item:=by
  intro X hP hw hK hc i pins s σ H E I hf st hg
  subst hP hw hK
  obtain⟨f0,f1,f2,f3,f4,f5⟩:=hf it (by simp)
  refine(W X.A (I.ok.hd hc)).item i s _ _ hg st.1 fun v h' tk hv st' kk=>?_
  obtain⟨c,u,hcx,rfl⟩:=hv
  have I1:Inv X pins σ H { s with heap:=h',toks:=tk }:=I.turned (fun b o hb e=>kk b o (by simpa using hb) e) f0 f1 f3 f4 f5
  obtain⟨o,e,hcl,d⟩:=id st'
  exact⟨_,rfl,FB (s:={ s with heap:=h',toks:=tk }) e hcl d hno ⟨.str ⟨#[c]⟩,H,I1,⟨u,rfl⟩,⟨rfl,c,hcx,rfl⟩,⟨st',hg⟩,fun b hb=>(hf b hb).1⟩⟩
 done:=by
  intro X hP hw hK hc i pins s σ H E I hf st hg
  subst hP hw hK
  obtain⟨f0,f1,f2,f3,f4,f5⟩:=hf it (by simp)
  have hi:i=x.cps.size:=Nat.le_antisymm st.2 hg
  subst hi
  exact(W X.A (I.ok.hd hc)).done s _ _ st.1 fun h' tk kk=>⟨rfl,I.turned (fun b o hb e=>kk b o (by simpa using hb) e) f0 f1 f3 f4 f5⟩
 self:=fun A i s Q E st h=>sf A i s Q E st.1 h
noncomputable def Dy (tl:TE):TI:=fun σ H R=>tl σ H fun v H1=>∃ x,v = .str x/\R (BM x) H1
theorem Jb {X:Cx}{tg l:aW}{tl:TE}(hl:PE X l tl):PI X tg l (Dy tl):=by
 intro pins s σ H R I h
 refine thn (hl pins s σ H _ I h) fun v s1 gh=>?_
 obtain⟨y,H1,I1,r1,q1⟩:=gh
 obtain⟨x,rfl,q⟩:=q1
 obtain⟨t,rfl⟩:=r1
 have fin : ∀ (o:aY) (ty:String),Turn X.prog X.w X.K tg (BM x) [s1.heap.objs.size] s1.heap.objs.size (fun i h=>h.IsStrIter s1.heap.objs.size ty x t i/\i≤x.cps.size)->(s1.heap.push o).IsStrIter s1.heap.objs.size ty x t 0 ->
   PIE X pins σ tg R (.ref s1.heap.objs.size) { s1 with heap:=s1.heap.push o }:=fun o ty T st=>by
  refine⟨s1.heap.objs.size,[s1.heap.objs.size],_,_,H1,rfl,I1.kept fun b o e=>cP _ e,T,⟨st,fA _⟩,fun b hb=>?_,q⟩
  have e:b=s1.heap.objs.size:=by simpa using hb
  subst e
  exact I1.fpOk (bU _) (I1.hok.fresh (bU _))
 cases ha:x.cps.all (· < 128)
 ·exact wpAny_pyIter_wide ha (fin _ "str_iterator" (UY (fun A' hA=>Walks.strWide hA _ x t) (fun A i s Q E st h=>wpAny_pyIter_striter_wide st h) (by decide)) ⟨_,eP _ rfl,rfl,rfl⟩)
 ·exact wpAny_pyIter_ascii ha (fin _ "str_ascii_iterator" (UY (fun A' hA=>Walks.strAscii hA _ x t) (fun A i s Q E st h=>wpAny_pyIter_striter_ascii st h) (by decide)) ⟨_,eP _ rfl,rfl,rfl⟩)
noncomputable def allB (xs:List V):Bool:=xs.all fun v=>decide (v = .bl true)
theorem vT (hc:X.calm=true):Aeq X (.builtin "all") (fun xs H Q=>∃ p ys,xs=[.ref p]/\SqL X.K H p ys/\(∀ y∈ys,∃ b,y = .bl b)/\Q (.bl (allB ys)) H):=by
 intro pins s σ H xs us Q I r h
 obtain⟨p,ys,rfl,hs,hb,q⟩:=h
 obtain⟨u,rfl,ru⟩:=vals1 r
 cases ru
 obtain⟨its,rv,pl,hz⟩:=I.list hs
 have hl:=pl.isList
 have hlt:p<s.heap.objs.size:=by obtain⟨o,n,e,_⟩:=pl; exact cL e
 have hh:=I.ok.hd hc
 have len:=rv.length
 refine call_all_walk (LU hl ⟨s.heap.objs.size,_,_,_,_,_,fun i=>decide (ys[i]?=some (.bl true)),rfl,Walks.list (A:=X.A.in1) hh s.heap.objs.size p (cZ hlt) its.toArray,
  ⟨⟨_,eP _ rfl,rfl,rfl⟩,hl.at fun o e=>cP _ e⟩,?_,?_⟩)
 ·intro i v s' Q' E' hv hq
  have hv':its[i]?=some v:=by simpa using hv
  have hi:i<ys.length:=by rw[len]; exact(fN.mp hv').1
  obtain⟨b,hy⟩:=hb ys[i] (GB hi)
  have hy':ys[i]?=some (.bl b):=by rw[gV hi,hy]
  obtain⟨u',h1,h2⟩:=rv.get hy'
  rw[hv'] at h1; cases h1
  cases h2
  refine tN ?_
  have:decide (ys[i]?=some (V.bl true))=b:=by rw[hy']; cases b <;> simp
  have hq:Q' (decide (ys[i]?=some (V.bl true))) s':=hq
  rw[this] at hq
  exact hq
 ·intro h' tk hk
  have e:((cR its.toArray.size).all fun i=>decide (ys[i]?=some (V.bl true)))=allB ys:=by
   have hn:its.toArray.size=ys.length:=by simp[len]
   rw[hn]
   unfold allB
   rw[BL]
   simp only[dZ,iG,decide_eq_true_eq]
   constructor
   ·intro h v hv
    obtain⟨i,hi,rfl⟩:=List.getElem_of_mem hv
    have:=h i hi
    rw[gV hi] at this
    exact gU this
   ·intro h i hi
    rw[gV hi,h _ (GB hi)]
  rw[e]
  refine⟨.bl (allB ys),H,?_,rfl,q⟩
  exact I.kept fun b o eb=>hk b o (by simp; exact cZ (cL eb)) (cP _ eb)
end
structure Def (P:bS)(w:bB)(K:aK)(mg:aB->Option aE)(base:aU)(x:aB)(k:Nat)(ps:List aB)(sp:Sp):Prop where
 ex : ∃ f fd,FnOk P w K mg base CX0 k f fd ps sp/\mg x=some (.ref f)/\rL K (.ref f)=true/\Binds K fd ps []
section
variable {X:Cx}{x:aB}{k:Nat}{ps:List aB}{sp:Sp}{e:aW}{es:List aW}{t:TA}{p pos:cC}
theorem Iy (D:Def X.prog X.w X.K X.mg X.base x k ps sp)(hr:Room k X.A)(hg:Gl X x)(ha:PA X (e::es) t)(hdb:(x == ("__debug__" : aB))=false:=by decide)(he:bI (e::es) X.env=(false,bZ e X.env)::bI es X.env:=by rfl)
  (hpl:(eM pos (bI es X.env)).any (·.1)=false:=by rfl):PE X (.Call (.Name x p) (e::es) [] pos) (HB sp [] E0 t):=by
 obtain⟨f,fd,F,hm,hk,hb⟩:=D.ex
 exact ZK F hr hg hm hk hb .nil OC ha hdb he hpl
end
noncomputable def GX (a b:String):Option Bool:=if (iD a == iD b)=true then some true else if PySem.W.kitMeta b=true then(fastBuiltinMro a).map (·.contains (.type b)) else none
theorem Al6 {K:aK}{a b:String}:Ay K (.type a) (.type b)=GX a b:=rfl
noncomputable def kinds:List String:=["NoneType","bool","int","str","list","tuple","dict"]
noncomputable def isK (t T:String):Bool:=t == T||(t == "bool" && T == "int")
theorem Ur:(kinds.all fun t=>["int","bool","str","list","tuple","dict"].all fun T=>decide (GX t T=some (isK t T)))=true:=by decide +kernel
theorem Lj {t T:String}(ht:t∈kinds)(hT:T∈["int","bool","str","list","tuple","dict"]):GX t T=some (isK t T):=by
 have h:=dZ.mp Ur t ht
 have h:=dZ.mp h T hT
 exact of_decide_eq_true h
section
variable {X:Cx}
theorem Et {x:aB}{T:String}{pos:cC}(hg:Gl X x)(hm:X.mg x=none)(hv:mO x=some (.type T))(hn:x ≠ "__name__":=by decide)(hd:(x == ("__debug__" : aB))=false:=by decide):PE X (.Name x pos) (tC (.ty T)):=
 Mg hg hm hv rfl hn hd
end
theorem boot_isinstance:mO "isinstance" = some (.builtin "isinstance"):=by decide +kernel
theorem boot_abs:mO "abs" = some (.builtin "abs"):=by decide +kernel
theorem boot_all:mO "all" = some (.builtin "all"):=by decide +kernel
theorem bits_le {i:Int}{n:Nat}(h:i.natAbs<2 ^ n):Builtin.Int.intBits i≤n:=by
 unfold Builtin.Int.intBits
 split
 ·exact fA _
 ·rename_i hne
  have h0:i.natAbs≠0:=by
   intro z; apply hne; simp[Int.natAbs_eq_zero.mp z]
  have:=(Nat.log2_lt h0).mpr h
  omega
theorem Mh {X:Cx}:OpR X (kZ .Mult) (rI (fun i j=>i.natAbs<2 ^ 1000/\j.natAbs<2 ^ 1000) fun i j=>.int (i*j)):=opI fun i j _ _ _ _ _ hc q=>
 mul_int q (PyProof.Rows.mulOk_of_bits (bits_le hc.1) (bits_le hc.2) (by decide))
theorem dN {A:cE}{k:Nat}(hr:Room k A):A.units+100<cLine:=by
 have:=hr.un
 omega
theorem WS : ∀ {xs:List V} {us:List aE},xs.length=us.length->(∀ (j:Nat) x u,xs[j]?=some x->us[j]?=some u->RelV x u)->Vals xs us
 | [],[],_,_=>.nil
 | [],_::_,h,_=>by simp at h
 | _::_,[],h,_=>by simp at h
 | x::xs,u::us,h,r=>.cons (r 0 x u rfl rfl) (WS (by simpa using h) fun j y w h1 h2=>r (j+1) y w (by simpa using h1) (by simpa using h2))
noncomputable def NR:R2:=fun x y H Q=>∃ i j,x = .str i/\y = .str j/\Q (.bl (!(decide (j.cps.toList<i.cps.toList)))) H
noncomputable def sG (c:Nat):V:=.str ⟨#[c]⟩
section
variable {X:Cx}
theorem Pw (hc:X.calm=true):Aeq X (.type "list") (fun xs H Q=>∃ z:aB,xs=[.str z]/\z.length≤sizeLine /\ ∀ l,H l=none->Q (.ref l) (upd H l (.lst (z.cps.toList.map sG)))):=by
 intro pins s σ H xs us Q I r h
 obtain⟨z,rfl,hz,q⟩:=h
 obtain⟨u,rfl,t,rfl⟩:=vals1 r
 refine call_list_str (I.ok.hd hc) z t (fun h' tk acc' c' hk hS hacc=>?_) hz
 have hv:Vals (z.cps.toList.map sG) acc'.toList:=by
  refine WS (by simp[hacc.1]) fun j x u h1 h2=>?_
  obtain⟨c,t',hc1,rfl⟩:=hacc.2 j u (by simpa using h2)
  have:(z.cps.toList.map sG)[j]?=some (sG c):=by simp[hc1]
  rw[this] at h1
  cases h1
  exact⟨t',rfl⟩
 exact⟨.ref s.heap.objs.size,_,I.laid hk (bU _) (show Ac4 X.prog X.w _ h' _ (.lst (z.cps.toList.map sG)) from⟨by rw[cX,gW]; exact hz,acc'.toList,c',hv,by simpa using hS⟩),rfl,q _ I.fresh⟩
theorem sX:OpR X (iC .LtE) NR:=by
 intro pins s σ H x y v u Q I rx ry h
 obtain⟨i,j,rfl,rfl,q⟩:=h
 obtain⟨t,rfl⟩:=rx
 obtain⟨t',rfl⟩:=ry
 exact PySem.P.le_str ⟨.bl _,H,I,rfl,q⟩
theorem Pv {ys:List aB} : ∀ {us:List aE},Vals (ys.map V.str) us->StrsAre us ys:=by
 induction ys with
 | nil=>intro us r; cases r; exact .nil
 | cons y r ih=>
  intro us h
  cases h with
  | cons h1 h2=>
   obtain⟨t,rfl⟩:=h1
   exact .cons y t (ih h2)
theorem Jr:MtR X "str.join" (fun x vs H Q=>∃ sep l ys,x = .str sep/\vs=[.ref l]/\SqL X.K H l (ys.map V.str)/\(ys.map (·.length)).sum+ys.length*sep.length≤16777216/\Q (.str (cU sep ys)) H):=by
 intro pins s σ H x xs v us Q I rx rv h
 obtain⟨sep,l,ys,rfl,rfl,hs,hok,q⟩:=h
 obtain⟨t,rfl⟩:=rx
 obtain⟨u,rfl,ru⟩:=vals1 rv
 cases ru
 obtain⟨its,r,pl,hz⟩:=I.list hs
 refine join_list pl.isList (by simpa using Pv r) hok fun t' k=>?_
 have e:Txt.join sep ys=cU sep ys:=StrLaws.glued_eq_join sep ys
 rw[e]
 exact⟨.str _,H,I.tok k,⟨t',rfl⟩,q⟩
theorem VO : ∀ cs:List Nat,cU ⟨#[]⟩ (cs.map fun c=>(⟨#[c]⟩:aB))=⟨cs.toArray⟩
 | []=>rfl
 | c::r=>by
  rw[fE,join_nil_cons,VO r]
  show(⟨#[c]++r.toArray⟩:aB)=⟨(c::r).toArray⟩
  simp
end
def ItD (K:aK)(B:Hp)(J:It)(ds:List aA):Prop:=∀ (i:Nat) (H2:Hp),Ext B H2 ->
 (∀ d,ds[i]?=some d->J.go i H2 /\ ∀ x H3,J.yld i H2 x H3->Ext H2 H3 /\ ∀ P2,Hid P2 H2->Ext B (hid H2 P2)->Ab4 K (hid H3 P2) d x)/\(ds.length=i->J.stop i H2)
noncomputable def tI (K:aK)(f:AF):TI:=fun σ H R=>∃ P ρ ds,Hid P H/\Alx K (hid H P) ρ σ/\f ρ=some ds /\ ∀ J H',Ext H H'->ItD K (hid H' P) J ds->R J H'
noncomputable def tI0 (K:aK)(f:AF):TI:=fun σ H R=>∃ P ρ ds,Hid P H/\Alx K (hid H P) ρ σ/\f ρ=some ds /\ ∀ J H',Ext H H'->ItD K (fun _=>none) J ds->R J H'
abbrev DI (X:Cx)(tg e:aW)(f:AF):Prop:=PI X tg e (tI X.K f)
abbrev DI0 (X:Cx)(tg e:aW)(f:AF):Prop:=PI X tg e (tI0 X.K f)
noncomputable def itemsOf:aA->Option (List aA)
 | .list ds=>some ds
 | .tuple ds=>some ds
 | .str x=>some (x.cps.toList.map fun c=>.str ⟨#[c]⟩)
 | _=>none
noncomputable def iIt (f:EF):AF:=fun ρ=>(f ρ).bind itemsOf
section
variable {X:Cx}{tg e a b:aW}{p pos:cC}
theorem PI.imp {t t':TI}(h:PI X tg e t)(w : ∀ σ H R,t' σ H R->t σ H R):PI X tg e t':=fun pins s σ H R I q=>h pins s σ H R I (w _ _ _ q)
theorem PI.or {t t':TI}(h:PI X tg e t)(h':PI X tg e t'):PI X tg e (fun σ H R=>t σ H R \/ t' σ H R):=fun pins s σ H R I q=>q.elim (h pins s σ H R I) (h' pins s σ H R I)
theorem Uc {K:aK}{B:Hp}{a:aD}{xs:List V}{ds:List aA}(h:SqL K B a xs)(r:Aaw K B ds xs):ItD K B (GL K a) ds:=fun i H2 x2=>by
 have h2:=x2.sqL h
 refine⟨fun d hd=>?_,fun e=>⟨xs,h2,by rw[r.length]; omega⟩⟩
 obtain⟨v,h3,h4⟩:=r.get hd
 refine⟨⟨xs,v,h2,h3⟩,?_⟩
 rintro x H3 ⟨rfl,hx⟩
 have:=h3.symm.trans (hx xs h2)
 cases this
 exact⟨Ext.refl,fun P2 _ xb=>h4.ext xb⟩
theorem Kk {K:aK}{B:Hp}{a:aD}{xs:List V}{ds:List aA}(h:B a=some (.tup xs))(r:Aaw K B ds xs):ItD K B (GK K a) ds:=fun i H2 x2=>by
 have h2:SqT K H2 a xs:=SqT.of (x2 _ _ h)
 refine⟨fun d hd=>?_,fun e=>⟨xs,h2,by rw[r.length]; omega⟩⟩
 obtain⟨v,h3,h4⟩:=r.get hd
 refine⟨⟨xs,v,h2,h3⟩,?_⟩
 rintro x H3 ⟨rfl,hx⟩
 have:some v=some x:=h3.symm.trans (hx xs h2)
 cases this
 exact⟨Ext.refl,fun P2 _ xb=>h4.ext xb⟩
theorem IK {z:aB}{i c:Nat}(h:cD (.str z)=true)(hc:z.cps.toList[i]?=some c):cD (.str ⟨#[c]⟩)=true:=by
 have hz : ∀ d∈z.cps,d<0x110000:=by
  have h':z.cps.all (· < 0x110000)=true:=by simpa only[cD,tV] using h
  intro d hd
  exact of_decide_eq_true (Cr.mp h' d hd)
 have:=hz c (by simpa using iH hc)
 simp[cD,tV,this]
theorem Jz {K:aK}{B:Hp}{z:aB}(hl:cD (.str z)=true):ItD K B (BM z) (z.cps.toList.map fun c=>.str ⟨#[c]⟩):=fun i H2 x2=>by
 refine⟨fun d hd=>?_,fun e=>?_⟩
 ·rw[fM] at hd
  cases hc:z.cps.toList[i]? with
  | none=>rw[hc] at hd; simp at hd
  | some c=>
   rw[hc] at hd
   have hd:bN ⟨#[c]⟩=d:=by simpa using hd
   subst hd
   have hlt:i<z.cps.size:=by simpa using(fN.mp hc).1
   refine⟨hlt,?_⟩
   rintro x H3 ⟨rfl,c',hc',rfl⟩
   have:z.cps.toList[i]?=some c':=by simpa using hc'
   rw[hc] at this
   cases this
   exact⟨Ext.refl,fun P2 _ _=>Aap.mpr ⟨rfl,IK hl hc⟩⟩
 ·have:z.cps.size=i:=by simpa using e
  exact Nat.le_of_eq this
theorem Xn {K:aK}{lo:Int}{n:Nat}{B:Hp}:ItD K B (BN lo n) ((cR n).map fun(k:Nat)=>cO (lo+k)):=fun i H2 x2=>by
 refine⟨fun d hd=>?_,fun e=>?_⟩
 ·have hlt:i<n:=by
   have:=(fN.mp hd).1
   simpa using this
  have hd':cO (lo+i)=d:=by
   rw[fM,List.getElem?_range hlt] at hd
   simpa using hd
  subst hd'
  refine⟨hlt,?_⟩
  rintro x H3 ⟨rfl,rfl⟩
  exact⟨Ext.refl,fun P2 _ _=>Aau.mpr rfl⟩
 ·have:n=i:=by simpa using e
  exact Nat.le_of_eq this
theorem gJ {f:EF}(h:DE X e f):DI X tg e (iIt f):=PI.imp (PI.or (Mp h) (PI.or (Ih h) (Jb h))) fun σ H R gh=>by
 obtain⟨P,ρ,ds,hP,rs,ef,k⟩:=gh
 obtain⟨d,e1,ef⟩:=XBs ef
 cases d with
 | list ds'=>
  have:ds'=ds:=by simpa [itemsOf] using ef
  subst this
  refine .inl ⟨P,ρ,_,hP,rs,e1,dB fun v H1 x1 r1=>?_⟩
  obtain⟨a,xs,rfl,hr,rr⟩:=Abp.mp r1
  exact⟨a,rfl,⟨xs,Abd.sqL hr⟩,k _ H1 x1 (Uc hr rr)⟩
 | tuple ds'=>
  have:ds'=ds:=by simpa [itemsOf] using ef
  subst this
  refine .inr (.inl ⟨P,ρ,_,hP,rs,e1,dB fun v H1 x1 r1=>?_⟩)
  obtain⟨a,xs,rfl,hr,rr⟩:=Aa4.mp r1
  exact⟨a,rfl,⟨xs,SqT.of (Abd _ _ hr)⟩,k _ H1 x1 (Kk hr rr)⟩
 | str z=>
  have:z.cps.toList.map (fun c=>bN ⟨#[c]⟩)=ds:=by simpa [itemsOf] using ef
  subst this
  refine .inr (.inr ⟨P,ρ,_,hP,rs,e1,dB fun v H1 x1 r1=>?_⟩)
  exact⟨z,(Aap.mp r1).1,k _ H1 x1 (Jz (Aap.mp r1).2)⟩
 | _=>simp[itemsOf] at ef
noncomputable def GN (lo hi:Int):Option (List aA):=if -(2 ^ 62)≤lo/\lo<2 ^ 62 /\ -(2 ^ 62)≤hi/\hi<2 ^ 62 then some ((cR (hi - lo).toNat).map fun(k:Nat)=>cO (lo+k)) else none
noncomputable def iR1 (fa:AF):AF:=fun ρ=>(fa ρ).bind fun ds=>match ds with
 | [.int j]=>GN 0 j
 | _=>none
theorem oE {fa:AF}(hg:Gl X "range")(hm:X.mg "range" = none)(ha:DA X [a] fa)(hs:bI [a] X.env=[(false,bZ a X.env)]:=by rfl):DI0 X tg (.Call (.Name "range" p) [a] [] pos) (iR1 fa):=PI.imp (Yo hg hm ha hs) fun σ H R gh=>by
 obtain⟨P,ρ,ds,hP,rs,ef,k⟩:=gh
 obtain⟨as,e1,ef⟩:=XBs ef
 refine⟨P,ρ,as,hP,rs,e1,fun vs H1 x1 r1=>?_⟩
 split at ef
 ·rename_i j
  obtain⟨hb,rfl⟩:=dS ef
  obtain⟨v,t,rfl,h1,h2⟩:=Aao.mp r1
  obtain rfl:=Aax.mp h2
  obtain rfl:=Aau.mp h1
  have e0:(j - 0).toNat=j.toNat:=by simp
  refine⟨j,rfl,hb.2.2.1,hb.2.2.2,k _ H1 x1 ?_⟩
  rw[e0]
  exact Xn
 ·cases ef
theorem sQ {f:AF}(h:DI0 X tg e f):DI X tg e f:=PI.imp h fun σ H R ⟨P,ρ,ds,hP,rs,ef,k⟩=>⟨P,ρ,ds,hP,rs,ef,fun J H' x it=>k J H' x fun i H2 x2=>by
 obtain⟨h1,h2⟩:=it i H2 (fun _ _ e=>by cases e)
 exact⟨fun d hd=>⟨(h1 d hd).1,fun v H3 y=>⟨((h1 d hd).2 v H3 y).1,fun P2 hp _=>((h1 d hd).2 v H3 y).2 P2 hp fun _ _ e=>by cases e⟩⟩,h2⟩⟩
noncomputable def tI' (K:aK)(H0:Hp)(P0:aD->Prop)(m:Md)(f:AF):TI:=fun σ H R=>∃ B0 ρ fp ds,Sta K H0 P0 B0 ρ σ H fp/\aV m f ρ=some ds /\ ∀ J B1 H',Sta K H0 P0 B1 ρ σ H' fp->Ext B0 B1->ItD K B1 J ds->R J H'
theorem Sta.rebase {K:aK}{H0 H B0 B1:Hp}{P0:aD->Prop}{ρ:bE}{σ:St}{fp:Nat->List aD}(S:Sta K H0 P0 B0 ρ σ H fp)(b:Ext B1 (L2.hid H (Hd P0 fp))):Sta K H0 P0 B1 ρ σ H fp:=⟨S.len,S.nd,S.dj,S.own,S.ext,S.hd,b,S.slot⟩
variable {H0:Hp}{P0:aD->Prop}
theorem evI {f:AF}(h:DI X tg e f):PI X tg e (tI' X.K H0 P0 .s f):=PI.imp h fun σ H R ⟨B0,ρ,fp,ds,S,ef,k⟩=>
 ⟨Hd P0 fp,vS ρ,ds,S.hid,S.viewS,ef,fun J H' x it=>k J _ H' ((S.grow x).rebase Ext.refl) (S.grow x).base it⟩
theorem Df {f:AF}(m:Md)(h:DI0 X tg e f):PI X tg e (tI' X.K H0 P0 m f):=PI.imp h fun σ H R gh=>by
 obtain⟨B0,ρ,fp,ds,S,ef,k⟩:=gh
 have up : ∀ {J:It} {B:Hp},ItD X.K (fun _=>none) J ds->ItD X.K B J ds:=fun {J B} it i H2 x2=>by
  obtain⟨h1,h2⟩:=it i H2 (fun _ _ e=>by cases e)
  exact⟨fun d hd=>⟨(h1 d hd).1,fun v H3 y=>⟨((h1 d hd).2 v H3 y).1,fun P2 hp _=>((h1 d hd).2 v H3 y).2 P2 hp fun _ _ e=>by cases e⟩⟩,h2⟩
 cases m with
 | s=>exact⟨Hd P0 fp,vS ρ,ds,S.hid,S.viewS,ef,fun J H' x it=>k J _ H' (S.grow x) Ext.refl (up it)⟩
 | a=>exact⟨P0,vA ρ,ds,S.hd.ext S.ext,S.viewA,ef,fun J H' x it=>k J _ H' (S.grow x) Ext.refl (up it)⟩
end
noncomputable def tG (K:aK)(H0:Hp)(P0:aD->Prop)(T:aA->bE->Option bE):TG:=fun v σ H Q=>∃ B0 ρ fp d ρ',Sta K H0 P0 B0 ρ σ H fp/\Ab4 K (hid H (Hd P0 fp)) d v/\T d ρ=some ρ' /\ ∀ σ' fp',Sta K H0 P0 B0 ρ' σ' H fp'->Q σ' H
abbrev DG (X:Cx)(H0:Hp)(P0:aD->Prop)(tg:aW)(T:aA->bE->Option bE):Prop:=PG X tg (tG X.K H0 P0 T)
section
variable {X:Cx}{H0:Hp}{P0:aD->Prop}{n0:Nat}{pos:cC}
theorem PG.imp {tg:aW}{t t':TG}(h:PG X tg t)(w : ∀ v σ H Q,t' v σ H Q->t v σ H Q):PG X tg t':=fun pins s σ H v u Q I r q=>h pins s σ H v u Q I r (w _ _ _ _ q)
theorem Sta.Akc {K:aK}{H B0:Hp}{ρ:bE}{σ:St}{fp:Nat->List aD}{d:aA}{v:V}{i:Nat}(S:Sta K H0 P0 B0 ρ σ H fp)(r:Ab4 K (L2.hid H (Hd P0 fp)) d v)(hi:i<ρ.length) : ∃ fp',Sta K H0 P0 B0 (ρ.set i (some (0,d))) (σ.set i (some v)) H fp':=by
 have hsub : ∀ a,Hd P0 (fun j=>if j=ρ.length then [] else fp j) a->Hd P0 fp a:=fun a h=>by
  rcases h with h | ⟨j,h⟩
  ·exact .inl h
  ·by_cases hj:j=ρ.length
   ·simp only[hj,if_true] at h; simp at h
   ·simp only[hj,if_false] at h; exact .inr ⟨j,h⟩
 have S2:Sta K H0 P0 B0 ρ σ H (fun j=>if j=ρ.length then [] else fp j):=by
  refine⟨S.len,fun j=>?_,fun j k a h1 h2=>?_,fun j a h1=>?_,S.ext,S.hd,S.base.trans (jZ hsub),fun j n d e=>?_⟩
  ·by_cases hj:j=ρ.length
   ·simp only[hj,if_true]; exact .nil
   ·simp only[hj,if_false]; exact S.nd j
  ·by_cases hj:j=ρ.length
   ·simp only[hj,if_true] at h1; simp at h1
   ·by_cases hk:k=ρ.length
    ·simp only[hk,if_true] at h2; simp at h2
    ·simp only[hj,if_false] at h1; simp only[hk,if_false] at h2; exact S.dj j k a h1 h2
  ·by_cases hj:j=ρ.length
   ·simp only[hj,if_true] at h1; simp at h1
   ·simp only[hj,if_false] at h1; exact S.own j a h1
  ·have hlt:=(fN.mp e).1
   have hj:j≠ρ.length:=by omega
   obtain⟨v',h1,h2⟩:=S.slot j n d e
   refine⟨v',h1,?_⟩
   simp only[hj,if_false]
   exact h2.keep (jZ hsub) fun a m=>rfl
 refine Tmp.set ⟨_,S2,?_⟩ hi
 simp only[if_true]
 exact⟨rfl,r.ext (jZ hsub)⟩
noncomputable def gNm (i:Nat):aA->bE->Option bE:=fun d ρ=>if i<ρ.length then some (ρ.set i (some (0,d))) else none
theorem pJ {i:Nat}{x:aB}(hN:X.N.Nodup)(hi:X.N[i]?=some x)(hx:nV X.env.scope x)(hf:X.fn x=true \/ X.env.scope.names.lookup x=some .local:=by first | exact .inl rfl | exact .inr rfl | assumption):DG X H0 P0 (.Name x pos) (gNm i):=
 PG.imp (YV hN hi hx hf) fun v σ H Q gh=>by
  obtain⟨B0,ρ,fp,d,ρ',S,r,ef,k⟩:=gh
  obtain⟨hl,rfl⟩:=dS ef
  obtain⟨fp',S'⟩:=S.Akc r hl
  exact k _ fp' S'
end
noncomputable def oO (F:SF)(T:aA->bE->Option bE):List aA->SF
 | [],ρ=>some (.nx ρ)
 | d::r,ρ=>(T d ρ).bind fun ρ1=>(F ρ1).bind fun o=>match o with
  | .nx ρ'=>oO F T r ρ'
  | .ct ρ'=>oO F T r ρ'
  | .bk ρ'=>some (.nx ρ')
  | .rt d=>some (.rt d)
noncomputable def jC (m:Md)(fi:AF)(T:aA->bE->Option bE)(F:SF):SF:=fun ρ=>(aV m fi ρ).bind fun ds=>oO F T ds ρ
section
variable {X:Cx}{H0:Hp}{P0:aD->Prop}{n0:Nat}{pos:cC}{tg iter:aW}{body:List bR}{F:SF}{T:aA->bE->Option bE}{fi:AF}{m:Md}
theorem QQ (hp:PassesOwn (aR X.prog X.w) X.A X.env X.xe)(hc:X.calm=true)(hi:PI X tg iter (tI' X.K H0 P0 m fi))(hg:DG X H0 P0 tg T)(hb:DSs X H0 P0 n0 body F)
  (hs : ∀ x,tQ iter X.env x=pure x:=by intro _; rfl):DS X H0 P0 n0 (.For tg iter body [] pos) (jC m fi T F):=PS.imp (Hv hp hc hi hg hb hs) fun D σ H gh=>by
 obtain⟨B0,ρ,fp,o,S,ef,k⟩:=gh
 obtain⟨ds,e1,ef⟩:=XBs ef
 refine⟨B0,ρ,fp,ds,S,e1,fun J B1 H' S1 xb it=>?_⟩
 refine⟨fun i m σ H=>m=ds.length - i/\i≤ds.length /\ ∃ ρ fp,Sta X.K H0 P0 B1 ρ σ H fp/\oO F T (ds.drop i) ρ=some o,⟨ds.length,by simp,fA _,ρ,fp,S1,by simpa using ef⟩,?_⟩
 rintro i m σ2 H2 ⟨rfl,hi,ρ2,fp2,S2,e2⟩
 have x2:=S2.base.trans Abd
 obtain⟨go,st⟩:=it i H2 x2
 by_cases hlt:i<ds.length
 ·have hd:=gV hlt
  rw[Ca hlt] at e2
  obtain⟨ρ3,e3,e2⟩:=XBs e2
  obtain⟨o3,e4,e2⟩:=XBs e2
  obtain⟨g1,g2⟩:=go _ hd
  refine .inr ⟨g1,fun σ' H'=>i+1≤ds.length /\ ∃ ρ fp,Sta X.K H0 P0 B1 ρ σ' H' fp/\oO F T (ds.drop (i+1)) ρ=some o,fun σ' H' ⟨h1,h2⟩=>⟨ds.length - (i+1),by omega,rfl,h1,h2⟩,fun x H3 y=>?_⟩
  obtain⟨x3,r3⟩:=g2 x H3 y
  refine⟨B1,ρ2,fp2,_,ρ3,S2.grow x3,r3 _ S2.hid S2.base,e3,fun σ4 fp4 S4=>⟨B1,ρ3,fp4,o3,S4,e4,?_⟩⟩
  cases o3 with
  | nx ρ5=>exact fun σ5 H5 fp5 S5=>⟨hlt,ρ5,fp5,S5,e2⟩
  | ct ρ5=>exact fun σ5 H5 fp5 S5=>⟨hlt,ρ5,fp5,S5,e2⟩
  | bk ρ5=>
   cases e2
   exact fun σ5 H5 fp5 S5=>k σ5 H5 fp5 (S5.rebase (xb.trans S5.base))
  | rt d=>
   cases e2
   exact k
 ·have e:i=ds.length:=by omega
  subst e
  rw[Bz] at e2
  cases e2
  exact .inl ⟨st rfl,k σ2 H2 fp2 (S2.rebase (xb.trans S2.base))⟩
theorem vG (hp:PassesOwn (aR X.prog X.w) X.A X.env X.xe)(hc:X.calm=true)(hi:DI X tg iter fi)(hg:DG X H0 P0 tg T)(hb:DSs X H0 P0 n0 body F)
  (hs : ∀ x,tQ iter X.env x=pure x:=by intro _; rfl):DS X H0 P0 n0 (.For tg iter body [] pos) (jC .s fi T F):=QQ hp hc (evI hi) hg hb hs
theorem HL (m:Md)(hp:PassesOwn (aR X.prog X.w) X.A X.env X.xe)(hc:X.calm=true)(hi:DI0 X tg iter fi)(hg:DG X H0 P0 tg T)(hb:DSs X H0 P0 n0 body F)
  (hs : ∀ x,tQ iter X.env x=pure x:=by intro _; rfl):DS X H0 P0 n0 (.For tg iter body [] pos) (jC m fi T F):=QQ hp hc (Df m hi) hg hb hs
end
noncomputable def lcD (T:aA->List (Option aA)->Option (List (Option aA)))(t:BF)(f:EF)(ρ:List (Option aA)):List aA->Option (List aA)
 | []=>some []
 | d::r=>(T d ρ).bind fun ρ1=>(t ρ1).bind fun c=>if c=true then(f ρ1).bind fun y=>(lcD T t f ρ r).bind fun ys=>some (y::ys) else lcD T t f ρ r
noncomputable def lQ (cap:List (Option Nat))(ρ:List (Option aA)):List (Option aA):=cap.map fun o=>o.bind fun j=>(ρ[j]?).join
noncomputable def eLC (cap:List (Option Nat))(fi:AF)(T:aA->List (Option aA)->Option (List (Option aA)))(t:BF)(f:EF):EF:=fun ρ=>(fi ρ).bind fun ds=>(lcD T t f (lQ cap ρ) ds).bind fun ys=>if ds.length≤sizeLine then some (.list ys) else none
noncomputable def tGB (K:aK)(T:aA->List (Option aA)->Option (List (Option aA))):TG:=fun v σ H Q=>∃ P ρ d ρ',Hid P H/\Alx K (hid H P) ρ σ/\Ab4 K (hid H P) d v/\T d ρ=some ρ' /\ ∀ σ',Alx K (hid H P) ρ' σ'->Q σ' H
def TOk (T:aA->List (Option aA)->Option (List (Option aA))):Prop:=∀ d ρ ρ',T d ρ=some ρ' -> ∀ (i:Nat) d',ρ[i]?=some (some d')->ρ'[i]?=some (some d')
noncomputable def cQ:BF:=fun _=>some true
noncomputable def gB (j:Nat):aA->List (Option aA)->Option (List (Option aA)):=fun d ρ=>match ρ[j]? with
 | some none=>some (ρ.set j (some d))
 | _=>none
theorem YW {j:Nat}{d:aA}{ρ ρ':List (Option aA)}(h:gB j d ρ=some ρ'):ρ[j]?=some none/\ρ.set j (some d)=ρ':=by
 unfold gB at h
 split at h
 ·rename_i e
  exact⟨e,gU h⟩
 ·cases h
theorem fT {j:Nat}:TOk (gB j):=fun d ρ ρ' e i d' h=>by
 obtain⟨hj,rfl⟩:=YW e
 by_cases q:j=i
 ·subst q; rw[hj] at h; cases h
 ·rw[rQ q]; exact h
section
variable {X:Cx}{N:List aB}{cap:List (Option Nat)}{sc:iP}{elt iter tg c:aW}{ifs:List aW}{pos:cC}{fi:AF}{T:aA->List (Option aA)->Option (List (Option aA))}{t:BF}{f:EF}
theorem gK:uG X [] (tTF X.K cQ):=fun pins s σ H Q I gh=>by
 obtain⟨P,ρ,b,hP,rs,ef,k⟩:=gh
 cases ef
 exact Js pins s σ H Q I (k H Ext.refl)
theorem Mn (h:DT X c t):uG X [c] (tTF X.K t):=Ms h
theorem Alx.set {K:aK}{B:Hp}{ρ:List (Option aA)}{σ:St}{d:aA}{v:V}{j:Nat}(h:Alx K B ρ σ)(r:Ab4 K B d v)(hl:j<σ.length):Alx K B (ρ.set j (some d)) (σ.set j (some v)):=fun i d' e=>by
 by_cases q:j=i
 ·subst q
  have hj:j<ρ.length:=by
   have:=(fN.mp e).1
   simpa using this
  rw[rP hj] at e
  cases e
  exact⟨v,rP hl,r⟩
 ·rw[rQ q] at e
  obtain⟨w,h1,h2⟩:=h i d' e
  exact⟨w,by rw[rQ q]; exact h1,h2⟩
def DGB (X:Cx)(tg:aW)(T:aA->List (Option aA)->Option (List (Option aA))):Prop:=
 ∀ (pins:List (aD×aY)) (s:aG) (σ:St) (H:Hp) (v:V) (u:aE) (Q:St->Hp->Prop),Inv X pins σ H s->RelV v u->tGB X.K T v σ H Q ->
  aN (aR X.prog X.w) X.A (assign tg X.env u) (fun _ s'=>∃ σ' H',Inv X pins σ' H' s'/\Q σ' H') X.xe s
theorem fW {j:Nat}{x:aB}(hN:X.N.Nodup)(hi:X.N[j]?=some x)(hx:nV X.env.scope x)(hf:X.fn x=true \/ X.env.scope.names.lookup x=some .local:=by first | exact .inl rfl | exact .inr rfl | assumption):DGB X (.Name x pos) (gB j):=fun pins s σ H v u Q I r gh=>by
 obtain⟨P,ρ,d,ρ',hP,rs,rd,ef,k⟩:=gh
 obtain⟨hj,rfl⟩:=YW ef
 have hl:j<σ.length:=by rw[I.len]; exact(fN.mp hi).1
 exact YV hN hi hx hf pins s σ H v u Q I r (k _ (rs.set rd hl))
theorem Um {K:aK}{B:Hp}{ρ:List (Option aA)}{σ:St}(h:Alx K B ρ σ):Alx K B (lQ cap ρ) (uH cap σ):=fun i d e=>by
 unfold lQ at e
 unfold uH
 rw[fM] at e ⊢
 cases hc:cap[i]? with
 | none=>rw[hc] at e; simp at e
 | some o=>
  rw[hc] at e
  cases o with
  | none=>simp at e
  | some j=>
   simp only[tW,cH,FT] at e ⊢
   obtain⟨v,h1,h2⟩:=h j d (JU e)
   exact⟨v,by rw[h1]; rfl,h2⟩
theorem OA {K:aK}(hT:TOk T) : ∀ σ H Q,tF K 1 (eLC cap fi T t f) σ H Q->tLC cap (tI K fi) (tGB K T) (tTF K t) (tF K 0 f) σ H Q:=fun σ H Q gh=>by
 obtain⟨P,ρ,d,hP,rs,ef,k⟩:=gh
 obtain⟨ds,e1,ef⟩:=XBs ef
 obtain⟨all,e2,ef⟩:=XBs ef
 obtain⟨hz,rfl⟩:=dS ef
 refine⟨P,ρ,ds,hP,rs,e1,fun J H1 x1 it A hA=>?_⟩
 have hPA:=(hP.ext x1).new hA
 have back : ∀ {H':Hp} {ys:List V},hid (upd H' A (.lst ys)) (orL P [A])=hid H' (orL P [A]):=fun {H' ys}=>by
  funext b
  unfold hid
  by_cases hb:orL P [A] b
  ·rw[if_pos hb,if_pos hb]
  ·rw[if_neg hb,if_neg hb]
   exact fG (fun z=>hb (.inr (by simp[z])))
 refine⟨fun i m ys σ' H'=>m=ds.length - i/\i≤ds.length/\H' A=some (.lst ys)/\Ext H1 H'/\Ext (hid H1 P) (hid H' (orL P [A]))/\Alx K (hid H' (orL P [A])) (lQ cap ρ) σ'/\ys.length≤i /\
  ∃ done rest,Aaw K (hid H' (orL P [A])) done ys/\lcD T t f (lQ cap ρ) (ds.drop i)=some rest/\all=done++rest,⟨ds.length,?_⟩,?_⟩
 ·have xa:Ext (hid H1 P) (hid (upd H1 A (.lst [])) (orL P [A])):=fun b o e=>by
   obtain⟨nb,e⟩:=Afm.mp e
   have hb:=nK e hA
   exact kP (fun z=>z.elim nb fun m=>hb (by simpa using m)) (by rw[fG hb]; exact e)
  exact⟨by simp,fA _,kC,Ext.new hA,xa,(Um (rs.ext (cW x1))).ext xa,fA _,[],all,Aax.mpr rfl,by simpa using e2,rfl⟩
 ·rintro i m ys σ' H' ⟨rfl,hi,hD,x2,xb,rs2,hl,done,rest,rd,e3,rfl⟩
  refine⟨hD,?_⟩
  obtain⟨go,st⟩:=it i H' (Abd.trans x2)
  have hid2:Hid (orL P [A]) H':=fun a h=>by
   rcases h with h | h
   ·exact(hP.ext (x1.trans x2)) a h
   ·have:a=A:=by simpa using h
    subst this
    exact .inl ⟨_,hD⟩
  by_cases hlt:i<ds.length
  ·have hd:=gV hlt
   rw[Ca hlt] at e3
   obtain⟨ρ1,e4,e3⟩:=XBs e3
   obtain⟨c,e5,e3⟩:=XBs e3
   obtain⟨g1,g2⟩:=go _ hd
   refine .inr ⟨g1,by omega,fun ys σ' H'=>i+1≤ds.length/\H' A=some (.lst ys)/\Ext H1 H'/\Ext (hid H1 P) (hid H' (orL P [A]))/\Alx K (hid H' (orL P [A])) (lQ cap ρ) σ'/\ys.length≤i+1 /\
    ∃ d2 r2,Aaw K (hid H' (orL P [A])) d2 ys/\lcD T t f (lQ cap ρ) (ds.drop (i+1))=some r2/\done++rest=d2++r2,fun zs σ2 H2 h=>⟨ds.length - (i+1),by omega,rfl,h⟩,fun x H2 y=>?_⟩
   obtain⟨x3,r3⟩:=g2 x H2 y
   refine⟨orL P [A],lQ cap ρ,_,ρ1,hid2.ext x3,rs2.ext (cW x3),r3 _ hid2 xb,e4,fun σ3 rs3=>?_⟩
   refine⟨orL P [A],ρ1,c,hid2.ext x3,rs3,e5,fun H4 x4=>?_⟩
   have rs4:Alx K (hid H2 (orL P [A])) (lQ cap ρ) σ3:=fun j d' e=>rs3 j d' (hT _ _ _ e4 j d' e)
   cases c with
   | false=>
    rw[if_neg qA] at e3
    refine rG ⟨hlt,x4 _ _ (x3 _ _ hD),x2.trans (x3.trans x4),xb.trans (cW (x3.trans x4)),rs4.ext (cW x4),by omega,done,rest,rd.ext (cW (x3.trans x4)),e3,rfl⟩
   | true=>
    rw[if_pos rfl] at e3
    obtain⟨yd,e6,e3⟩:=XBs e3
    obtain⟨r2,e7,e3⟩:=XBs e3
    cases e3
    refine qE ⟨orL P [A],ρ1,yd,hid2.ext (x3.trans x4),rs3.ext (cW x4),e6,dB fun v H5 x5 r5=>⟨x5 _ _ (x4 _ _ (x3 _ _ hD)),hlt,kC,?_,?_,?_,by simp; omega,done++[yd],r2,?_,e7,by simp⟩⟩
    ·intro b o e
     rw[fG (nK e hA)]
     exact x5 _ _ (x4 _ _ (x3 _ _ (x2 _ _ e)))
    ·rw[back]; exact xb.trans (cW (x3.trans (x4.trans x5)))
    ·rw[back]; exact rs4.ext (cW (x4.trans x5))
    ·rw[back]; exact(rd.ext (cW (x3.trans (x4.trans x5)))).snoc r5
  ·have e:i=ds.length:=by omega
   subst e
   rw[Bz] at e3
   cases e3
   rw[rS] at k
   refine .inl ⟨st rfl,?_⟩
   refine k (.ref A) H' [A] (x1.trans x2) (oR.mpr ⟨by simp,.nil⟩) (fun a m=>?_) ⟨A,ys,ys.map fun _=>[],rfl,hD,?_,?_⟩
   ·have:a=A:=by simpa using m
    subst this
    exact⟨x1.none hA,_,hD⟩
   ·have : ∀ l:List V,(l.map fun _=>([]:List aD)).flatten=[]:=fun l=>by
     induction l with
     | nil=>rfl
     | cons a l ih=>rw[fE,uB,ih]; rfl
    rw[this]
   ·have go : ∀ (ds:List aA) (xs:List V),Aaw K (hid H' (orL P [A])) ds xs->All3 (Agd K (hid H' (orL P [A])) H' 0) ds xs (xs.map fun _=>[]):=by
     intro ds
     induction ds with
     | nil=>intro xs r; rw[Aax.mp r]; exact .nil
     | cons d ds ih=>
      intro xs r
      obtain⟨y,t,rfl,h1,h2⟩:=Aao.mp r
      exact .cons ⟨rfl,h1⟩ (ih t h2)
    exact go _ _ rd
def PR (X:Cx)(N:List aB)(sc:iP)(tg elt:aW)(ifs:List aW)(T:aA->List (Option aA)->Option (List (Option aA)))(t:BF)(f:EF):Prop:=
 ∀ (cl:List (aB×aD)) (C:aD) (s₀:aG) (H₀:Hp) (ex:List aD),DGB (iO X N sc cl C s₀ H₀ ex) tg T/\uG (iO X N sc cl C s₀ H₀ ex) ifs (tTF X.K t)/\DE (iO X N sc cl C s₀ H₀ ex) elt f
theorem hE (hc:X.calm=true)(S:CompScope X N cap sc)(hT:TOk T)(hi:DI X tg iter fi)(hb:PR X N sc tg elt ifs T t f)(hs : ∀ x,tQ iter X.env x=pure x:=by intro _; rfl) :
  DF 1 X (.ListComp elt [⟨tg,iter,ifs,0⟩] sc pos) (eLC cap fi T t f):=PE.imp (Er hc S hi (g:=tGB X.K T) (tc:=tTF X.K t) (te:=tF X.K 0 f) hb hs) (OA hT)
variable {H0:Hp}{P0:aD->Prop}{n0:Nat}
theorem IZ {i:Nat}{x:aB}{px spos:cC}(m:Md)(hc:X.calm=true)(hN:X.N.Nodup)(hi':X.N[i]?=some x)(hx:nV X.env.scope x)(S:CompScope X N cap sc)(hT:TOk T)(hi:DI X tg iter fi)(hb:PR X N sc tg elt ifs T t f)
  (hsw:pT (.ListComp elt [⟨tg,iter,ifs,0⟩] sc pos) (some (.Name x px)) spos.line X.env=pure true:=by rfl)
  (hs : ∀ x,tQ iter X.env x=pure x:=by intro _; rfl) (hf:X.fn x=true \/ X.env.scope.names.lookup x=some .local:=by first | exact .inl rfl | exact .inr rfl | assumption) :
  DS X H0 P0 n0 (.Assign [.Name x px] (.ListComp elt [⟨tg,iter,ifs,0⟩] sc pos) spos) (bX i 1 m (eLC cap fi T t f)):=PS.imp (Vi hc hN hi' hx S hi (g:=tGB X.K T) (tc:=tTF X.K t) (te:=tF X.K 0 f) hb hsw hs hf) fun D σ H gh=>by
 obtain⟨B0,ρ,fp,o,S,ef,k⟩:=gh
 obtain⟨d,e1,ef⟩:=XBs ef
 obtain⟨hl,rfl⟩:=dS ef
 refine OA hT σ H _ (BR m σ H _ ⟨B0,ρ,fp,d,S,e1,fun v H' t=>?_⟩)
 obtain⟨fp',S'⟩:=t.set hl
 exact k _ _ fp' S'
end
noncomputable def outD:Option Out->Option aA
 | some (.rt d)=>some d
 | some (.nx _)=>some .none
 | _=>none
noncomputable def fnD (np n:Nat)(body:SF):List aA->Option aA:=fun ds=>if ds.length=np then outD (body (ds.map (fun d=>some (0,d))++mU (n - np) none)) else none
noncomputable def spF (K:aK)(n0:Nat)(F:List aA->Option aA):Sp:=fun vs H Q _=>∃ P ds d,Hid P H/\Aaw K (hid H P) ds vs/\F ds=some d/\Res K P n0 d H Q
section
variable {P:bS}{w:bB}{K:aK}{mg:aB->Option aE}{base:aU}
theorem dY {x qual:aB}{st:bR}{f:aD}{fd:gD}{N ps:List aB}{k n0 np:Nat}{body:SF}(F:Fun K x qual st f fd)(S:FnScope N ps (bJ st))(hnp:np=ps.length)(hN:ps.length≤N.length)
  (hb : ∀ (cdv:aE) (A:cE) (outer:List eT) (s:aG) (H:Hp) (E:XK) (P0:aD->Prop),Room k (A.deeper (jA qual (bJ st) s.heap.objs.size f cdv))->DSs (jV CX0 P w K mg base N qual (bJ st) f cdv A outer s H E).nox H P0 n0 (jG st) body) :
  FnOk P w K mg base CX0 (k+1) f fd ps (spF K n0 (fnD np N.length body)):=by
 refine F.ok S (fun vs H Q E h=>?_) (fun cdv A outer s H vs Q E hr h=>?_)
 ·obtain⟨P,ds,d,_,r,ef,_⟩:=h
  unfold fnD at ef
  by_cases hl:ds.length=np
  ·rw[r.length,hl,hnp]
  ·rw[if_neg hl] at ef; cases ef
 ·obtain⟨P0,ds,d,hP,r,ef,k⟩:=h
  refine⟨_,hb cdv A outer s H E P0 hr,?_⟩
  unfold fnD at ef
  by_cases hl:ds.length=np
  case neg=>rw[if_neg hl] at ef; cases ef
  rw[if_pos hl] at ef
  rw[← hl] at ef
  have hlen:=r.length
  have S0:Sta K H P0 (hid H P0) (ds.map (fun d=>some (0,d))++mU (N.length - ds.length) none) (start N vs) H (fun _=>[]):=by
   have eH:Hd P0 (fun _=>[])=P0:=by
    funext a
    simp[Hd]
   refine⟨by simp[start,hlen],fun _=>.nil,fun i j a h=>by simp at h,fun i a h=>by simp at h,Ext.refl,hP,by rw[eH]; exact Ext.refl,fun i n' d' e=>?_⟩
   rw[eH]
   by_cases hi:i<ds.length
   ·rw[rR (by simpa using hi),fM] at e
    cases q:ds[i]? with
    | none=>rw[q] at e; simp at e
    | some d2=>
     rw[q] at e
     have e':0=n'/\d2=d':=by simpa using e
     obtain⟨rfl,rfl⟩:=e'
     obtain⟨v,h1,h2⟩:=r.get q
     refine⟨v,?_,rfl,h2⟩
     unfold start
     rw[rR (by rw[cX,hlen]; exact hi),fM,h1]
     rfl
   ·rw[xN (by simpa using hi)] at e
    have:=iH e
    simp at this
  cases eb:body (ds.map (fun d=>some (0,d))++mU (N.length - ds.length) none) with
  | none=>rw[eb] at ef; cases ef
  | some o=>
   rw[eb] at ef
   refine⟨_,_,_,o,S0,eb,?_⟩
   cases o with
   | rt d'=>
    cases ef
    exact fun v H' ⟨Fr,h1,h2,h3,h4⟩=>k v H' Fr h1 h2 h3 h4
   | nx ρ'=>
    cases ef
    intro σ' H' fp' S'
    refine k .non H' [] S'.ext .nil (fun a m=>by simp at m) ?_
    cases n0 with
    | zero=>exact⟨rfl,Abw.mpr rfl⟩
    | succ n=>
     unfold Ajb
     split
     ·exact .inl ⟨rfl,rfl,rfl⟩
     ·exact⟨rfl,Abw.mpr rfl⟩
   | bk _=>cases ef
   | ct _=>cases ef
variable {X:Cx}{x:aB}{k n0 np:Nat}{ps:List aB}{F:List aA->Option aA}{e:aW}{es:List aW}{fa:AF}{p pos:cC}
theorem bM (D:Def X.prog X.w X.K X.mg X.base x k ps (spF X.K n0 F))(hr:Room k X.A)(hg:Gl X x)(ha:DA X (e::es) fa)(hdb:(x == ("__debug__" : aB))=false:=by decide)(he:bI (e::es) X.env=(false,bZ e X.env)::bI es X.env:=by rfl)
  (hpl:(eM pos (bI es X.env)).any (·.1)=false:=by rfl):DF n0 X (.Call (.Name x p) (e::es) [] pos) (aL F fa):=
 PE.imp (Iy D hr hg ha hdb he hpl) fun σ H Q gh=>by
  obtain⟨P,ρ,d,hP,rs,ef,k⟩:=gh
  obtain⟨ds,e1,ef⟩:=XBs ef
  refine⟨P,ρ,ds,hP,rs,e1,fun vs H1 x1 r1=>?_⟩
  show spF X.K n0 F (vs++[]) H1 Q E0
  rw[rS]
  exact⟨P,ds,d,hP.ext x1,r1,ef,k.mono x1⟩
end
noncomputable def g2I (g:Int->Int->aA):aA->aA->Option aA
 | .int i,.int j=>some (g i j)
 | _,_=>none
noncomputable def g2C (C:Int->Int->Prop)[∀ i j,Decidable (C i j)](g:Int->Int->aA):aA->aA->Option aA
 | .int i,.int j=>if C i j then some (g i j) else none
 | _,_=>none
section
variable {K:aK}
theorem YD {g:Int->Int->V}{gd:Int->Int->aA}(h : ∀ i j H,Ab4 K H (gd i j) (g i j)):OpD K 0 (rI0 g) (g2I gd):=fun P H x y a b d Q hP ra rb e k=>by
 unfold g2I at e
 split at e
 ·rename_i i j
  cases e
  exact⟨i,j,Aau.mp ra,Aau.mp rb,k.zero Ext.refl (h i j _)⟩
 ·cases e
theorem EZ {C C':Int->Int->Prop}[∀ i j,Decidable (C' i j)]{g:Int->Int->V}{gd:Int->Int->aA}(hC : ∀ i j,C' i j->C i j)(h : ∀ i j H,Ab4 K H (gd i j) (g i j)):OpD K 0 (rI C g) (g2C C' gd):=fun P H x y a b d Q hP ra rb e k=>by
 unfold g2C at e
 split at e
 ·rename_i i j
  obtain⟨hc,rfl⟩:=dS e
  exact⟨i,j,Aau.mp ra,Aau.mp rb,hC i j hc,k.zero Ext.refl (h i j _)⟩
 ·cases e
end
section
variable {X:Cx}{a b c:aW}{fa fb fc:EF}{pos:cC}
noncomputable def nD:aA->aA->Option aA:=g2I fun i j=>.int (i - j)
theorem uZ (ha:DE X a fa)(hb:DE X b fb):DE X (.BinOp a .Sub b pos) (eOp nD fa fb):=qI Gy (YD fun _ _ _=>Aau.mpr rfl) ha hb
noncomputable def fO:aA->aA->Option aA:=g2C (fun i j=>(i.natAbs<2 ^ 64 \/ j.natAbs<2 ^ 64) \/ (i.natAbs<2 ^ 1000/\j.natAbs<2 ^ 1000)) fun i j=>.int (i*j)
theorem Nm:OpR X (kZ .Mult) (rI (fun i j=>(i.natAbs<2 ^ 64 \/ j.natAbs<2 ^ 64) \/ (i.natAbs<2 ^ 1000/\j.natAbs<2 ^ 1000)) fun i j=>.int (i*j)):=by
 intro pins s σ H x y v u Q I rx ry h
 obtain⟨i,j,ex,ey,hc,q⟩:=h
 rcases hc with hc | hc
 ·refine Hi pins s σ H x y v u Q I rx ry ⟨i,j,ex,ey,?_,q⟩
  rcases hc with hc | hc
  ·exact .inl ⟨by omega,by omega⟩
  ·exact .inr ⟨by omega,by omega⟩
 ·exact Mh pins s σ H x y v u Q I rx ry ⟨i,j,ex,ey,hc,q⟩
theorem lT (ha:DE X a fa)(hb:DE X b fb):DE X (.BinOp a .Mult b pos) (eOp fO fa fb):=qI Nm (EZ (fun _ _ h=>h) fun _ _ _=>Aau.mpr rfl) ha hb
noncomputable def jW:aA->aA->Option aA:=g2C (fun _ j=>0<j/\j<1073741824) fun i j=>.int (i / j)
theorem yJ (ha:DE X a fa)(hb:DE X b fb):DE X (.BinOp a .FloorDiv b pos) (eOp jW fa fb):=qI Jk (EZ (fun _ _ h=>h) fun _ _ _=>Aau.mpr rfl) ha hb
noncomputable def bT:aA->aA->Option aA:=g2C (fun _ j=>0<j) fun i j=>.int (i%j)
theorem dU (ha:DE X a fa)(hb:DE X b fb):DE X (.BinOp a .Mod b pos) (eOp bT fa fb):=qI Fx (EZ (fun _ _ h=>h) fun _ _ _=>Aau.mpr rfl) ha hb
noncomputable def sA:aA->aA->Option aA:=g2C (fun i j=>0≤j/\j≤1000000/\i.natAbs<2 ^ 64) fun i j=>.int (i ^ j.toNat)
theorem LK (ha:DE X a fa)(hb:DE X b fb):DE X (.BinOp a .Pow b pos) (eOp sA fa fb):=qI Je (EZ (fun _ _ h=>h) fun _ _ _=>Aau.mpr rfl) ha hb
noncomputable def xT:aA->Option aA
 | .int i=>some (.int (-i))
 | _=>none
theorem Gp (ha:DE X a fa):DE X (.UnaryOp .USub a pos) (eUn xT fa):=Ei Ij (fun P H x a d Q hP r e k=>by
 unfold xT at e
 split at e
 ·cases e
  exact⟨_,Aau.mp r,k.zero Ext.refl (Aau.mpr rfl)⟩
 ·cases e) ha
theorem KC {x y:aB}(hx:cD (.str x)=true)(hy:cD (.str y)=true):cD (.str (x++y))=true:=by
 have e:(x++y).cps=x.cps++y.cps:=rfl
 simp only[cD,tV] at hx hy ⊢
 rw[e,Cs,hx,hy]
 rfl
noncomputable def cB:aA->aA->Option aA
 | .int i,.int j=>some (.int (i+j))
 | .str x,.str y=>if x.length+y.length≤sizeLine then some (.str (x++y)) else none
 | .tuple (x::xs),.tuple ys=>if (x::xs).length+ys.length≤sizeLine then some (.tuple ((x::xs)++ys)) else none
 | _,_=>none
theorem Kb {K:aK}:OpD K 0 (fun x y H Q=>rI0 (fun i j=>.int (i+j)) x y H Q \/ (∃ i j,x = .str i/\y = .str j/\i.length+j.length≤sizeLine/\Q (.str (i++j)) H) \/ HF K x y H Q) cB:=fun P H x y a b d Q hP ra rb e k=>by
 unfold cB at e
 split at e
 ·rename_i i j
  cases e
  exact .inl ⟨i,j,Aau.mp ra,Aau.mp rb,k.zero Ext.refl (Aau.mpr rfl)⟩
 ·rename_i i j
  obtain⟨hc,rfl⟩:=dS e
  exact .inr (.inl ⟨i,j,(Aap.mp ra).1,(Aap.mp rb).1,hc,k.zero Ext.refl (Aap.mpr ⟨rfl,KC (Aap.mp ra).2 (Aap.mp rb).2⟩)⟩)
 ·rename_i z zs ys
  obtain⟨hc,rfl⟩:=dS e
  obtain⟨p,us,rfl,hp,r1⟩:=Aa4.mp ra
  obtain⟨q,ws,rfl,hq,r2⟩:=Aa4.mp rb
  have l1:=r1.length
  have l2:=r2.length
  refine .inr (.inr ⟨p,q,us,ws,rfl,rfl,SqT.of (Abd _ _ hp),SqT.of (Abd _ _ hq),fun z=>by rw[z] at l1; simp at l1,by rw[l1,l2]; exact hc,fun z=>?_,fun z r hr=>?_⟩)
  ·subst z
   have:ys=[]:=by simpa using l2.symm
   subst this
   refine k.zero Ext.refl ?_
   rw[rS]
   exact ra
  ·exact k.tup hP hr (r1.append r2)
 ·cases e
theorem dC (ha:DE X a fa)(hb:DE X b fb):DE X (.BinOp a .Add b pos) (eOp cB fa fb):=qI (Bes.or (Ay9.or A0e)) Kb ha hb
mutual
noncomputable def noDict:aA->Bool
 | .dict _=>false
 | .list ds=>noDicts ds
 | .tuple ds=>noDicts ds
 | _=>true
noncomputable def noDicts:List aA->Bool
 | []=>true
 | d::r=>noDict d&&noDicts r
end
mutual
theorem qV {X:Cx}{pins:List (aD×aY)}{σ:St}{H:Hp}{s:aG}(I:Inv X pins σ H s) : ∀ {d:aA} {v:V} {u:aE},noDict d=true->Ab4 X.K H d v->RelV v u->d.canLay0=true /\ ∃ as,mE s.heap u d as
 | .none,v,u,_,h,r=>by
  obtain rfl:=Abw.mp h
  cases r; exact⟨by simp[cD],_,.none⟩
 | .bool b,v,u,_,h,r=>by
  obtain rfl:=Aas.mp h
  cases r; exact⟨by simp[cD],_,.bool b⟩
 | .int i,v,u,_,h,r=>by
  obtain rfl:=Aau.mp h
  obtain⟨t,rfl⟩:=r; exact⟨by simp[cD],_,.int i t⟩
 | .str x,v,u,_,h,r=>by
  obtain⟨rfl,hl⟩:=Aap.mp h
  obtain⟨t,rfl⟩:=r; exact⟨hl,_,.str x t⟩
 | .list ds,v,u,n,h,r=>by
  obtain⟨a,xs,rfl,hs,hr⟩:=Abp.mp h
  cases r
  obtain⟨its,rv,⟨o,m,e,hc,_,hd⟩,_⟩:=I.list hs
  obtain⟨hl,as,ha⟩:=KH I (by simpa [noDict] using n) hr rv
  exact⟨by simpa [cD] using hl,_,.list e hc hd (by simpa using ha)⟩
 | .tuple ds,v,u,n,h,r=>by
  obtain⟨a,xs,rfl,hs,hr⟩:=Aa4.mp h
  cases r
  obtain⟨its,rv,⟨o,e,hc,m,hd⟩,_⟩:=I.tuple (SqT.of hs)
  obtain⟨hl,as,ha⟩:=KH I (by simpa [noDict] using n) hr rv
  exact⟨by simpa [cD] using hl,_,.tuple e hc hd (by simpa using ha)⟩
 | .dict _,_,_,n,h,_=>by simp[noDict] at n
theorem KH {X:Cx}{pins:List (aD×aY)}{σ:St}{H:Hp}{s:aG}(I:Inv X pins σ H s) : ∀ {ds:List aA} {vs:List V} {us:List aE},noDicts ds=true->Aaw X.K H ds vs->Vals vs us->AR ds=true /\ ∃ as,nP s.heap us ds as
 | [],vs,us,_,h,r=>by
  obtain rfl:=Aax.mp h
  cases r; exact⟨by simp[AR],_,.nil⟩
 | d::ds,vs,us,n,h,r=>by
  have n':noDict d=true/\noDicts ds=true:=by simpa [noDicts] using n
  obtain⟨x,rr,rfl,h1,h2⟩:=Aao.mp h
  cases r with
  | cons r1 r2=>
   obtain⟨l1,as,ha⟩:=qV I n'.1 h1 r1
   obtain⟨l2,bs,hb⟩:=KH I n'.2 h2 r2
   exact⟨by simp[AR,l1,l2],_,.cons ha hb⟩
end
noncomputable def eA (d:aA):Bool:=noDict d&&decide (d.depth≤60)
noncomputable def gEq:aA->aA->Option aA:=fun a b=>if (eA a&&eA b)=true then some (.bool (cV a b)) else none
noncomputable def gNe:aA->aA->Option aA:=fun a b=>if (eA a&&eA b)=true then some (.bool (!cV a b)) else none
noncomputable def BO (K:aK)(neg:Bool):R2:=fun x y H Q=>∃ da db,Ab4 K H da x/\Ab4 K H db y/\eA da=true/\eA db=true/\Q (.bl (neg != cV da db)) H
theorem iN (hu:X.A.units+100<cLine):OpR X (iC .Eq) (BO X.K false):=by
 intro pins s σ H x y v u Q I rx ry h
 obtain⟨da,db,ra,rb,fa,fb,q⟩:=h
 have fa':noDict da=true/\da.depth≤60:=by simpa [eA] using fa
 have fb':noDict db=true/\db.depth≤60:=by simpa [eA] using fb
 obtain⟨la,as,ra⟩:=qV I fa'.1 ra rx
 obtain⟨lb,bs,rb⟩:=qV I fb'.1 rb ry
 exact SeqAt.compareEq_reads ra rb la lb (by omega) ⟨.bl _,H,I,rfl,by simpa using q⟩
theorem Gm (hu:X.A.units+100<cLine):OpR X (iC .NotEq) (BO X.K true):=by
 intro pins s σ H x y v u Q I rx ry h
 obtain⟨da,db,ra,rb,fa,fb,q⟩:=h
 have fa':noDict da=true/\da.depth≤60:=by simpa [eA] using fa
 have fb':noDict db=true/\db.depth≤60:=by simpa [eA] using fb
 obtain⟨la,as,ra⟩:=qV I fa'.1 ra rx
 obtain⟨lb,bs,rb⟩:=qV I fb'.1 rb ry
 exact SeqAt.compareNe_reads ra rb la lb (by omega) ⟨.bl _,H,I,rfl,by simpa using q⟩
theorem iM {K:aK}:OpD K 0 (BO K false) gEq:=fun P H x y a b d Q hP ra rb e k=>by
 obtain⟨hc,rfl⟩:=dS e
 have hc':eA a=true/\eA b=true:=by simpa using hc
 exact⟨a,b,ra.ext Abd,rb.ext Abd,hc'.1,hc'.2,k.zero Ext.refl (Aas.mpr (by simp))⟩
theorem Ie {K:aK}:OpD K 0 (BO K true) gNe:=fun P H x y a b d Q hP ra rb e k=>by
 obtain⟨hc,rfl⟩:=dS e
 have hc':eA a=true/\eA b=true:=by simpa using hc
 exact⟨a,b,ra.ext Abd,rb.ext Abd,hc'.1,hc'.2,k.zero Ext.refl (Aas.mpr (by simp))⟩
noncomputable def NH (K:aK)(neg:Bool):R2:=fun x y H Q=>∃ d ds,Ab4 K H d x/\(Ab4 K H (.list ds) y \/ Ab4 K H (.tuple ds) y)/\eA d=true/\noDicts ds=true/\Q (.bl (neg != ds.any fun z=>cV z d)) H
theorem Fy (hu:X.A.units+100<cLine):OpR X (iC .In) (NH X.K false):=by
 intro pins s σ H x y v u Q I rx ry h
 obtain⟨d,ds,ra,rb,fa,fb,q⟩:=h
 have fa':noDict d=true/\d.depth≤60:=by simpa [eA] using fa
 obtain⟨la,as,ra⟩:=qV I fa'.1 ra rx
 rcases rb with rb | rb
 ·obtain⟨lb,bs,rb⟩:=qV I (by simpa [noDict] using fb) rb ry
  exact SeqAt.in_list_reads rb ra (by simpa [cD] using lb) la (by omega) ⟨.bl _,H,I,rfl,by simpa using q⟩
 ·obtain⟨lb,bs,rb⟩:=qV I (by simpa [noDict] using fb) rb ry
  exact SeqAt.in_tuple_reads rb ra (by simpa [cD] using lb) la (by omega) ⟨.bl _,H,I,rfl,by simpa using q⟩
end
theorem PE.or {X:Cx}{e:aW}{t t':TE}(h:PE X e t)(h':PE X e t'):PE X e (fun σ H Q=>t σ H Q \/ t' σ H Q):=fun pins s σ H Q I q=>q.elim (h pins s σ H Q I) (h' pins s σ H Q I)
noncomputable def gLt:aA->aA->Option aA
 | .int i,.int j=>some (.bool (decide (i<j)))
 | .str i,.str j=>some (.bool (decide (i.cps.toList<j.cps.toList)))
 | _,_=>none
noncomputable def gLe:aA->aA->Option aA
 | .int i,.int j=>some (.bool (decide (i≤j)))
 | .str i,.str j=>some (.bool (!(decide (j.cps.toList<i.cps.toList))))
 | _,_=>none
noncomputable def gGt:aA->aA->Option aA:=g2I fun i j=>.bool (decide (j<i))
section
variable {K:aK}
theorem CA:OpD K 0 (fun x y H Q=>rI0 (fun i j=>.bl (decide (i<j))) x y H Q \/ ∃ i j,x = .str i/\y = .str j/\Q (.bl (decide (i.cps.toList<j.cps.toList))) H) gLt:=fun P H x y a b d Q hP ra rb e k=>by
 unfold gLt at e
 split at e
 ·cases e
  exact .inl ⟨_,_,Aau.mp ra,Aau.mp rb,k.zero Ext.refl (Aas.mpr rfl)⟩
 ·cases e
  exact .inr ⟨_,_,(Aap.mp ra).1,(Aap.mp rb).1,k.zero Ext.refl (Aas.mpr rfl)⟩
 ·cases e
theorem sM:OpD K 0 (fun x y H Q=>rI0 (fun i j=>.bl (decide (i≤j))) x y H Q \/ NR x y H Q) gLe:=fun P H x y a b d Q hP ra rb e k=>by
 unfold gLe at e
 split at e
 ·cases e
  exact .inl ⟨_,_,Aau.mp ra,Aau.mp rb,k.zero Ext.refl (Aas.mpr rfl)⟩
 ·cases e
  exact .inr ⟨_,_,(Aap.mp ra).1,(Aap.mp rb).1,k.zero Ext.refl (Aas.mpr rfl)⟩
 ·cases e
theorem yE:OpD K 0 (rI0 fun i j=>.bl (decide (j<i))) gGt:=YD fun _ _ _=>Aas.mpr rfl
noncomputable def GR:aA->aA->Option aA
 | .none,.none=>some (.bool true)
 | _,.none=>some (.bool false)
 | _,_=>none
theorem Nh {H:Hp}{a:aA}{x:V}(r:Ab4 K H a x):decide (x = .non)=(match a with | .none=>true | _=>false):=by
 cases a with
 | none=>obtain rfl:=Abw.mp r; rfl
 | bool b=>obtain rfl:=Aas.mp r; rfl
 | int b=>obtain rfl:=Aau.mp r; rfl
 | str b=>obtain⟨rfl,_⟩:=Aap.mp r; rfl
 | list b=>obtain⟨_,_,rfl,_⟩:=Abp.mp r; rfl
 | tuple b=>obtain⟨_,_,rfl,_⟩:=Aa4.mp r; rfl
 | dict b=>obtain⟨_,rfl,_⟩:=Acd.mp r; rfl
theorem Km:OpD K 0 (fun x y H Q=>y = .non/\Q (.bl (decide (x = .non))) H) GR:=fun P H x y a b d Q hP ra rb e k=>by
 have q:=Nh ra
 unfold GR at e
 split at e
 ·cases e
  exact⟨Abw.mp rb,k.zero Ext.refl (Aas.mpr (by rw[q]))⟩
 ·rename_i h
  cases e
  refine⟨Abw.mp rb,k.zero Ext.refl (Aas.mpr ?_)⟩
  rw[q]
  cases a <;> first | rfl | exact(h rfl).elim
 ·cases e
end
noncomputable def fP:aA->Option aO
 | .int i=>some (.inl i)
 | .str x=>some (.inr x)
 | _=>none
theorem VQ {d:aA}{k:aO}(h:fP d=some k):d=kD k:=by
 cases d <;> simp[fP] at h <;> subst h <;> rfl
noncomputable def jE (kds:List (aA×aA))(k:aO):Option aA:=(kds.find? fun kd=>decide (fP kd.1=some k)).map (·.2)
theorem yL (k:aO):fP (kD k)=some k:=by cases k <;> rfl
theorem JO {K:aK}{H:Hp}{k:aO} : ∀ {kds:List (aA×aA)} {kvs:List (aO×V)},Acv K H kds kvs->(jE kds k=none/\jK kvs k=none) \/ ∃ d v,jE kds k=some d/\jK kvs k=some v/\Ab4 K H d v
 | [],kvs,h=>by rw[Acu.mp h]; exact .inl ⟨rfl,rfl⟩
 | (k0,d)::r,kvs,h=>by
  obtain⟨k',x,rr,rfl,rfl,h1,h2⟩:=Abn.mp h
  by_cases e:k'=k
  ·refine .inr ⟨d,x,?_,yO e,h1⟩
   simp[jE,oU,yL,e]
  ·have e1:jE ((kD k',d)::r) k=jE r k:=by simp[jE,oU,yL,e]
   rw[e1,yK e]
   exact JO h2
theorem WV {K:aK}{H:Hp}{k:aO} : ∀ {kds:List (aA×aA)} {kvs:List (List aA×V)},Aeb K H kds kvs->jE kds k=none
 | [],kvs,h=>rfl
 | (k0,d)::r,kvs,h=>by
  obtain⟨k',x,rr,rfl,⟨rfl,_⟩,h1,h2⟩:=Ac0.mp h
  have e1:jE ((.tuple k',d)::r) k=jE r k:=by simp[jE,oU,fP]
  rw[e1]
  exact WV h2
theorem Vh {K:aK}{H:Hp}{k:aO}{kds:List (aA×aA)}{v:V}{d:aA}(h:Ab4 K H (.dict kds) v)(e:jE kds k=some d) : ∃ a,∃ kvs:Nat×List (aO×V),v = .ref a/\H a=some (.dK kvs.1 kvs.2)/\Acv K H kds kvs.2:=by
 obtain⟨a,ev,⟨kvs,h1,r⟩ | ⟨ts,h1,r⟩ | ⟨xs,h1,r⟩ | r⟩:=Acd.mp h
 case inr.inr.inr=>
  obtain⟨_,_,rfl⟩:=r.mark
  cases e
 case inr.inr.inl=>
  obtain⟨es,rfl,_⟩:=yU r
  cases e
 ·exact⟨a,kvs,ev,h1,r⟩
 ·cases kds with
  | nil=>simp[Aze] at r
  | cons p q=>
   obtain⟨k0,m⟩:=p
   obtain⟨rfl,r2⟩:=Ael.mp r
   have e1:jE ((.none,m)::q) k=jE q k:=by simp[jE,oU,fP]
   rw[e1,WV r2] at e
   cases e
noncomputable def sL (kds:List (aA×aA))(k:List aA):Option aA:=(kds.find? fun kd=>cV kd.1 (.tuple k)).map (·.2)
theorem Mr (a b:List aA):cV (.tuple a) (.tuple b)=AQ a b:=by simp[cV]
theorem Ot {a k:List aA}{d:aA}{r:List (aA×aA)}(ha:cG a=true)(hk:cG k=true):sL ((.tuple a,d)::r) k=if a=k then some d else sL r k:=by
 have e:cV (.tuple a) (.tuple k)=decide (a=k):=by rw[Mr,DH _ _ ha hk]
 unfold sL
 rw[oU,e]
 by_cases h:a=k
 ·rw[if_pos h,decide_eq_true h]; rfl
 ·rw[if_neg h,decide_eq_false h]
theorem VE {K:aK}{H:Hp}{k:List aA}(hk:cG k=true) : ∀ {kds:List (aA×aA)} {kvs:List (List aA×V)},Aeb K H kds kvs->(sL kds k=none/\jK kvs k=none) \/ ∃ d v,sL kds k=some d/\jK kvs k=some v/\Ab4 K H d v
 | [],kvs,h=>by rw[Afu.mp h]; exact .inl ⟨rfl,rfl⟩
 | (k0,d)::r,kvs,h=>by
  obtain⟨k',x,rr,rfl,⟨rfl,hk'⟩,h1,h2⟩:=Ac0.mp h
  rw[Ot hk' hk]
  by_cases e:k'=k
  ·rw[if_pos e]
   exact .inr ⟨d,x,rfl,yO e,h1⟩
  ·rw[if_neg e,yK e]
   exact VE hk h2
noncomputable def putD (kds:List (aA×aA))(k:aO)(d:aA):List (aA×aA):=
 if (kds.any fun kd=>decide (fP kd.1=some k))=true then kds.map fun kd=>if fP kd.1=some k then(kd.1,d) else kd else kds++[(kD k,d)]
theorem Ae {K:aK}{H:Hp}{k:aO} : ∀ {kds:List (aA×aA)} {kvs:List (aO×V)},Acv K H kds kvs->(kds.any fun kd=>decide (fP kd.1=some k))=kvs.any fun kv=>decide (kv.1=k)
 | [],kvs,h=>by rw[Acu.mp h]; rfl
 | (k0,d)::r,kvs,h=>by
  obtain⟨k',x,rr,rfl,rfl,h1,h2⟩:=Abn.mp h
  rw[BE,BE,Ae h2,yL]
  simp
theorem IM {K:aK}{H:Hp}{k:aO}{d:aA}{v:V}(rv:Ab4 K H d v) : ∀ {kds:List (aA×aA)} {kvs:List (aO×V)},Acv K H kds kvs ->
  Acv K H (kds.map fun kd=>if fP kd.1=some k then(kd.1,d) else kd) (kvs.map fun kv=>if kv.1=k then(kv.1,v) else kv)
 | [],kvs,h=>by rw[Acu.mp h]; exact Acu.mpr rfl
 | (k0,d0)::r,kvs,h=>by
  obtain⟨k',x,rr,rfl,rfl,h1,h2⟩:=Abn.mp h
  rw[fE,fE]
  by_cases e:k'=k
  ·rw[if_pos (show fP (kD k',d0).1=some k by rw[yL,e]),if_pos (show(k',x).1=k from e)]
   exact Abn.mpr ⟨k',v,_,rfl,rfl,rv,IM rv h2⟩
  ·rw[if_neg (show ¬ fP (kD k',d0).1=some k by rw[yL]; simpa using e),if_neg (show ¬ (k',x).1=k from e)]
   exact Abn.mpr ⟨k',x,_,rfl,rfl,h1,IM rv h2⟩
theorem Acv.snoc {K:aK}{H:Hp}{k:aO}{d:aA}{v:V}(rv:Ab4 K H d v) : ∀ {kds:List (aA×aA)} {kvs:List (aO×V)},Acv K H kds kvs->Acv K H (kds++[(kD k,d)]) (kvs++[(k,v)])
 | [],kvs,h=>by rw[Acu.mp h]; exact Abn.mpr ⟨k,v,[],rfl,rfl,rv,Acu.mpr rfl⟩
 | (k0,d0)::r,kvs,h=>by
  obtain⟨k',x,rr,rfl,rfl,h1,h2⟩:=Abn.mp h
  exact Abn.mpr ⟨k',x,_,rfl,rfl,h1,Acv.snoc rv h2⟩
theorem Mv {K:aK}{H:Hp}{k:aO}{d:aA}{v:V}{kds:List (aA×aA)}{kvs:List (aO×V)}(h:Acv K H kds kvs)(rv:Ab4 K H d v):Acv K H (putD kds k d) (putK kvs k v):=by
 unfold putD putK
 rw[Ae h]
 by_cases q:(kvs.any fun kv=>decide (kv.1=k))=true
 ·rw[if_pos q,if_pos q]; exact IM rv h
 ·rw[if_neg q,if_neg q]; exact Acv.snoc rv h
theorem Acv.length {K:aK}{H:Hp} : ∀ {kds:List (aA×aA)} {kvs:List (aO×V)},Acv K H kds kvs->kvs.length=kds.length
 | [],kvs,h=>by rw[Acu.mp h]; rfl
 | (k0,d0)::r,kvs,h=>by
  obtain⟨k',x,rr,rfl,rfl,h1,h2⟩:=Abn.mp h
  rw[fI,fI,Acv.length h2]
theorem DL {K:aK}{H:Hp}{d:aA}{x:V}{k:aO}(h:fP d=some k)(r:Ab4 K H d x):x=kV k:=by
 rw[VQ h] at r
 exact Ri r
noncomputable def gIx:aA->aA->Option aA
 | .list ds,.int i=>atI ds i
 | .tuple ds,.int i=>atI ds i
 | .str z,.int i=>if z.length≤sizeLine then(atI z.cps.toList i).bind fun c=>some (.str ⟨#[c]⟩) else none
 | .dict kds,d=>(fP d).bind fun k=>jE kds k
 | _,_=>none
theorem PZ {K:aK}{H:Hp}{ds:List aA}{xs:List V}{i:Int}{d:aA}(r:Aaw K H ds xs)(h:atI ds i=some d) : ∃ v,atI xs i=some v/\Ab4 K H d v:=by
 unfold atI at h ⊢
 rw[r.length]
 obtain⟨j,h1,h2⟩:=XBs h
 obtain⟨v,h3,h4⟩:=r.get h2
 exact⟨v,by rw[h1]; exact h3,h4⟩
theorem Lp {α:Type}{xs:List α}{i:Int}{x:α}(h:atI xs i=some x) : ∃ j:Nat,xs[j]?=some x:=by
 unfold atI at h
 obtain⟨j,h1,h2⟩:=XBs h
 exact⟨j,h2⟩
section
variable {X:Cx}{a b e:aW}{es:List aW}{fa fb f:EF}{pos p:cC}
theorem cT (hu:X.A.units+40<cLine)(ha:DE X a fa)(hb:DE X b fb)(hs:ZV b):DE X (.Subscript a b pos) (eOp gIx fa fb):=PE.imp (PE.or (Ec Gj ha hb hs) (Me hu ha hb hs)) fun σ H Q h=>by
 obtain⟨P,ρ,d,hP,rs,ef,k⟩:=h
 obtain⟨d1,e1,ef2⟩:=XBs ef
 obtain⟨d2,e2,ef3⟩:=XBs ef2
 clear ef ef2
 have seq:(∀ (H2:Hp) (v u:V),Ext H H2->Ab4 X.K (hid H2 P) d1 v->Ab4 X.K (hid H2 P) d2 u->rIx X.K v u H2 Q)->tOp (rIx X.K) (tF X.K 0 fa) (tF X.K 0 fb) σ H Q:=fun z=>
  ⟨P,ρ,d1,hP,rs,e1,dB fun v H1 x1 r1=>⟨P,ρ,d2,hP.ext x1,rs.ext (cW x1),e2,dB fun u H2 x2 r2=>z H2 v u (x1.trans x2) (r1.ext (cW x2)) r2⟩⟩
 cases d1 with
 | list ds=>
  cases d2 with
  | int i=>
   refine .inl (seq fun H2 v u x r1 r2=>.inl ?_)
   obtain⟨q,xs,rfl,hq,rr⟩:=Abp.mp r1
   obtain⟨w,h1,h2⟩:=PZ rr (show atI ds i=some d from ef3)
   exact⟨q,xs,i,w,rfl,Aau.mp r2,Abd.sqL hq,h1,k.zero x h2⟩
  | _=>cases ef3
 | tuple ds=>
  cases d2 with
  | int i=>
   refine .inl (seq fun H2 v u x r1 r2=>.inr (.inl ?_))
   obtain⟨q,xs,rfl,hq,rr⟩:=Aa4.mp r1
   obtain⟨w,h1,h2⟩:=PZ rr (show atI ds i=some d from ef3)
   exact⟨q,xs,i,w,rfl,Aau.mp r2,SqT.of (Abd _ _ hq),h1,k.zero x h2⟩
  | _=>cases ef3
 | str z=>
  cases d2 with
  | int i=>
   have ef3:(if z.length≤sizeLine then(atI z.cps.toList i).bind fun c=>some (.str ⟨#[c]⟩) else none)=some d:=ef3
   by_cases hz:z.length≤sizeLine
   ·rw[if_pos hz] at ef3
    obtain⟨c,h1,h2⟩:=XBs ef3
    cases h2
    obtain⟨j,hj⟩:=Lp h1
    refine .inl (seq fun H2 v u x r1 r2=>.inr (.inr ⟨z,i,c,(Aap.mp r1).1,Aau.mp r2,hz,h1,k.zero x (Aap.mpr ⟨rfl,IK (Aap.mp r1).2 hj⟩)⟩))
   ·rw[if_neg hz] at ef3; cases ef3
  | _=>cases ef3
 | dict kds=>
  obtain⟨kk,h1,h2⟩:=XBs (show((fP d2).bind fun k=>jE kds k)=some d by cases d2 <;> exact ef3)
  refine .inr ⟨P,ρ,_,hP,rs,e1,dB fun v H1 x1 r1=>⟨P,ρ,d2,hP.ext x1,rs.ext (cW x1),e2,dB fun u H2 x2 r2=>?_⟩⟩
  obtain⟨q,kvs,rfl,hq,rr⟩:=Vh (r1.ext (cW x2)) h2
  rcases JO rr with⟨n1,_⟩ | ⟨d',v',s1,s2,rd⟩
  ·rw[h2] at n1; cases n1
  ·rw[h2] at s1
   cases s1
   refine⟨q,v',rfl,.inl ⟨kvs.1,kvs.2,kk,.inl (Abd _ _ hq),DL h1 r2,s2.symm⟩,k.zero (x1.trans x2) rd⟩
 | _=>cases d2 <;> cases ef3
noncomputable def NP (neg:Bool):aA->List (aA×aA)->Option aA
 | .tuple _,(_,.list _)::_=>none
 | .tuple _,(_,.str _)::_=>none
 | .tuple k,(_,_)::kds=>if (cG k&&decide (dJ k≤6))=true then some (.bool (neg != (sL kds k).isSome)) else none
 | _,_=>none
noncomputable def gIn (neg:Bool):aA->aA->Option aA
 | d,.list ds=>if (eA d&&noDicts ds)=true then some (.bool (neg != ds.any fun z=>cV z d)) else none
 | d,.tuple ds=>if (eA d&&noDicts ds)=true then some (.bool (neg != ds.any fun z=>cV z d)) else none
 | .str i,.str j=>some (.bool (neg != !(iS j i 0 j.length 1).isEmpty))
 | d,.dict kds=>if plK kds=true then(fP d).bind fun k=>some (.bool (neg != (jE kds k).isSome)) else NP neg d kds
 | _,_=>none
noncomputable def YK (K:aK)(neg:Bool):R2:=fun x y H Q=>NH K neg x y H Q \/ (∃ i j,x = .str i/\y = .str j/\Q (.bl (neg != !(iS j i 0 j.length 1).isEmpty)) H) \/ ∃ a o,y = .ref a/\xV H a x o/\Q (.bl (neg != o.isSome)) H
theorem CP (hu:X.A.units+100<cLine):OpR X (iC .In) (YK X.K false):=by
 intro pins s σ H x y v u Q I rx ry h
 rcases h with h | ⟨i,j,ex,ey,q⟩ | ⟨a,o,rfl,g,q⟩
 ·exact Fy hu pins s σ H x y v u Q I rx ry h
 ·exact Xd pins s σ H x y v u Q I rx ry ⟨i,j,ex,ey,by simpa using q⟩
 ·cases ry
  exact Cy (by omega) I g rx fun s' I'=>⟨.bl _,H,I',rfl,by simpa using q⟩
theorem CB {K:aK}{neg:Bool}:OpD K 0 (YK K neg) (gIn neg):=fun P H x y a b d Q hP ra rb e k=>by
 unfold gIn at e
 split at e
 ·obtain⟨hc,rfl⟩:=dS e
  have hc':=qB.mp hc
  exact .inl ⟨a,_,ra.ext Abd,.inl (rb.ext Abd),hc'.1,hc'.2,k.zero Ext.refl (Aas.mpr rfl)⟩
 ·obtain⟨hc,rfl⟩:=dS e
  have hc':=qB.mp hc
  exact .inl ⟨a,_,ra.ext Abd,.inr (rb.ext Abd),hc'.1,hc'.2,k.zero Ext.refl (Aas.mpr rfl)⟩
 ·cases e
  exact .inr (.inl ⟨_,_,(Aap.mp ra).1,(Aap.mp rb).1,k.zero Ext.refl (Aas.mpr rfl)⟩)
 ·rename_i kds
  by_cases pk:plK kds=true
  case neg=>
   rw[if_neg pk] at e
   have ek : ∃ m r,kds=(.none,m)::r:=by
    cases kds with
    | nil=>simp[plK] at pk
    | cons p r=>
     obtain⟨k0,m⟩:=p
     cases k0 <;> simp[plK] at pk
     exact⟨m,r,rfl⟩
   obtain⟨m,r,rfl⟩:=ek
   cases a with
   | tuple kk=>
    have hm : ∀ es,m ≠ .list es:=by
     rintro es rfl
     cases e
    have hm2 : ∀ c,m ≠ .str c:=by
     rintro c rfl
     cases e
    replace e:(if (cG kk&&decide (dJ kk≤6))=true then some (eO (neg != (sL r kk).isSome)) else none)=some d:=by
     cases m with
     | list es=>exact absurd rfl (hm es)
     | str es=>cases e
     | _=>exact e
    obtain⟨hc,rfl⟩:=dS e
    have hc':cG kk=true/\dJ kk≤6:=by simpa using hc
    obtain⟨q,ts,rfl,hq,rr⟩:=(vQ hm hm2).mp rb
    obtain⟨b,xs,rfl,hb,rx⟩:=Aa4.mp (ra.ext Abd)
    refine .inr (.inr ⟨q,jK ts.2 kk,rfl,.inr ⟨ts.2,kk,b,⟨_,.inl (Abd _ _ hq)⟩,rfl,⟨hc'.1,hc'.2,xs,hb,Aaw.keys kk hc'.1 rx⟩,rfl⟩,k.zero Ext.refl (Aas.mpr ?_)⟩)
    rcases VE hc'.1 rr with⟨n1,n2⟩ | ⟨d',v',s1,s2,rd⟩
    ·rw[n1,n2]; rfl
    ·rw[s1,s2]; rfl
   | _=>simp[NP] at e
  rw[if_pos pk] at e
  obtain⟨kk,h1,h2⟩:=XBs e
  cases h2
  obtain⟨q,kvs,rfl,hq,rr⟩:=(IW pk).mp rb
  refine .inr (.inr ⟨q,jK kvs.2 kk,rfl,.inl ⟨kvs.1,kvs.2,kk,.inl (Abd _ _ hq),DL h1 ra,rfl⟩,k.zero Ext.refl (Aas.mpr ?_)⟩)
  rcases JO rr with⟨n1,n2⟩ | ⟨d',v',s1,s2,rd⟩
  ·rw[n1,n2]; rfl
  ·rw[s1,s2]; rfl
 ·cases e
end
noncomputable def cI:List aA->Option aA
 | [.list ds]=>some (.int ds.length)
 | [.tuple ds]=>some (.int ds.length)
 | [.dict kds]=>if plK kds=true then some (.int kds.length) else none
 | [.str z]=>if z.length≤sizeLine then some (.int z.length) else none
 | _=>none
theorem jH {K:aK}{H:Hp}{d:aA}{xs:List V}(r:Aaw K H [d] xs) : ∃ v,xs=[v]/\Ab4 K H d v:=by
 obtain⟨v,t,rfl,h1,h2⟩:=Aao.mp r
 obtain rfl:=Aax.mp h2
 exact⟨v,rfl,h1⟩
section
variable {X:Cx}
def NM (K:aK):List V->Hp->VK->Prop:=fun xs H Q=>(∃ p ys,xs=[.ref p]/\(SqL K H p ys \/ SqT K H p ys)/\Q (.int ys.length) H) \/ (∃ z,xs=[.str z]/\z.length≤sizeLine/\Q (.int z.length) H) \/ ∃ a ep kvs,xs=[V.ref a]/\H a=some (.dK ep kvs)/\Q (.int kvs.length) H
theorem gR:Aeq X (.builtin "len") (NM X.K):=Ara.or (Aq1.or Xt)
theorem gQ {K:aK}:CallD K 0 (NM K) cI:=fun P H xs ds d Q hP r e k=>by
 unfold cI at e
 split at e
 ·cases e
  obtain⟨v,rfl,r'⟩:=jH r
  replace r:=r'
  obtain⟨q,ys,rfl,hq,rr⟩:=Abp.mp r
  exact .inl ⟨q,ys,rfl,.inl (Abd.sqL hq),k.zero Ext.refl (Aau.mpr (by rw[rr.length]))⟩
 ·cases e
  obtain⟨v,rfl,r'⟩:=jH r
  replace r:=r'
  obtain⟨q,ys,rfl,hq,rr⟩:=Aa4.mp r
  exact .inl ⟨q,ys,rfl,.inr (SqT.of (Abd _ _ hq)),k.zero Ext.refl (Aau.mpr (by rw[rr.length]))⟩
 ·obtain⟨pk,rfl⟩:=dS e
  obtain⟨v,rfl,r'⟩:=jH r
  replace r:=r'
  obtain⟨q,ys,rfl,hq,rr⟩:=(IW pk).mp r
  exact .inr (.inr ⟨q,ys.1,ys.2,rfl,Abd _ _ hq,k.zero Ext.refl (Aau.mpr (by rw[rr.length]))⟩)
 ·obtain⟨hz,rfl⟩:=dS e
  obtain⟨v,rfl,r'⟩:=jH r
  replace r:=r'
  exact .inr (.inl ⟨_,by rw[(Aap.mp r).1],hz,k.zero Ext.refl (Aau.mpr rfl)⟩)
 ·cases e
noncomputable def qG:aA->String
 | .none=>"NoneType"
 | .bool _=>"bool"
 | .int _=>"int"
 | .str _=>"str"
 | .list _=>"list"
 | .tuple _=>"tuple"
 | .dict _=>"dict"
noncomputable def SH:List String:=["int","bool","str","list","tuple","dict"]
theorem Ye (d:aA):qG d∈kinds:=by cases d <;> simp[qG,kinds]
noncomputable def gF (T:String):aA->Option aA
 | .dict ((.none,.str _)::_)=>none
 | d=>some (.bool (isK (qG d) T))
theorem Zc:Aeq X (.builtin "isinstance") (fun xs H Q=>∃ x T d b,xs=[x,.ty T]/\Ab4 X.K H d x/\T∈SH/\gF T d=some (.bool b)/\Q (.bl b) H):=by
 intro pins s σ H xs us Q I r h
 obtain⟨x,T,d,b,rfl,rd,hT,hb,q⟩:=h
 have hb2:b=isK (qG d) T:=by
  unfold gF at hb
  split at hb
  ·cases hb
  ·cases hb; rfl
 subst hb2
 have ek:=Lj (Ye d) hT
 have by_ty:TyOf X.K H x (.type (qG d))->aN (aR X.prog X.w) X.A (call (.builtin "isinstance") us) (EP X pins σ Q) X.xe s:=fun ty=>
  Qk pins s σ H _ us Q I r ⟨x,T,_,isK (qG d) T,rfl,ty,Al6.trans ek,q⟩
 cases d with
 | none=>obtain rfl:=Abw.mp rd; exact by_ty .non
 | bool b=>obtain rfl:=Aas.mp rd; exact by_ty (.bl _)
 | int b=>obtain rfl:=Aau.mp rd; exact by_ty (.int _)
 | str b=>obtain⟨rfl,_⟩:=Aap.mp rd; exact by_ty (.str _)
 | list b=>
  obtain⟨a,ys,rfl,h,_⟩:=Abp.mp rd
  obtain⟨u,w',rfl,ru,rw'⟩:=vals2 r
  cases rw'
  cases ru
  obtain⟨its,_,⟨o,n,e1,hc,_,_⟩,_⟩:=I.list h
  exact mP Av I.kIn ⟨o,e1,hc⟩ (Al6.trans ek) (fun z=>nomatch z) fun tk=>⟨.bl _,H,I.tok tk,rfl,q⟩
 | tuple b=>obtain⟨_,_,rfl,h,_⟩:=Aa4.mp rd; exact by_ty (.tup h)
 | dict b=>
  obtain⟨_,rfl,⟨_,h,_⟩ | ⟨_,h,_⟩ | ⟨_,h,_⟩ | h⟩:=Acd.mp rd
  case inr.inr.inr=>
   obtain⟨_,_,rfl⟩:=h.mark
   cases hb
  ·exact by_ty (.dK h)
  ·exact by_ty (.dT h)
  ·obtain⟨u,w',rfl,ru,rw'⟩:=vals2 r
   cases rw'
   cases ru
   obtain⟨⟨_,_,o,_,e1,hc,_⟩,_⟩:=I.hok _ _ h
   exact mP Ax I.kIn ⟨o,e1,hc.1⟩ (Al6.trans ek) (fun z=>nomatch z) fun tk=>⟨.bl _,H,I.tok tk,rfl,q⟩
variable {e a b:aW}{es:List aW}{f:EF}{fa:AF}{p p2 pos apos cpos:cC}{x:aB}
theorem oA {T:String}(hgl:Gl X "isinstance")(hm:X.mg "isinstance" = none)(hg:Gl X x)(hmx:X.mg x=none)(hv:mO x=some (.type T))(hT:T∈SH)(he:DE X e f)
  (hn:x ≠ "__name__":=by decide) (hd:(x == ("__debug__" : aB))=false:=by decide) (hs1:bI (e::[.Name x p2]) X.env=(false,bZ e X.env)::bI [.Name x p2] X.env:=by rfl)
  (hs2:bI (.Name x p2::[]) X.env=(false,bZ (.Name x p2) X.env)::bI [] X.env:=by rfl) (hpl:(eM pos (bI [.Name x p2] X.env)).any (·.1)=false:=by rfl):DE X (.Call (.Name "isinstance" p) [e,.Name x p2] [] pos) (eUn (gF T) f):=
 PE.imp (CQ Zc hgl hm boot_isinstance (kS he (kS (Et hg hmx hv hn hd) lX hs2) hs1) (by decide) (by decide) hs1 hpl) fun σ H Q gh=>by
  obtain⟨P,ρ,d,hP,rs,ef,k⟩:=gh
  obtain⟨d1,e1,ef⟩:=XBs ef
  have hb : ∃ b,d = .bool b:=by
   unfold gF at ef
   split at ef
   ·cases ef
   ·cases ef; exact⟨_,rfl⟩
  obtain⟨b,rfl⟩:=hb
  exact⟨P,ρ,d1,hP,rs,e1,dB fun v H1 x1 r1=>⟨v,T,d1,b,rfl,r1.ext Abd,hT,ef,k.zero x1 (Aas.mpr rfl)⟩⟩
noncomputable def pE:List aA->Option aA
 | [.list ds]=>some (.tuple ds)
 | [.tuple ds]=>some (.tuple ds)
 | _=>none
theorem zG {K:aK}:CallD K 0 (fun xs H Q=>∃ p ys,xs=[.ref p]/\((SqL K H p ys /\ ∀ l,H l=none->Q (.ref l) (upd H l (.tup ys))) \/ (SqT K H p ys/\Q (.ref p) H))) pE:=fun P H xs ds d Q hP r e k=>by
 unfold pE at e
 split at e
 ·cases e
  obtain⟨v,rfl,r'⟩:=jH r
  replace r:=r'
  obtain⟨q,ys,rfl,hq,rr⟩:=Abp.mp r
  exact⟨q,ys,rfl,.inl ⟨Abd.sqL hq,fun l hl=>k.tup hP hl rr⟩⟩
 ·cases e
  obtain⟨v,rfl,r'⟩:=jH r
  replace r:=r'
  obtain⟨q,ys,rfl,hq,rr⟩:=Aa4.mp r
  exact⟨q,ys,rfl,.inr ⟨SqT.of (Abd _ _ hq),k.zero Ext.refl r⟩⟩
 ·cases e
noncomputable def HH:List aA->Option aA
 | [.list ds]=>some (.list ds)
 | [.tuple ds]=>some (.list ds)
 | [.str z]=>if z.length≤sizeLine then some (.list (z.cps.toList.map fun c=>.str ⟨#[c]⟩)) else none
 | _=>none
def NZ (K:aK):List V->Hp->VK->Prop:=fun xs H Q=>(∃ p ys,xs=[.ref p]/\(SqL K H p ys \/ SqT K H p ys) /\ ∀ l,H l=none->Q (.ref l) (upd H l (.lst ys))) \/ ∃ z:aB,xs=[.str z]/\z.length≤sizeLine /\ ∀ l,H l=none->Q (.ref l) (upd H l (.lst (z.cps.toList.map sG)))
theorem Ry (hc:X.calm=true):Aeq X (.type "list") (NZ X.K):=Atc.or (Pw hc)
theorem VM {K:aK}{H:Hp} : ∀ {cs:List Nat},(∀ c∈cs,cD (.str ⟨#[c]⟩)=true)->Aaw K H (cs.map fun c=>.str ⟨#[c]⟩) (cs.map sG)
 | [],_=>Aax.mpr rfl
 | c::r,h=>Aao.mpr ⟨_,_,rfl,Aap.mpr ⟨rfl,h c bQ⟩,VM fun c' m=>h c' (cA _ m)⟩
theorem Ol {K:aK}:CallD K 1 (NZ K) HH:=fun P H xs ds d Q hP r e k=>by
 unfold HH at e
 split at e
 ·cases e
  obtain⟨v,rfl,r'⟩:=jH r
  replace r:=r'
  obtain⟨q,ys,rfl,hq,rr⟩:=Abp.mp r
  exact .inl ⟨q,ys,rfl,.inl (Abd.sqL hq),fun l hl=>k.lst hP hl rr⟩
 ·cases e
  obtain⟨v,rfl,r'⟩:=jH r
  replace r:=r'
  obtain⟨q,ys,rfl,hq,rr⟩:=Aa4.mp r
  exact .inl ⟨q,ys,rfl,.inr (SqT.of (Abd _ _ hq)),fun l hl=>k.lst hP hl rr⟩
 ·obtain⟨hz,rfl⟩:=dS e
  obtain⟨v,rfl,r'⟩:=jH r
  replace r:=r'
  refine .inr ⟨_,by rw[(Aap.mp r).1],hz,fun l hl=>k.lst hP hl (VM fun c m=>?_)⟩
  obtain⟨j,hj⟩:=List.mem_iff_getElem?.mp m
  exact IK (Aap.mp r).2 hj
 ·cases e
noncomputable def uJ:List aA->Option aA
 | [.int i]=>some (.int i)
 | [.bool b]=>some (.int (if b then 1 else 0))
 | _=>none
theorem Yl {K:aK}:CallD K 0 (fun xs H Q=>(∃ i,xs=[.int i]/\Q (.int i) H) \/ ∃ k,xs=[.bl k]/\Q (.int (if k then 1 else 0)) H) uJ:=fun P H xs ds d Q hP r e k=>by
 unfold uJ at e
 split at e
 ·cases e
  obtain⟨v,rfl,r'⟩:=jH r
  replace r:=r'
  exact .inl ⟨_,by rw[Aau.mp r],k.zero Ext.refl (Aau.mpr rfl)⟩
 ·cases e
  obtain⟨v,rfl,r'⟩:=jH r
  replace r:=r'
  exact .inr ⟨_,by rw[Aas.mp r],k.zero Ext.refl (Aau.mpr rfl)⟩
 ·cases e
noncomputable def GY:List aA->Option aA
 | [.int i]=>some (.int (if i<0 then -i else i))
 | _=>none
theorem Ws {K:aK}:CallD K 0 (fun xs H Q=>∃ i,xs=[.int i]/\Q (.int (if i<0 then -i else i)) H) GY:=fun P H xs ds d Q hP r e k=>by
 unfold GY at e
 split at e
 ·cases e
  obtain⟨v,rfl,r'⟩:=jH r
  replace r:=r'
  exact⟨_,by rw[Aau.mp r],k.zero Ext.refl (Aau.mpr rfl)⟩
 ·cases e
noncomputable def nB:List aA->Option (List Bool)
 | []=>some []
 | .bool b::r=>(nB r).bind fun bs=>some (b::bs)
 | _::_=>none
noncomputable def lO:List aA->Option aA
 | [.list ds]=>(nB ds).bind fun bs=>some (.bool (bs.all id))
 | _=>none
theorem SU {K:aK}{H:Hp} : ∀ {ds:List aA} {xs:List V} {bs:List Bool},nB ds=some bs->Aaw K H ds xs->xs=bs.map V.bl
 | [],xs,bs,e,r=>by
  cases e
  rw[Aax.mp r]; rfl
 | .bool b::ds,xs,bs,e,r=>by
  obtain⟨bs',e1,e2⟩:=XBs (show((nB ds).bind fun bs=>some (b::bs))=some bs from e)
  cases e2
  obtain⟨v,t,rfl,h1,h2⟩:=Aao.mp r
  rw[Aas.mp h1,SU e1 h2]; rfl
 | .none::_,_,_,e,_=>by cases e
 | .int _::_,_,_,e,_=>by cases e
 | .str _::_,_,_,e,_=>by cases e
 | .list _::_,_,_,e,_=>by cases e
 | .tuple _::_,_,_,e,_=>by cases e
 | .dict _::_,_,_,e,_=>by cases e
theorem vP {K:aK}:CallD K 0 (fun xs H Q=>∃ p ys,xs=[.ref p]/\SqL K H p ys/\(∀ y∈ys,∃ b,y = .bl b)/\Q (.bl (allB ys)) H) lO:=fun P H xs ds d Q hP r e k=>by
 unfold lO at e
 split at e
 ·obtain⟨bs,e1,e2⟩:=XBs e
  cases e2
  obtain⟨v,rfl,r'⟩:=jH r
  replace r:=r'
  obtain⟨q,ys,rfl,hq,rr⟩:=Abp.mp r
  obtain rfl:=SU e1 rr
  refine⟨q,_,rfl,Abd.sqL hq,fun y m=>?_,k.zero Ext.refl (Aas.mpr ?_)⟩
  ·obtain⟨b,_,rfl⟩:=bP.mp m
   exact⟨b,rfl⟩
  ·unfold allB
   rw[GD]
   congr 2
   funext b
   cases b <;> rfl
 ·cases e
noncomputable def cutD (ds:List aA)(lo hi:Option Int):List aA:=(ds.drop (HT.sIx ds.length 0 lo)).take (HT.sIx ds.length ds.length hi - HT.sIx ds.length 0 lo)
abbrev OF:=List (Option aA)->Option (Option Int)
noncomputable def tOF (K:aK)(f:OF):TO:=fun σ H Q=>∃ P ρ o,Hid P H/\Alx K (hid H P) ρ σ/\f ρ=some o /\ ∀ H',Ext H H'->Q o H'
abbrev DO (X:Cx)(e:Option aW)(f:OF):Prop:=PO X e (tOF X.K f)
noncomputable def oN:OF:=fun _=>some none
noncomputable def oS (f:EF):OF:=fun ρ=>(f ρ).bind fun d=>match d with
 | .int i=>some (some i)
 | _=>none
theorem PO.imp {o:Option aW}{t t':TO}(h:PO X o t)(w : ∀ σ H Q,t' σ H Q->t σ H Q):PO X o t':=fun pins s σ H Q I q=>h pins s σ H Q I (w _ _ _ q)
theorem iY:DO X none oN:=PO.imp Jl fun σ H Q gh=>by
 obtain⟨P,ρ,o,hP,rs,ef,k⟩:=gh
 cases ef
 exact k H Ext.refl
theorem iA (h:DE X e f):DO X (some e) (oS f):=PO.imp (Na h) fun σ H Q gh=>by
 obtain⟨P,ρ,o,hP,rs,ef,k⟩:=gh
 obtain⟨d,e1,ef⟩:=XBs ef
 refine⟨P,ρ,d,hP,rs,e1,dB fun v H1 x1 r1=>?_⟩
 cases d with
 | int i=>cases ef; exact⟨i,Aau.mp r1,k H1 x1⟩
 | _=>cases ef
noncomputable def kL (f:EF)(lo hi:OF):EF:=fun ρ=>(f ρ).bind fun d=>(lo ρ).bind fun l=>(hi ρ).bind fun h=>match d with
 | .list ds=>some (.list (cutD ds l h))
 | _=>none
theorem BX {lo hi:Option aW}{fl fh:OF}{pp:cC}(he:DE X e f)(hl:DO X lo fl)(hh:DO X hi fh):DF 1 X (.Subscript e (.Slice lo hi none pp) pos) (kL f fl fh):=PE.imp (SM Ki he hl hh) fun σ H Q gh=>by
 obtain⟨P,ρ,d,hP,rs,ef,k⟩:=gh
 obtain⟨d1,e1,ef2⟩:=XBs ef
 obtain⟨l,e2,ef3⟩:=XBs ef2
 obtain⟨h,e3,ef4⟩:=XBs ef3
 clear ef ef2 ef3
 cases d1 with
 | list ds=>
  cases ef4
  refine⟨P,ρ,_,hP,rs,e1,dB fun v H1 x1 r1=>⟨P,ρ,l,hP.ext x1,rs.ext (cW x1),e2,fun H2 x2=>⟨P,ρ,h,hP.ext (x1.trans x2),rs.ext (cW (x1.trans x2)),e3,fun H3 x3=>?_⟩⟩⟩
  obtain⟨q,ys,rfl,hq,rr⟩:=Abp.mp (r1.ext (cW (x2.trans x3)))
  refine⟨q,ys,rfl,Abd.sqL hq,fun p hp=>(k.mono ((x1.trans x2).trans x3)).lst (hP.ext ((x1.trans x2).trans x3)) hp ?_⟩
  unfold rH cutD
  rw[rr.length]
  exact(rr.drop _).take _
 | _=>cases ef4
noncomputable def mI:List aA->Option (List aB)
 | []=>some []
 | .str x::r=>(mI r).bind fun xs=>some (x::xs)
 | _::_=>none
theorem RD {K:aK}{H:Hp} : ∀ {ds:List aA} {xs:List V} {bs:List aB},mI ds=some bs->Aaw K H ds xs->xs=bs.map V.str /\ ∀ b∈bs,cD (.str b)=true
 | [],xs,bs,e,r=>by
  cases e
  rw[Aax.mp r]; exact⟨rfl,fun b m=>by simp at m⟩
 | .str b::ds,xs,bs,e,r=>by
  obtain⟨bs',e1,e2⟩:=XBs (show((mI ds).bind fun bs=>some (b::bs))=some bs from e)
  cases e2
  obtain⟨v,t,rfl,h1,h2⟩:=Aao.mp r
  obtain⟨q1,q2⟩:=RD e1 h2
  rw[(Aap.mp h1).1,q1]
  refine⟨rfl,fun c m=>?_⟩
  rcases cN.mp m with rfl | m
  ·exact(Aap.mp h1).2
  ·exact q2 c m
 | .none::_,_,_,e,_=>by cases e
 | .int _::_,_,_,e,_=>by cases e
 | .bool _::_,_,_,e,_=>by cases e
 | .list _::_,_,_,e,_=>by cases e
 | .tuple _::_,_,_,e,_=>by cases e
 | .dict _::_,_,_,e,_=>by cases e
theorem RB {sep:aB}(hs:cD (.str sep)=true) : ∀ {ys:List aB},(∀ b∈ys,cD (.str b)=true)->cD (.str (cU sep ys))=true
 | [],_=>by
  have:cU sep []=Str.empty:=by simp[cU]
  rw[this]
  decide +kernel
 | [x],h=>by
  have:cU sep [x]=x:=by simp[cU]
  rw[this]
  exact h x bQ
 | x::y::r,h=>by
  have e:cU sep (x::y::r)=x++sep++cU sep (y::r):=by
   rw[cU]
   intro z; cases z
  rw[e]
  exact KC (KC (h x bQ) hs) (RB hs fun b m=>h b (cA _ m))
noncomputable def nC:aA->aA->Option aA
 | .str sep,.list ds=>(mI ds).bind fun ys=>if (ys.map (·.length)).sum+ys.length*sep.length≤16777216 then some (.str (cU sep ys)) else none
 | _,_=>none
theorem yF {g:EF}(ho:DE X a f)(he:DE X e g)(hbase:xF a "join" X.env (bZ a X.env)=bZ a X.env:=by rfl)
  (hfew:((eM cpos (bI (e::[]) X.env)).all (fun x=>!x.1)&&(xE cpos (xB [] X.env)).all (fun x=>x.1.isSome)
   && decide ((e::[]).length+([]:List mF).length+(if ([]:List mF).isEmpty then 0 else 1)<30))=true:=by rfl)
  (hline:(apos.endLine == cpos.line)=true:=by rfl) (hs:bI (e::[]) X.env=(false,bZ e X.env)::bI [] X.env:=by rfl) (hplain:(eM cpos (bI [] X.env)).any (·.1)=false:=by rfl):DE X (.Call (.Attribute a "join" apos) [e] [] cpos) (eOp nC f g):=
 PE.imp (uP MD PySem.F.slot_str_join PySem.F.type_str_join Jr ho (kS he lX hs) hbase hfew hline hs hplain) fun σ H Q gh=>by
  obtain⟨P,ρ,d,hP,rs,ef,k⟩:=gh
  obtain⟨d1,e1,ef2⟩:=XBs ef
  obtain⟨d2,e2,ef3⟩:=XBs ef2
  clear ef ef2
  cases d1 with
  | str sep=>
   cases d2 with
   | list ds=>
    obtain⟨ys,h1,h2⟩:=XBs (show((mI ds).bind fun ys=>if (ys.map (·.length)).sum+ys.length*sep.length≤16777216 then some (bN (cU sep ys)) else none)=some d from ef3)
    obtain⟨hz,rfl⟩:=dS h2
    refine⟨P,ρ,_,hP,rs,e1,dB fun v H1 x1 r1=>⟨by rw[(Aap.mp r1).1]; rfl,P,ρ,_,hP.ext x1,rs.ext (cW x1),e2,dB fun u H2 x2 r2=>?_⟩⟩
    obtain⟨q,zs,rfl,hq,rr⟩:=Abp.mp r2
    obtain⟨rfl,hl⟩:=RD h1 rr
    exact⟨sep,q,ys,(Aap.mp r1).1,rfl,Abd.sqL hq,hz,k.zero (x1.trans x2) (Aap.mpr ⟨rfl,RB (Aap.mp r1).2 hl⟩)⟩
   | _=>cases ef3
  | _=>cases d2 <;> cases ef3
theorem ZA {α:Type}{c:Prop}[Decidable c]{x:Option α}{y:α}(h:(if c then x else none)=some y):c/\x=some y:=by
 by_cases e:c
 ·rw[if_pos e] at h; exact⟨e,h⟩
 ·rw[if_neg e] at h; cases h
theorem Res.dic {K:aK}{P:aD->Prop}{H:Hp}{Q:VK}{kds:List (aA×aA)}{ep:Nat}{kvs:List (aO×V)}{q:aD}(hP:Hid P H)(h:Res K P 1 (.dict kds) H Q)(n:H q=none)(r:Acv K (hid H P) kds kvs):Q (.ref q) (upd H q (.dK ep kvs)):=by
 refine h (.ref q) _ [q] (Ext.new n) (oR.mpr ⟨by simp,.nil⟩) (fun a m=>?_) ⟨q,(ep,kvs),kvs.map fun _=>[],rfl,kC,?_,?_⟩
 ·have:a=q:=by simpa using m
  subst this
  exact⟨n,_,kC⟩
 ·have : ∀ l:List (aO×V),(l.map fun _=>([]:List aD)).flatten=[]:=fun l=>by
   induction l with
   | nil=>rfl
   | cons a l ih=>rw[fE,uB,ih]; rfl
  rw[this]
 ·have xe:Ext (hid H P) (hid (upd H q (.dK ep kvs)) (orL P [q])):=fun b o e=>by
   obtain⟨nb,e⟩:=Afm.mp e
   have hb:=nK e n
   exact kP (fun z=>z.elim nb fun m=>hb (by simpa using m)) (by rw[fG hb]; exact e)
  generalize hid (upd H q (.dK ep kvs)) (orL P [q])=B at xe
  generalize upd H q (.dK ep kvs)=H1
  clear h
  have go : ∀ (ds:List (aA×aA)) (xs:List (aO×V)),Acv K (hid H P) ds xs->All3 (fun(kd:aA×aA) (kv:aO×V) f=>kd.1=kD kv.1/\Ajb K B H1 0 kd.2 kv.2 f) ds xs (xs.map fun _=>[]):=by
   intro ds
   induction ds with
   | nil=>intro xs r; rw[Acu.mp r]; exact .nil
   | cons d ds ih=>
    intro xs r
    obtain⟨k',y,t,rfl,ek,h1,h2⟩:=Abn.mp (show Acv K (hid H P) ((d.1,d.2)::ds) xs from r)
    exact .cons ⟨ek,rfl,h1.ext xe⟩ (ih t h2)
  exact go kds kvs r
theorem Kh:DF 1 X (.Dict [] [] pos) (eC (.dict [])):=PE.imp Ud fun σ H Q gh=>by
 obtain⟨P,ρ,d,hP,rs,ef,k⟩:=gh
 cases ef
 exact fun q hq=>k.dic hP hq (Acu.mpr rfl)
end
section
variable {K:aK}{H0 H B0:Hp}{P0:aD->Prop}{ρ:bE}{σ:St}{fp:Nat->List aD}{i:Nat}
theorem Yp {B:Hp} : ∀ {ds:List aA} {xs:List V} {Fs:List (List aD)},All3 (Agd K B H 0) ds xs Fs->Aaw K B ds xs/\Fs.flatten=[]:=by
 intro ds xs Fs h
 induction h with
 | nil=>exact⟨Aax.mpr rfl,rfl⟩
 | cons h t ih=>
  obtain⟨rfl,r⟩:=h
  exact⟨Aao.mpr ⟨_,_,rfl,r,ih.1⟩,by rw[uB,ih.2]; rfl⟩
theorem Pr {B:Hp} : ∀ {ds:List (aA×aA)} {xs:List (aO×V)} {Fs:List (List aD)},All3 (fun(kd:aA×aA) (kv:aO×V) f=>kd.1=kD kv.1/\Agd K B H 0 kd.2 kv.2 f) ds xs Fs->Acv K B ds xs/\Fs.flatten=[]:=by
 intro ds xs Fs h
 induction h with
 | nil=>exact⟨Acu.mpr rfl,rfl⟩
 | @cons p q F ds xs Fs h t ih=>
  obtain⟨k,d⟩:=p
  obtain⟨k',v⟩:=q
  obtain⟨ek,rfl,r⟩:=h
  exact⟨Abn.mpr ⟨_,_,_,rfl,ek,r,ih.1⟩,by rw[uB,ih.2]; rfl⟩
theorem SY {B H1:Hp} : ∀ {ds:List aA} {xs:List V},Aaw K B ds xs->All3 (Agd K B H1 0) ds xs (xs.map fun _=>[])/\(xs.map fun _=>([]:List aD)).flatten=[]
 | [],xs,r=>by rw[Aax.mp r]; exact⟨.nil,rfl⟩
 | d::ds,xs,r=>by
  obtain⟨y,t,rfl,h1,h2⟩:=Aao.mp r
  obtain⟨q1,q2⟩:=SY h2
  exact⟨.cons ⟨rfl,h1⟩ q1,by rw[fE,uB,q2]; rfl⟩
theorem VW {B H1:Hp} : ∀ {ds:List (aA×aA)} {xs:List (aO×V)},Acv K B ds xs->All3 (fun(kd:aA×aA) (kv:aO×V) f=>kd.1=kD kv.1/\Agd K B H1 0 kd.2 kv.2 f) ds xs (xs.map fun _=>[])/\(xs.map fun _=>([]:List aD)).flatten=[]
 | [],xs,r=>by rw[Acu.mp r]; exact⟨.nil,rfl⟩
 | (k,d)::ds,xs,r=>by
  obtain⟨k',y,t,rfl,ek,h1,h2⟩:=Abn.mp r
  obtain⟨q1,q2⟩:=VW h2
  exact⟨.cons ⟨ek,rfl,h1⟩ q1,by rw[fE,uB,q2]; rfl⟩
theorem Sta.write {p:aD}{o:HO}{d':aA}(S:Sta K H0 P0 B0 ρ σ H fp)(hi:i<ρ.length)(hv:σ[i]?=some (some (.ref p)))(hp:p∈fp i)(ho:(∃ xs,o = .lst xs) \/ ∃ q:DQ,o=dO q)
  (new:Ajb K (L2.hid H (Hd P0 fp)) (upd H p o) 1 d' (.ref p) (fp i)):Sta K H0 P0 B0 (ρ.set i (some (1,d'))) σ (upd H p o) fp:=by
 have hb:L2.hid (upd H p o) (Hd P0 fp)=L2.hid H (Hd P0 fp):=by
  funext b
  unfold L2.hid
  by_cases q:Hd P0 fp b
  ·rw[if_pos q,if_pos q]
  ·rw[if_neg q,if_neg q]
   exact fG fun z=>q (.inr ⟨i,by rw[z]; exact hp⟩)
 refine⟨by simp[S.len],S.nd,S.dj,fun j a m=>⟨(S.own j a m).1,?_⟩,fun b u e=>?_,S.hd,by rw[hb]; exact S.base,fun j n d e=>?_⟩
 ·by_cases q:a=p
  ·subst q
   rcases ho with⟨xs,rfl⟩ | ⟨xs,rfl⟩
   ·exact .inl ⟨xs,kC⟩
   ·exact .inr ⟨xs,kC⟩
  ·rw[fG q]; exact(S.own j a m).2
 ·rw[fG (nK e (S.own i p hp).1)]; exact S.ext b u e
 ·by_cases q:j=i
  ·subst q
   rw[rP hi] at e
   cases e
   exact⟨_,hv,by rw[hb]; exact new⟩
  ·rw[rQ (fun z=>q z.symm)] at e
   obtain⟨v,h1,h2⟩:=S.slot j n d e
   refine⟨v,h1,?_⟩
   rw[hb]
   exact h2.keep Ext.refl fun a m=>fG fun z=>q (S.dj j i a m (by rw[z]; exact hp))
theorem Sta.lst1 {ds:List aA}(S:Sta K H0 P0 B0 ρ σ H fp)(e:ρ[i]?=some (some (1,.list ds))) : ∃ p xs,σ[i]?=some (some (.ref p))/\H p=some (.lst xs)/\Aaw K (L2.hid H (Hd P0 fp)) ds xs /\
  ∀ ds' xs',Aaw K (L2.hid H (Hd P0 fp)) ds' xs'->Sta K H0 P0 B0 (ρ.set i (some (1,.list ds'))) σ (upd H p (.lst xs')) fp:=by
 obtain⟨v,h1,h2⟩:=S.slot i 1 _ e
 obtain⟨p,xs,Fs,rfl,hp,hF,h3⟩:=h2
 obtain⟨r,hn⟩:=Yp h3
 rw[hn] at hF
 refine⟨p,xs,h1,hp,r,fun ds' xs' r'=>S.write (fN.mp e).1 h1 (by rw[hF]; exact bQ) (.inl ⟨_,rfl⟩) ?_⟩
 obtain⟨q1,q2⟩:=SY r'
 exact⟨p,xs',_,rfl,kC,by rw[hF,q2],q1⟩
theorem Sta.dic1 {ds:List (aA×aA)}(S:Sta K H0 P0 B0 ρ σ H fp)(e:ρ[i]?=some (some (1,.dict ds))) : ∃ p ep xs,σ[i]?=some (some (.ref p))/\H p=some (.dK ep xs)/\Acv K (L2.hid H (Hd P0 fp)) ds xs /\
  ∀ n ds' xs',Acv K (L2.hid H (Hd P0 fp)) ds' xs'->Sta K H0 P0 B0 (ρ.set i (some (1,.dict ds'))) σ (upd H p (.dK n xs')) fp:=by
 obtain⟨v,h1,h2⟩:=S.slot i 1 _ e
 obtain⟨p,xs,Fs,rfl,hp,hF,h3⟩:=h2
 obtain⟨r,hn⟩:=Pr h3
 rw[hn] at hF
 refine⟨p,xs.1,xs.2,h1,hp,r,fun n ds' xs' r'=>S.write (fN.mp e).1 h1 (by rw[hF]; exact bQ) (.inr ⟨.inl (n,xs'),rfl⟩) ?_⟩
 obtain⟨q1,q2⟩:=VW r'
 exact⟨p,(n,xs'),_,rfl,kC,by rw[hF,q2],q1⟩
end
noncomputable def getL (i:Nat)(ρ:bE):Option (List aA):=match ρ[i]? with
 | some (some (1,.list ds))=>some ds
 | _=>none
noncomputable def BQ (i:Nat)(ρ:bE):Option (List (aA×aA)):=match ρ[i]? with
 | some (some (1,.dict ds))=>some ds
 | _=>none
theorem vU {i:Nat}{ρ:bE}{ds:List aA}(h:getL i ρ=some ds):ρ[i]?=some (some (1,.list ds)):=by
 unfold getL at h
 split at h
 ·rename_i e; cases h; exact e
 ·cases h
theorem UA {i:Nat}{ρ:bE}{ds:List (aA×aA)}(h:BQ i ρ=some ds):ρ[i]?=some (some (1,.dict ds)):=by
 unfold BQ at h
 split at h
 ·rename_i e; cases h; exact e
 ·cases h
section
variable {X:Cx}{H0:Hp}{P0:aD->Prop}{n0:Nat}{e k o:aW}{f g:EF}{x:aB}{px pos apos cpos spos:cC}{i:Nat}
noncomputable def oK (i:Nat)(m:Md)(f:EF):SF:=fun ρ=>(eV 0 m f ρ).bind fun d=>(getL i ρ).bind fun ds=>if ds.length<sizeLine then some (.nx (ρ.set i (some (1,.list (ds++[d]))))) else none
theorem DK (i:Nat)(m:Md)(he:DE X e f)(hN:X.N[i]?=some x:=by rfl)(hv:nU X.env.scope x:=by first | exact aX rfl | exact bD (aX rfl) | exact bD (bD rfl))(hd:(x == ("__debug__" : aB))=false:=by decide)
  (hcd:(x == ("__classdict__" : aB))=false:=by decide) (hbase:xF (.Name x px) "append" X.env (bZ (.Name x px) X.env)=bZ (.Name x px) X.env:=by rfl)
  (hfew:((eM cpos (bI (e::[]) X.env)).all (fun x=>!x.1)&&(xE cpos (xB [] X.env)).all (fun x=>x.1.isSome)
   && decide ((e::[]).length+([]:List mF).length+(if ([]:List mF).isEmpty then 0 else 1)<30))=true:=by rfl)
  (hline:(apos.endLine == cpos.line)=true:=by rfl) (hs:bI (e::[]) X.env=(false,bZ e X.env)::bI [] X.env:=by rfl) (hplain:(eM cpos (bI [] X.env)).any (·.1)=false:=by rfl)
  (hsw:pT (.Call (.Attribute (.Name x px) "append" apos) [e] [] cpos) none pos.line X.env=pure false:=by rfl):DS X H0 P0 n0 (.Expr (.Call (.Attribute (.Name x px) "append" apos) [e] [] cpos) pos) (oK i m f):=
 PS.imp (ZL (uP Zp PySem.F.slot_list_append PySem.F.type_list_append UM (sN hN hv hd hcd) (kS (ev m he) lX hs) hbase hfew hline hs hplain) hsw) fun D σ H gh=>by
  obtain⟨B0,ρ,fp,o,S,ef,k⟩:=gh
  obtain⟨d,e1,ef2⟩:=XBs ef
  obtain⟨ds,e2,ef3⟩:=XBs ef2
  obtain⟨hl,rfl⟩:=dS ef3
  obtain⟨p,xs,h1,h2,_,_⟩:=S.lst1 (vU e2)
  refine⟨.ref p,h1,.inl ⟨rfl,xs,SqL.of h2⟩,B0,ρ,fp,d,S,e1,fun v H2 gh=>?_⟩
  obtain⟨fp2,S2,r2⟩:=gh
  obtain⟨p2,xs2,q1,q2,q3,q4⟩:=S2.lst1 (vU e2)
  have:p2=p:=by rw[h1] at q1; cases q1; rfl
  subst this
  exact⟨p2,xs2,v,rfl,rfl,q2,by rw[q3.length]; exact hl,k _ _ fp2 (q4 _ _ (q3.snoc r2.2))⟩
noncomputable def sJ (i:Nat)(m:Md)(f:EF)(mk:Md)(g:EF):SF:=fun ρ=>(eV 0 m f ρ).bind fun d=>(getL i ρ).bind fun ds=>(eV 0 mk g ρ).bind fun k=>match k with
 | .int j=>(ixN ds.length j).bind fun j=>some (.nx (ρ.set i (some (1,.list (ds.set j d)))))
 | _=>none
theorem OP {K:aK}{m:Md}{σ:St}{H B0:Hp}{ρ:bE}{fp:Nat->List aD}{d:aA}(S:Sta K H0 P0 B0 ρ σ H fp)(e:eV 0 m g ρ=some d){Q:VK}(hd:gG d=true)(k : ∀ v H',Ext H H'->Ab4 K (hid H' (Hd P0 fp)) d v->Q v H'):tF K 0 g σ H Q:=by
 cases m with
 | s=>exact⟨Hd P0 fp,vS ρ,d,S.hid,S.viewS,e,dB k⟩
 | a=>
  obtain⟨d',ed,ef⟩:=XBs e
  obtain⟨fl,rfl⟩:=dS ef
  refine⟨P0,vA ρ,d',S.hd.ext S.ext,S.viewA,ed,dB fun v H' x r=>k v H' x (r.flat (fun a xs e=>?_) _ hd)⟩
  obtain⟨na,e⟩:=Afm.mp e
  refine kP (fun q=>?_) e
  rcases q with q | ⟨j,q⟩
  ·exact na q
  ·rcases((S.grow x).own j a q).2 with⟨ys,e2⟩ | ⟨ys,e2⟩ <;> rw[e] at e2 <;> first | cases e2 | (cases ys <;> simp[dO] at e2)
theorem IB (i:Nat)(m mk:Md)(he:DE X e f)(hk:DE X k g)(hN:X.N[i]?=some x:=by rfl)(hv:nU X.env.scope x:=by first | exact aX rfl | exact bD (aX rfl) | exact bD (bD rfl))(hd:(x == ("__debug__" : aB))=false:=by decide)
  (hcd:(x == ("__classdict__" : aB))=false:=by decide)
  (ha : ∀ v,assign (.Subscript (.Name x px) k apos) X.env v=(do
   let ov ← rJ [v] (bZ (.Name x px) X.env)
   let iv ← rJ [v,ov] (bZ k X.env)
   standAt apos
   rJ [v,ov,iv] (setItem ov iv v)
   release [v,ov,iv] []):=by intro _; rfl)
  (hs:swapsWithSole [.Subscript (.Name x px) k apos] e pos.line X.env=pure false:=by rfl) (hw:swappedStores [.Subscript (.Name x px) k apos] e X.env=pure none:=by rfl)
  (h1:(assignEach [.Subscript (.Name x px) k apos] X.env).map (·.2)=[assign (.Subscript (.Name x px) k apos) X.env]:=by rfl):DS X H0 P0 n0 (.Assign [.Subscript (.Name x px) k apos] e pos) (sJ i m f mk g):=
 PS.imp (Hk (ev m he) (Ig (sN hN hv hd hcd) hk set_list ha) hs hw h1) fun D σ H gh=>by
  obtain⟨B0,ρ,fp,o,S,ef,kk⟩:=gh
  obtain⟨d,e1,ef2⟩:=XBs ef
  obtain⟨ds,e2,ef3⟩:=XBs ef2
  obtain⟨kd,e3,ef4⟩:=XBs ef3
  clear ef ef2 ef3
  cases kd with
  | int j=>
   obtain⟨jn,e5,ef5⟩:=XBs (show((ixN ds.length j).bind fun j=>some (Out.nx (ρ.set i (some (1,.list (ds.set j d))))))=some o from ef4)
   cases ef5
   refine⟨B0,ρ,fp,d,S,e1,fun v H2 gh=>?_⟩
   obtain⟨fp2,S2,r2⟩:=gh
   obtain⟨p,xs,h1,h2,_,_⟩:=S2.lst1 (vU e2)
   refine⟨.ref p,h1,OP S2 e3 (by simp[gG]) fun u H3 x3 r3=>?_⟩
   have S3:=S2.grow x3
   obtain⟨p3,xs3,q1,q2,q3,q4⟩:=S3.lst1 (vU e2)
   have:p3=p:=by rw[h1] at q1; cases q1; rfl
   subst this
   exact⟨p3,xs3,j,jn,rfl,Aau.mp r3,q2,by rw[q3.length]; exact e5,kk _ _ fp2 (q4 _ _ (q3.set (r2.2.ext (cW x3)) jn))⟩
  | _=>cases ef4
noncomputable def FA (i:Nat)(m:Md)(f:EF)(mk:Md)(g:EF):SF:=fun ρ=>(eV 0 m f ρ).bind fun d=>(BQ i ρ).bind fun kds=>(eV 0 mk g ρ).bind fun k=>(fP k).bind fun k=>if kds.length<sizeLine then some (.nx (ρ.set i (some (1,.dict (putD kds k d))))) else none
theorem Kx (i:Nat)(m mk:Md)(hu:X.A.units+40<cLine)(he:DE X e f)(hk:DE X k g)(hN:X.N[i]?=some x:=by rfl)(hv:nU X.env.scope x:=by first | exact aX rfl | exact bD (aX rfl) | exact bD (bD rfl))(hd:(x == ("__debug__" : aB))=false:=by decide)
  (hcd:(x == ("__classdict__" : aB))=false:=by decide) (hs:pT e (some (.Subscript (.Name x px) k apos)) pos.line X.env=pure false:=by rfl):DS X H0 P0 n0 (.Assign [.Subscript (.Name x px) k apos] e pos) (FA i m f mk g):=
 PS.imp (Lq hu (sN hN hv hd hcd) hk (ev m he) hs) fun D σ H gh=>by
  obtain⟨B0,ρ,fp,o,S,ef,kk⟩:=gh
  obtain⟨d,e1,ef2⟩:=XBs ef
  obtain⟨kds,e2,ef3⟩:=XBs ef2
  obtain⟨kd,e3,ef4⟩:=XBs ef3
  obtain⟨key,e4,ef5⟩:=XBs ef4
  obtain⟨hl,rfl⟩:=dS ef5
  clear ef ef2 ef3 ef4
  refine⟨B0,ρ,fp,d,S,e1,fun v H2 gh=>?_⟩
  obtain⟨fp2,S2,r2⟩:=gh
  obtain⟨p,ep,xs,h1,h2,_,_⟩:=S2.dic1 (UA e2)
  have hf:gG kd=true:=by rw[VQ e4]; cases key <;> simp[kD,gG]
  refine⟨.ref p,h1,OP S2 e3 hf fun u H3 x3 r3=>?_⟩
  have S3:=S2.grow x3
  obtain⟨p3,ep3,xs3,q1,q2,q3,q4⟩:=S3.dic1 (UA e2)
  have:p3=p:=by rw[h1] at q1; cases q1; rfl
  subst this
  refine⟨p3,_,rfl,.inl ⟨ep3,xs3,key,q2,DL e4 r3,by rw[q3.length]; exact hl,rfl⟩,fun n=>kk _ _ fp2 (q4 n _ _ (Mv q3 (r2.2.ext (cW x3))))⟩
end
section
variable {X:Cx}{a b c:aW}{fa fb fc:EF}{pos:cC}
theorem II {op op':CmpOp}{r r':R2}{g g':aA->aA->Option aA}(ho:OpR X (iC op) r)(ho':OpR X (iC op') r')(hg:OpD X.K 0 r g)(hg':OpD X.K 0 r' g')(ha:DE X a fa)(hb:DE X b fb)(hc:DE X c fc)
  (hm:lastMarks [op,op'] [b,c]=false:=by with_unfolding_all rfl):DT X (.Compare a [op,op'] [b,c] pos) (bOf (iX g g' fa fb fc)):=PT.imp (Wa ho ho' ha hb hc hm) fun σ H Q gh=>by
 obtain⟨P,ρ,t,hP,rs,ef,k⟩:=gh
 obtain⟨d,e1,ef⟩:=XBs ef
 cases sW ef
 exact Vp hg hg' σ H _ ⟨P,ρ,_,hP,rs,e1,dB fun v H1 x1 r1=>⟨t,Aas.mp r1,k H1 x1⟩⟩
noncomputable def xX:aA->aA->Option aA
 | .list xs,.list ys=>if xs.length+ys.length≤sizeLine then some (.list (xs++ys)) else none
 | _,_=>none
theorem Li:OpR X (kZ .Add) (fun x y H Q=>∃ l b xs zs,x = .ref l/\y = .ref b/\SqL X.K H l xs/\SqL X.K H b zs/\xs.length+zs.length≤sizeLine /\ ∀ p,H p=none->Q (.ref p) (upd H p (.lst (xs++zs)))):=by
 intro pins s σ H x y v u Q I rx ry h
 obtain⟨l,b,xs,zs,rfl,rfl,hH,hB,hz,q⟩:=h
 cases rx
 cases ry
 obtain⟨its,r,p1,z1⟩:=I.list hH
 obtain⟨its2,r2,p2,z2⟩:=I.list hB
 have l1:=r.length
 have l2:=r2.length
 obtain⟨⟨cls,dd,data,sl⟩,ho,hc,n,hd⟩:=p1.isList
 obtain⟨⟨cls2,dd2,data2,sl2⟩,ho2,hc2,n2,hd2⟩:=p2.isList
 simp only at hc hd hc2 hd2
 subst hc hd hc2 hd2
 refine LY ⟨_,ho,rfl⟩ ⟨_,ho2,rfl⟩ noFill_list_add seq_list_add PySem.F.slot_list_add PySem.F.entry_list_add (PySem.F.args_list_add_2 _ _) (list_addW l b its.toArray its2.toArray n n2 dd dd2 sl sl2 (by simp only[eF]; omega)) ⟨ho,ho2,?_⟩
 have ea:its.toArray++its2.toArray=(its++its2).toArray:=by simp
 rw[ea]
 exact⟨.ref _,_,I.lnew (r.append r2) (by rw[fL]; omega),rfl,q _ I.fresh⟩
theorem Gz (ha:DE X a fa)(hb:DE X b fb):DF 1 X (.BinOp a .Add b pos) (eOp xX fa fb):=qI Li (fun P H x y a b d Q hP ra rb e k=>by
 unfold xX at e
 split at e
 ·obtain⟨hz,rfl⟩:=dS e
  obtain⟨p,xs,rfl,hp,r1⟩:=Abp.mp ra
  obtain⟨q,ys,rfl,hq,r2⟩:=Abp.mp rb
  exact⟨p,q,xs,ys,rfl,rfl,Abd.sqL hp,Abd.sqL hq,by rw[r1.length,r2.length]; exact hz,fun l hl=>k.lst hP hl (r1.append r2)⟩
 ·cases e) ha hb
end
variable {X:Cx}{e a b:aW}{f fa fb:EF}{pos:cC}
noncomputable def gO (x:aB)(lo hi:Option Int):aB:=
 if (oX lo hi 1 x.length).length == x.length then x else⟨((oX lo hi 1 x.length).filterMap (x.cps[·]?)).toArray⟩
theorem Ub (x:aB)(lo hi:Option Int):(gO x lo hi).length≤x.length:=by
 unfold gO
 split
 ·exact bU _
 ·refine jB ?_ (sliceIndices_le lo hi x.length)
  exact Zu _ _
theorem Wl {x:aB}(lo hi:Option Int)(h:cD (.str x)=true):cD (.str (gO x lo hi))=true:=by
 unfold gO
 split
 ·exact h
 ·simp only[cD,tV] at h ⊢
  rw[Ce,dZ]
  intro c m
  obtain⟨i,_,e⟩:=xI.mp m
  exact Array.all_eq_true_iff_forall_mem.mp h c (Array.mem_of_getElem? e)
noncomputable def uM:aE->Option (Int×Tok)
 | .int i t=>some (i,t)
 | _=>none
theorem UC {v:aE}{o:Option Int}(h:rT v o):partValue (uM v)=v/\(uM v).map (·.1)=o:=by
 cases h with
 | none=>exact⟨rfl,rfl⟩
 | int i t=>exact⟨rfl,rfl⟩
def Cv:V->Option Int->Option Int->Hp->VK->Prop:=fun x lo hi H Q=>∃ z,x = .str z/\z.length≤sizeLine/\Q (.str (gO z lo hi)) H
theorem Bf5:SlR X Cv:=by
 intro pins s σ H x v vl vu lo hi sl Q I rx hs pl pu h
 obtain⟨z,rfl,hz,q⟩:=h
 obtain⟨t,rfl⟩:=rx
 obtain⟨e1,m1⟩:=UC pl
 obtain⟨e2,m2⟩:=UC pu
 refine⟨"str",_,PySem.F.slot_str_getitem.lookup,wY s z t,?_⟩
 have hs':s.heap.IsSlice sl (uM vl) (uM vu) none:=by
  obtain⟨o,h1,h2,h3⟩:=hs
  exact⟨o,h1,h2,by rw[e1,e2]; exact h3⟩
 refine wpAny_getItem_str_slice hs' rfl ?_
 have es:slicePicked z (uM vl) (uM vu) none=oX lo hi 1 z.length:=by
  unfold slicePicked
  rw[m1,m2]
  rfl
 unfold sliceMade
 rw[es]
 unfold gO at q
 by_cases hc:(oX lo hi 1 z.length).length == z.length
 ·rw[if_pos hc] at q
  rw[if_pos (by rw[hc]; rfl)]
  exact⟨.str z,H,I,⟨t,rfl⟩,q⟩
 ·rw[if_neg hc] at q
  rw[if_neg (by simpa using hc)]
  refine⟨?_,⟨.str ⟨((oX lo hi 1 z.length).filterMap (z.cps[·]?)).toArray⟩,H,I.tok _,⟨_,rfl⟩,q⟩⟩
  have:=Ub z lo hi
  unfold gO at this
  rw[if_neg hc] at this
  exact jB this hz
noncomputable def eSl (f:EF)(lo hi:OF):EF:=fun ρ=>(f ρ).bind fun d=>(lo ρ).bind fun l=>(hi ρ).bind fun h=>match d with
 | .str z=>if z.length≤sizeLine then some (.str (gO z l h)) else none
 | .tuple ds=>if HT.sIx ds.length 0 l=0/\HT.sIx ds.length ds.length h=ds.length then none else some (.tuple (cutD ds l h))
 | _=>none
theorem jX {lo hi:Option aW}{fl fh:OF}{pp:cC}(he:DE X e f)(hl:DO X lo fl)(hh:DO X hi fh):DE X (.Subscript e (.Slice lo hi none pp) pos) (eSl f fl fh):=PE.imp (SM (Bf5.or Iq) he hl hh) fun σ H Q gh=>by
 obtain⟨P,ρ,d,hP,rs,ef,k⟩:=gh
 obtain⟨d1,e1,ef2⟩:=XBs ef
 obtain⟨l,e2,ef3⟩:=XBs ef2
 obtain⟨h,e3,ef4⟩:=XBs ef3
 clear ef ef2 ef3
 cases d1 with
 | str z=>
  obtain⟨hc,rfl⟩:=dS ef4
  refine⟨P,ρ,_,hP,rs,e1,dB fun v H1 x1 r1=>⟨P,ρ,l,hP.ext x1,rs.ext (cW x1),e2,fun H2 x2=>⟨P,ρ,h,hP.ext (x1.trans x2),rs.ext (cW (x1.trans x2)),e3,fun H3 x3=>?_⟩⟩⟩
  refine .inl ⟨z,(Aap.mp r1).1,hc,(k.mono ((x1.trans x2).trans x3)).zero Ext.refl (Aap.mpr ⟨rfl,Wl _ _ (Aap.mp r1).2⟩)⟩
 | tuple ds=>
  by_cases hw:HT.sIx ds.length 0 l=0/\HT.sIx ds.length ds.length h=ds.length
  ·have ef5:(if HT.sIx ds.length 0 l=0/\HT.sIx ds.length ds.length h=ds.length then none else some (fR (cutD ds l h)))=some d:=ef4
   rw[if_pos hw] at ef5; cases ef5
  have ef5:(if HT.sIx ds.length 0 l=0/\HT.sIx ds.length ds.length h=ds.length then none else some (fR (cutD ds l h)))=some d:=ef4
  rw[if_neg hw] at ef5
  cases ef5
  refine⟨P,ρ,_,hP,rs,e1,dB fun v H1 x1 r1=>⟨P,ρ,l,hP.ext x1,rs.ext (cW x1),e2,fun H2 x2=>⟨P,ρ,h,hP.ext (x1.trans x2),rs.ext (cW (x1.trans x2)),e3,fun H3 x3=>?_⟩⟩⟩
  obtain⟨q,ys,rfl,hq,rr⟩:=Aa4.mp (r1.ext (cW (x2.trans x3)))
  refine .inr ⟨q,ys,rfl,SqT.of (Abd _ _ hq),by rw[rr.length]; exact hw,fun p hp=>(k.mono ((x1.trans x2).trans x3)).tup (hP.ext ((x1.trans x2).trans x3)) hp ?_⟩
  unfold rH cutD
  rw[rr.length]
  exact(rr.drop _).take _
 | _=>cases ef4
noncomputable def OB (K:aK):R2:=fun x y H Q=>∃ a b ys,x = .ref a/\y = .ref b/\SqT K H a []/\SqT K H b ys/\Q (.ref b) H
theorem Jm:OpR X (kZ .Add) (OB X.K):=by
 intro pins s σ H x y v u Q I rx ry h
 obtain⟨a,b,ys,rfl,rfl,ha,hb,q⟩:=h
 cases rx
 cases ry
 obtain⟨its,r1,p1,_⟩:=I.tuple ha
 obtain⟨its2,r2,p2,_⟩:=I.tuple hb
 cases r1
 obtain⟨⟨cls,dd,data,sl⟩,ho,hc,n,hd⟩:=p1
 obtain⟨⟨cls2,dd2,data2,sl2⟩,ho2,hc2,n2,hd2⟩:=p2
 simp only at hc hd hc2 hd2
 subst hc hd hc2 hd2
 exact LY ⟨_,ho,rfl⟩ ⟨_,ho2,rfl⟩ An seq_tuple_add Bd Be (Bf _ _)
  (tuple_addW0 a b _ _ n n2 dd dd2 sl sl2 rfl) ⟨ho,ho2,⟨.ref b,H,I,rfl,q⟩⟩
noncomputable def uQ:aA->aA->Option aA
 | .tuple xs,.tuple ys=>if xs.length+ys.length≤sizeLine then some (.tuple (xs++ys)) else none
 | _,_=>none
theorem Tz {K:aK}:OpD K 0 (fun x y H Q=>HF K x y H Q \/ OB K x y H Q) uQ:=fun P H x y a b d Q hP ra rb e k=>by
 unfold uQ at e
 split at e
 ·rename_i zs ys
  obtain⟨hc,rfl⟩:=dS e
  obtain⟨p,us,rfl,hp,r1⟩:=Aa4.mp ra
  obtain⟨q,ws,rfl,hq,r2⟩:=Aa4.mp rb
  have l1:=r1.length
  have l2:=r2.length
  cases zs with
  | nil=>
   have eu:us=[]:=by simpa using l1
   subst eu
   exact .inr ⟨p,q,ws,rfl,rfl,SqT.of (Abd _ _ hp),SqT.of (Abd _ _ hq),k.zero Ext.refl rb⟩
  | cons z zs=>
   refine .inl ⟨p,q,us,ws,rfl,rfl,SqT.of (Abd _ _ hp),SqT.of (Abd _ _ hq),fun z=>by rw[z] at l1; simp at l1,by rw[l1,l2]; exact hc,fun z=>?_,fun z r hr=>?_⟩
   ·subst z
    have:ys=[]:=by simpa using l2.symm
    subst this
    refine k.zero Ext.refl ?_
    rw[rS]
    exact ra
   ·exact k.tup hP hr (r1.append r2)
 ·cases e
theorem QH (ha:DE X a fa)(hb:DE X b fb):DE X (.BinOp a .Add b pos) (eOp uQ fa fb):=qI (A0e.or Jm) Tz ha hb
end L2
namespace L2
open PySem PySem.Spec PyProof.Rows
def Axf (h:aU)(d:aD)(es:Array pZ)(ep:Nat):Prop:=∃ o,h.get? d=some o/\o.ExactDict/\o.data = .dict es ep
theorem Axf.keep {h h':aU}{d:aD}{es:Array pZ}{ep:Nat}(x:Axf h d es ep)(k : ∀ o,h.get? d=some o->h'.get? d=some o):Axf h' d es ep:=
 let ⟨o,e,r⟩:=x; ⟨o,k o e,r⟩
theorem Axf.ty {s:aG}{d:aD}{es:Array pZ}{ep:Nat}(x:Axf s.heap d es ep):s.TypeIs (.ref d) "dict":=let ⟨o,e,c,_⟩:=x; ⟨o,e,c.1⟩
section
variable {prog:bS}{w:bB}{A:cE}{E:aE->aG->Prop}{s:aG}{d it:aD}{es:Array pZ}{ep i:Nat}
theorem Vq {Q:aE->aG->Prop}(nm:(d == kE)=false)(R:Axf s.heap d es ep)
  (q:Q (.ref s.heap.objs.size) { s with heap:=s.heap.push { cls:=.type "dict_keyiterator",data:=.fields #[.ref d,.int 0 0,.int es.size 0,.int ep 0] } }):aN (aR prog w) A (oP (.ref d)) Q E s:=by
 have ty:=R.ty
 obtain⟨o,eo,_,ed⟩:=R
 refine FD ty F.slot_dict_iter (kX F.slot_dict_iter ty F.entry_dict_iter
  ?_ (F.args_dict_iter_1 _))
 unfold Builtin.«dict.__iter__»
 refine aI ?_
 unfold Builtin.Dict.dictSlotNone
 refine aI (wpAny_notOrdered_dict ty ?_)
 refine aT ?_
 show aN _ _ (Builtin.Dict.showsAll d >>= _) _ _ s
 unfold Builtin.Dict.showsAll
 rw[if_neg (show ¬ (d == kE)=true by rw[nm]; exact qA)]
 refine aI (aT ?_)
 refine aI (Am eo ed ?_)
 refine aI (wpAny_dictEpoch eo ed ?_)
 refine aI (jQ (aT ⟨_,rfl,"dict_keyiterator",_,
  ⟨_,eP _ rfl,rfl⟩,GF.lookup,?_⟩))
 simpa [eI] using q
theorem Vo {e:pZ}{Q:Option aE->aG->Prop}(K:s.heap.IsKeyIter it d i es.size ep)(R:Axf s.heap d es ep)(x:es[i]?=some e)
  (q : ∀ h',h'.IsKeyIter it d (i+1) es.size ep->oW it s.heap h'->Q (some e.key) { s with heap:=h' }):aN (aR prog w) A (kY (.ref it)) Q E s:=by
 obtain⟨oi,ei,ci,di⟩:=id K
 obtain⟨o,eo,_,ed⟩:=R
 unfold kY
 refine aI (AJ (wV K.typeIs
  GF (kX GF K.typeIs
   Zx ?_ (Zy _))))
 refine aI (aT ?_)
 refine aI ?_
 refine aI ?_
 first
  | refine aI (LR K.typeIs (aT ?_))
  | refine aI (LQ K.typeIs (aT ?_))
 refine aI (AI ei di ?_)
 have own:Builtin.Dict_items.ownsTuple "dict_keyiterator" = false:=by decide
 simp only[own,iV,if_false]
 show aN _ _ (if (fQ d == fZ)=true then _ else _) _ _ s
 rw[if_neg (show ¬ (fQ d == fZ)=true from qA)]
 refine aI (aT ?_)
 refine aI (Am eo ed ?_)
 rw[if_neg (by simp)]
 refine aI (aT ?_)
 refine aI (wpAny_dictEpoch eo ed ?_)
 rw[if_neg (by simp)]
 refine aT ?_
 simp only[show ¬ ((i:Int)<0) from by omega,if_false,mY,x]
 refine aI ?_
 first
  | refine aI (LR K.typeIs (aT ?_))
  | refine aI (LQ K.typeIs (aT ?_))
 refine aI (wpAny_isOneOf_keyiter K.typeIs ?_)
 show aN _ _ (setField (.ref it) 1 (eI ((i:Int)+1)) >>= _) _ _ s
 refine aI (wpAny_setField ei di (by simp) ?_)
 have K':(s.heap.update it (Obj.mapFields (·.setIfInBounds 1 (eI ((i:Int)+1))))).IsKeyIter it d (i+1) es.size ep:=
  ⟨_,pY _ ei (Obj.isFreed_of_fields (Obj.data_mapFields di _)),(Obj.cls_mapFields ..).trans ci,by
   rw[Obj.data_mapFields di]; simp[eI]⟩
 refine aI (jR ?_)
 refine aI (wpAny_isOneOf_keyiter
  K'.typeIs ?_)
 exact aT (aT ⟨_,rfl,aT (q _ K' (MS ..))⟩)
theorem Jw {Q:Option aE->aG->Prop}(hh:A.handled=none)(K:s.heap.IsKeyIter it d i es.size ep)(R:Axf s.heap d es ep)(x:es.size≤i)
  (q : ∀ h',Heap.ExtBut it s.heap h'->Q none { s with heap:=h' }):aN (aR prog w) A (kY (.ref it)) Q E s:=by
 obtain⟨oi,ei,ci,di⟩:=id K
 obtain⟨o,eo,_,ed⟩:=R
 unfold kY
 refine aI (AJ (wV K.typeIs
  GF (kX GF K.typeIs
   Zx ?_ (Zy _))))
 refine aI (aT ?_)
 refine aI ?_
 refine aI ?_
 first
  | refine aI (LR K.typeIs (aT ?_))
  | refine aI (LQ K.typeIs (aT ?_))
 refine aI (AI ei di ?_)
 have own:Builtin.Dict_items.ownsTuple "dict_keyiterator" = false:=by decide
 simp only[own,iV,if_false]
 show aN _ _ (if (fQ d == fZ)=true then _ else _) _ _ s
 rw[if_neg (show ¬ (fQ d == fZ)=true from qA)]
 refine aI (aT ?_)
 refine aI (Am eo ed ?_)
 rw[if_neg (by simp)]
 refine aI (aT ?_)
 refine aI (wpAny_dictEpoch eo ed ?_)
 rw[if_neg (by simp)]
 refine aT ?_
 simp only[show ¬ ((i:Int)<0) from by omega,if_false,mY,NC x]
 refine aI ?_
 first
  | refine aI (LR K.typeIs (aT ?_))
  | refine aI (LQ K.typeIs (aT ?_))
 show aN _ _ (setField (.ref it) 0 .none >>= _) _ _ s
 refine aI (wpAny_setField ei di (by simp) ?_)
 refine aI ?_
 simp only[newExc,newTuple]
 refine aI (jQ ?_ (by size_fits))
 refine aI (LV
  (by first | rfl | (simp only[firstArgMember]; rfl)) ?_)
 refine jQ ?_ (by size_fits)
 simp only[raiseNew]
 refine aI (wpAny_handled ?_)
 rw[show A.in1.handled=none from hh]
 refine aI (aT (wpAny_throw ?_))
 refine aI (AH
  ⟨_,eP _ rfl,rfl⟩ isSubtype_stop ?_)
 exact aT (q _ (((MS ..).extBut.push _).push _))
theorem Yz (hh:A.handled=none)(I d:aD)(ne:d≠I)(es:Array pZ)(ep:Nat) :
  Walks prog w A I [I,d] [I] es.size (fun i v=>∃ e,es[i]?=some e/\v=e.key) (fun i h=>h.IsKeyIter I d i es.size ep/\Axf h d es ep) where
 sub:=fun b hb=>by simp at hb; simp[hb]
 frame:=fun _ _ _ st hk=>⟨st.1.at fun o e=>hk I (by simp) o e,st.2.keep fun o e=>hk d (by simp) o e⟩
 item:=fun i s Q E hi st hQ=>by
  have hx:=kJ hi
  refine Vo st.1 st.2 hx fun h' K' hs=>?_
  exact hQ _ h' s.toks ⟨_,hx,rfl⟩ ⟨K',st.2.keep fun o e=>hs.extBut d o ne e⟩ fun b o hb e=>hs.extBut b o (fun h=>hb (by simp[h])) e
 done:=fun s Q E st hQ=>Jw hh st.1 st.2 (bU _) fun h' he=>hQ h' s.toks fun b o hb e=>he b o (fun h=>hb (by simp[h])) e
 self:=fun _ _ _ _ st hQ=>wpAny_pyIter_keyiter st.1 hQ
theorem Sl:typeLookup (.type "dict") "__len__" = pure (some (.builtin "dict.__len__")):=by rw[typeLookup_type,Ap]; kernel_rfl
theorem Pe {R:Result->aG->Prop}(hh:A.handled=none)(nm:(d == kE)=false)(D:Axf s.heap d es ep)(S:aD)(res:aE)(c₀:Nat)(hSd:S≠d)
  (hS:s.heap.get? S=some { cls:=.type "list",data:=.seq #[] c₀ }) (hn:es.size≤sizeLine)
  (q : ∀ h' tk acc c',(∀ b o,b≠S->s.heap.get? b=some o->h'.get? b=some o)->h'.get? S=some { cls:=.type "list",dict:=none,data:=.seq acc c',slots:=#[] } ->
   ItemsOf (fun i v=>∃ e,es[i]?=some e/\v=e.key) acc es.size->R (.ok (.ret res)) { s with heap:=h',toks:=tk }) :
  aN (aR prog w) A.in1 (rX (.ref S) (.ref d) res)
   (fun fin s'=>match fin with | .done f=>R (.ok f) s' | .again c'=>c'.quiet=true/\mD (aR prog w) A c' R s') (fun e s'=>R (.error e) s') s:=by
 have ty:=D.ty
 unfold rX
 refine aI (tM ty ?_)
 have h1:xP (.ref S) (.ref d)=false:=by
  simp[xP,hSd]
 have h2:(iD "dict" == iD "list")=false:=by decide
 have h3:(iD "dict" == iD "tuple")=false:=by decide
 simp only[h1,h2,h3,Co,iV,if_false]
 refine aI (Vq nm D ?_)
 refine aI (jR ?_)
 have hd0:d<s.heap.objs.size:=by obtain⟨o,e,_⟩:=D; exact cL e
 have hS0:S<s.heap.objs.size:=cL hS
 have keepP : ∀ b o,s.heap.get? b=some o->(s.heap.push { cls:=.type "dict_keyiterator",data:=.fields #[.ref d,.int 0 0,.int es.size 0,.int ep 0] }).get? b=some o:=fun b o e=>cP _ e
 have D':Axf (s.heap.push { cls:=.type "dict_keyiterator",data:=.fields #[.ref d,.int 0 0,.int es.size 0,.int ep 0] }) d es ep:=D.keep fun o e=>keepP d o e
 have itG:(s.heap.push { cls:=.type "dict_keyiterator",data:=.fields #[.ref d,.int 0 0,.int es.size 0,.int ep 0] }).IsKeyIter s.heap.objs.size d 0 es.size ep:=⟨_,eP _ rfl,rfl,rfl⟩
 unfold MZ
 refine aI (wU (T:="dict") (v:=.ref d) (by obtain⟨o,e,c,_⟩:=D'; exact⟨o,e,c.1⟩) Sl ?_)
 wp_delta
 refine aI (AH (T:="dict") (v:=.ref d) (b:=true) (by obtain⟨o,e,c,_⟩:=D'; exact⟨o,e,c.1⟩) (by rw[isSubtype_type]; kernel_rfl) ?_)
 show aN _ _ (typeOf (fQ d) >>= _) _ _ _
 refine aI (tM (T:="dict") (v:=.ref d) (by obtain⟨o,e,c,_⟩:=D'; exact⟨o,e,c.1⟩) ?_)
 refine aT ?_
 rw[if_pos (by decide)]
 refine aI (wpAny_rule ?_)
 refine aI ?_
 have S1:=keepP _ _ hS
 generalize(s.heap.push { cls:=.type "dict_keyiterator",data:=.fields #[.ref d,.int 0 0,.int es.size 0,.int ep 0] })=G at keepP D' S1 itG ⊢
 show aN _ _ (wX S (·.push .none) >>= fun _=>wX S (·.pop)) _ _ _
 refine aI (wR S1 rfl ?_)
 have S2:=pY (gL (·.push fZ)) S1 rfl
 refine wR (hz:=by seq_fits) S2 rfl ?_
 have S3:=pY (gL (·.pop)) S2 rfl
 have other : ∀ b o,b≠S->G.get? b=some o->((G.update S (gL (·.push fZ))).update S (gL (·.pop))).get? b=some o:=fun b o hb e=>
  (rV _ _ (lH hb)).trans ((rV _ _ (lH hb)).trans e)
 have hne:d≠s.heap.objs.size:=cZ hd0
 have hSf:S∉[s.heap.objs.size,d]:=fun hm=>by
  rcases cN.mp hm with z | z
  ·exact absurd hS0 (by rw[z]; exact mS _)
  ·exact hSd (dX.mp z)
 refine aT ⟨tO Cg _,Ao (Yz (A:=A.in1) hh s.heap.objs.size d hne es ep).toS hn _ hSf _ es.size 0 _ _ _ rfl (fA _)
  ⟨itG.at fun o e=>other _ o (mQ hS0) e,D'.keep fun o e=>other _ o (lH hSd) e⟩ S3 (ItemsOf.nil _) fun s' acc c' hm hS' hacc=>?_⟩
 rw[Moved.eq_with hm]
 refine q s'.heap s'.toks acc c' (fun b ob hb e=>hm.heap b ob (fun hmem=>?_) (other b ob hb (keepP _ _ e))) hS' hacc
 rcases cN.mp hmem with z | hmem
 ·exact hb z
 ·exact absurd (cL e) (by rw[dX.mp hmem]; exact mS _)
theorem Vn {Q:aE->aG->Prop}(hh:A.handled=none)(nm:(d == kE)=false)(D:Axf s.heap d es ep)(hn:es.size≤sizeLine)
  (q : ∀ h' tk acc c',(∀ b o,s.heap.get? b=some o->h'.get? b=some o)->h'.get? s.heap.objs.size=some { cls:=.type "list",dict:=none,data:=.seq acc c',slots:=#[] } ->
   ItemsOf (fun i v=>∃ e,es[i]?=some e/\v=e.key) acc es.size->Q (.ref s.heap.objs.size) { s with heap:=h',toks:=tk }):aN (aR prog w) A (call (.type "list") [.ref d]) Q E s:=by
 refine callType_codes (Q₁:=fun obj s₁=>obj = .ref s.heap.objs.size/\s₁ = { s with heap:=s.heap.push { cls:=.type "list",data:=.seq #[] } })
  F.called_list (F.typeCall_list_1 _) F.entry_list_init (code_list_new _ ⟨rfl,rfl⟩) fun obj s₁ h₁=>?_
 obtain⟨rfl,rfl⟩:=h₁
 have hd0:d<s.heap.objs.size:=by obtain⟨o,e,_⟩:=D; exact cL e
 have N1:(s.heap.push { cls:=.type "list",data:=.seq #[] }).get? s.heap.objs.size=some { cls:=.type "list",data:=.seq #[] }:=eP _ rfl
 refine⟨⟨_,N1,rfl⟩,F.args_list_init_2 _ _,?_⟩
 show aN _ _ (do
  let old ← Builtin.List.listItems (.ref s.heap.objs.size)
  Builtin.List.listUpdate (.ref s.heap.objs.size) (fun _=>#[])
  letGo old.toList.reverse
  rX (.ref s.heap.objs.size) (.ref d) .none) _ _ _
 refine aI ?_
 unfold Builtin.List.listItems
 refine aI (AG N1 rfl (aT ?_))
 show aN _ _ (wX s.heap.objs.size (fun _=>#[]) >>= fun _=>letGo (#[]:Array aE).toList.reverse >>= fun _=>
  rX (.ref s.heap.objs.size) (.ref d) .none) _ _ _
 refine aI (wR N1 rfl ?_)
 have N2:=pY (gL (fun _=>(#[]:Array aE))) N1 rfl
 have other : ∀ b o,b≠s.heap.objs.size->(s.heap.push { cls:=.type "list",data:=.seq #[] }).get? b=some o ->
   ((s.heap.push { cls:=.type "list",data:=.seq #[] }).update s.heap.objs.size (gL (fun _=>(#[]:Array aE)))).get? b=some o:=fun b o hb e=>(rV _ _ (lH hb)).trans e
 refine aI (wpAny_letGo ?_)
 refine Pe (A:=A.in1) hh nm (D.keep fun o e=>other d o (cZ hd0) (cP _ e)) s.heap.objs.size .none _ (mQ hd0) N2 hn fun h' tk acc c' hk hS' hacc=>?_
 exact⟨rfl,q h' tk acc c' (fun b o e=>hk b o (cZ (cL e)) (other b o (cZ (cL e)) (cP _ e))) hS' hacc⟩
end
section
variable {X:Cx}{pins:List (aD×aY)}{σ:St}{H:Hp}{s:aG}
theorem KF {P:bS}{w:bB} : ∀ {es:List pZ} {kvs:List (aO×V)} {vs:List (aO×aE)},KV kvs vs->PySem.Pairs (iZ P w) es vs->Vals (kvs.map fun kv=>kV kv.1) (es.map (·.key))
 | [],kvs,vs,r,p=>by
  cases p
  cases r
  exact .nil
 | e::es,kvs,vs,r,p=>by
  cases p with
  | cons h hv t=>
   cases r with
   | cons h' t'=>
    refine .cons ?_ (KF t' t)
    show RelV (kV _) e.key
    rw[h'.1]
    rcases oH h with⟨i,tk,e1,e2⟩ | ⟨x,tk,e1,e2⟩
    ·rw[e1,e2]; exact⟨tk,rfl⟩
    ·rw[e1,e2]; exact⟨tk,rfl⟩
theorem Np {es:Array pZ}{acc:Array aE}(h:ItemsOf (fun i v=>∃ e,es[i]?=some e/\v=e.key) acc es.size):acc.toList=es.toList.map (·.key):=by
 obtain⟨h1,h2⟩:=h
 apply By
 intro i
 rw[fM]
 by_cases hi:i<acc.size
 ·have ha:acc.toList[i]?=some acc[i]:=by simp[hi]
  obtain⟨e,he,hv⟩:=h2 i acc[i] (by simp[hi])
  have he':es.toList[i]?=some e:=by simpa using he
  rw[ha,he',hv]
  rfl
 ·have ha:acc.toList[i]?=none:=by simp; omega
  have he:es.toList[i]?=none:=by simp; omega
  rw[ha,he]
  rfl
theorem Gd {ep0:Nat}{kvs:List (aO×V)}{a:aD}(I:Inv X pins σ H s)(ha:H a=some (.dK ep0 kvs)):kvs.length≤sizeLine/\(a == kE)=false /\ ∃ es ep,Axf s.heap a es ep/\Vals (kvs.map fun kv=>kV kv.1) (es.toList.map (·.key))/\es.size=kvs.length:=by
 obtain⟨z,nm,vs,r,o,es,ep,e1,e2,e3,_,e5,_⟩:=OG I.hok ha
 refine⟨z,nm,es,ep,⟨o,e1,e2,e3⟩,KF r e5,?_⟩
 have l1:=(KF r e5).length
 simp at l1
 exact l1.symm
theorem Ow (hc:X.calm=true):Aeq X (.type "list") (fun xs H Q=>∃ a ep kvs,xs=[.ref a]/\H a=some (.dK ep kvs) /\ ∀ l,H l=none->Q (.ref l) (upd H l (.lst (kvs.map fun kv=>kV kv.1)))):=by
 intro pins s σ H xs us Q I r h
 obtain⟨a,ep1,kvs,rfl,ha,q⟩:=h
 obtain⟨u,rfl,ru⟩:=vals1 r
 cases ru
 obtain⟨z,nm,es,ep,D,rv,el⟩:=Gd I ha
 refine Vn (I.ok.hd hc) nm D (by omega) fun h' tk acc c' hk hS hacc=>?_
 have ea:=Np hacc
 rw[← ea] at rv
 exact⟨.ref s.heap.objs.size,_,I.laid hk (bU _) (show Ac4 X.prog X.w _ h' _ (.lst _) from⟨by rw[cX]; exact z,acc.toList,c',rv,by simpa using hS⟩),rfl,q _ I.fresh⟩
theorem VB {K:aK} : ∀ {kds:List (aA×aA)} {kvs:List (aO×V)},Acv K H kds kvs->(∀ kd∈kds,cD kd.1=true)->Aaw K H (kds.map (·.1)) (kvs.map fun kv=>kV kv.1)
 | [],kvs,r,_=>by rw[Acu.mp r]; exact Aax.mpr rfl
 | (k,d)::kds,kvs,r,h=>by
  obtain⟨k',x,rr,rfl,rfl,h1,h2⟩:=Abn.mp r
  refine Aao.mpr ⟨_,_,rfl,?_,VB h2 fun kd m=>h kd (cA _ m)⟩
  have hl:=h (kD k',d) bQ
  cases k' with
  | inl i=>exact Aau.mpr rfl
  | inr z=>exact Aap.mpr ⟨rfl,hl⟩
noncomputable def LD:List aA->Option aA
 | [.dict kds]=>if (plK kds&&kds.all fun kd=>cD kd.1)=true then some (.list (kds.map (·.1))) else none
 | _=>none
theorem Qy {K:aK}:CallD K 1 (fun xs H Q=>∃ a ep kvs,xs=[.ref a]/\H a=some (.dK ep kvs) /\ ∀ l,H l=none->Q (.ref l) (upd H l (.lst (kvs.map fun kv=>kV kv.1)))) LD:=fun P H xs ds d Q hP r e k=>by
 unfold LD at e
 split at e
 ·obtain⟨hl,rfl⟩:=dS e
  obtain⟨v,rfl,r'⟩:=jH r
  obtain⟨pk,hl⟩:=qB.mp hl
  obtain⟨q,ys,rfl,hq,rr⟩:=(IW pk).mp r'
  exact⟨q,ys.1,ys.2,rfl,Abd _ _ hq,fun l hl'=>k.lst hP hl' (VB rr (dZ.mp hl))⟩
 ·cases e
end
open PySem PySem.W PyProof.Rows
noncomputable def evT {α:Type}(lt:Nat->Nat->Bool):KasT α->α
 | .ret a=>a
 | .ask i j k=>evT lt (k (lt i j))
theorem vK {α β:Type}(lt:Nat->Nat->Bool)(f:α->KasT β) : ∀ t:KasT α,evT lt (t.bind f)=evT lt (f (evT lt t))
 | .ret _=>rfl
 | .ask i j k=>vK lt f (k (lt i j))
structure Ord (lt:Nat->Nat->Bool):Prop where
 asym : ∀ a b,lt a b=true->lt b a=false
 tr : ∀ a b c,lt b a=false->lt c b=false->lt c a=false
section
variable {lt:Nat->Nat->Bool}(O:Ord lt)
noncomputable abbrev at' (p:Array Nat)(i:Nat):Nat:=p.getD i 0
def iI (lt:Nat->Nat->Bool)(p:Array Nat)(m:Nat):Prop:=∀ i j,i≤j->j<m->lt (at' p j) (at' p i)=false
def rZ (lt:Nat->Nat->Bool)(p:Array Nat)(m:Nat):Prop:=∀ i j,i≤j->j<m->lt (at' p i) (at' p j)=false
include O
theorem Ord.refl (a:Nat):lt a a=false:=by
 cases h:lt a a with
 | false=>rfl
 | true=>exact absurd (O.asym a a h) (by rw[h]; decide)
theorem Lx {p:Array Nat}{n:Nat}(h1:1≤n)(h:iI lt p n)(hl:lt (at' p n) (at' p (n - 1))=false):iI lt p (n+1):=fun i j hij hj=>by
 by_cases c:j<n
 ·exact h i j hij c
 ·obtain rfl:j=n:=by omega
  by_cases d:i=j
  ·subst d; exact O.refl _
  ·exact O.tr _ _ _ (h i (j - 1) (by omega) (by omega)) hl
theorem yH {p:Array Nat}{n:Nat}(h1:1≤n)(h:rZ lt p n)(hl:lt (at' p (n - 1)) (at' p n)=false):rZ lt p (n+1):=fun i j hij hj=>by
 by_cases c:j<n
 ·exact h i j hij c
 ·obtain rfl:j=n:=by omega
  by_cases d:i=j
  ·subst d; exact O.refl _
  ·exact O.tr _ _ _ hl (h i (j - 1) (by omega) (by omega))
theorem Kf (p:Array Nat):iI lt p 1:=fun i j hij hj=>by
 obtain rfl:j=0:=by omega
 obtain rfl:i=0:=by omega
 exact O.refl _
theorem HN {p:Array Nat} : ∀ (f n:Nat),1≤n->iI lt p n->n≤evT lt (kas_asc p f n)/\evT lt (kas_asc p f n)≤n+f/\iI lt p (evT lt (kas_asc p f n))/\(evT lt (kas_asc p f n)<n+f->lt (at' p (evT lt (kas_asc p f n))) (at' p (evT lt (kas_asc p f n) - 1))=true)
 | 0,n,h1,h=>⟨bU _,bU _,h,fun z=>absurd z (by show ¬ n<n+0; omega)⟩
 | f+1,n,h1,h=>by
  have e:evT lt (kas_asc p (f+1) n)=evT lt (if lt (at' p n) (at' p (n - 1))=true then KasT.ret n else kas_asc p f (n+1)):=rfl
  rw[e]
  by_cases c:lt (at' p n) (at' p (n - 1))=true
  ·rw[if_pos c]
   exact⟨bU _,by show n≤n+(f+1); omega,h,fun _=>c⟩
  ·rw[if_neg c]
   obtain⟨a1,a2,a3,a4⟩:=HN f (n+1) (by omega) (Lx O h1 h (by simpa using c))
   exact⟨by omega,by omega,a3,fun z=>a4 (by omega)⟩
theorem JP {p:Array Nat}{k:Nat}(h:iI lt p k) : ∀ (f l r:Nat),l≤r->r≤k->r - l≤f->(∀ i<l,lt (at' p k) (at' p i)=false)->(∀ i,r≤i->i<k->lt (at' p i) (at' p k)=false) ->
  evT lt (kas_place p k f l r)≤k/\(∀ i<evT lt (kas_place p k f l r),lt (at' p k) (at' p i)=false) /\ ∀ i,evT lt (kas_place p k f l r)≤i->i<k->lt (at' p i) (at' p k)=false
 | 0,l,r,h1,h2,h3,hl,hr=>by
  have e:evT lt (kas_place p k 0 l r)=l:=rfl
  obtain rfl:l=r:=by omega
  rw[e]
  exact⟨h2,hl,hr⟩
 | f+1,l,r,h1,h2,h3,hl,hr=>by
  unfold kas_place
  by_cases c:l ≥ r
  ·rw[if_pos c]
   obtain rfl:l=r:=by omega
   exact⟨h2,hl,hr⟩
  ·rw[if_neg c]
   show evT lt (if lt (at' p k) (at' p ((l+r) / 2))=true then kas_place p k f l ((l+r) / 2) else kas_place p k f ((l+r) / 2+1) r)≤k/\_
   by_cases d:lt (at' p k) (at' p ((l+r) / 2))=true
   ·have e:evT lt (KasT.ask (p.getD k 0) (p.getD ((l+r) / 2) 0) fun c=>if c=true then kas_place p k f l ((l+r) / 2) else kas_place p k f ((l+r) / 2+1) r)=evT lt (kas_place p k f l ((l+r) / 2)):=by
     show evT lt (if lt (at' p k) (at' p ((l+r) / 2))=true then _ else _)=_
     rw[if_pos d]
    rw[e,if_pos d]
    exact JP h f l ((l+r) / 2) (by omega) (by omega) (by omega) hl fun i a b=>O.tr _ _ _ (O.asym _ _ d) (h _ i a b)
   ·have d':lt (at' p k) (at' p ((l+r) / 2))=false:=by simpa using d
    have e:evT lt (KasT.ask (p.getD k 0) (p.getD ((l+r) / 2) 0) fun c=>if c=true then kas_place p k f l ((l+r) / 2) else kas_place p k f ((l+r) / 2+1) r)=evT lt (kas_place p k f ((l+r) / 2+1) r):=by
     show evT lt (if lt (at' p k) (at' p ((l+r) / 2))=true then _ else _)=_
     rw[if_neg d]
    rw[e,if_neg d]
    refine JP h f ((l+r) / 2+1) r (by omega) h2 (by omega) (fun i hi=>?_) hr
    exact O.tr _ _ _ (h i ((l+r) / 2) (by omega) (by omega)) d'
end
theorem at_of {p:Array Nat}(i:Nat):at' p i=(p[i]?).getD 0:=ND
theorem OS {p:Array Nat}{k l:Nat}(hk:k<p.size)(hl:l≤k)(i:Nat):at' (bubble p k (k - l)) i=if i=l then at' p k else if l<i/\i≤k then at' p (i - 1) else at' p i:=by
 have e:k - (k - l)=l:=by omega
 have q:=getElem?_bubble hk (k - l) (by omega) i
 rw[e] at q
 simp only[at_of,q]
 split
 ·rfl
 ·split <;> rfl
theorem mL {p:Array Nat}{i j:Nat}(hj:j≤p.size)(k:Nat):at' (kas_rev p i j) k=if i≤k/\k<j then at' p (i+j - 1 - k) else at' p k:=by
 have q:=getElem?_mirror_all (i:=i) hj k
 simp only[at_of]
 unfold kas_rev
 rw[q]
 split <;> rfl
theorem IU (p:Array Nat)(i j:Nat):(kas_rev p i j).size=p.size:=mirror_size _ _ _ _
theorem qU (p:Array Nat)(i j:Nat):(kas_rev p i j).Perm p:=mirror_perm _ _ _ _
section
variable {lt:Nat->Nat->Bool}(O:Ord lt)
include O
theorem ZH : ∀ (f:Nat) (p:Array Nat) (k:Nat),iI lt p k->k+f≤p.size->(evT lt (kas_bin f p k)).Perm p/\iI lt (evT lt (kas_bin f p k)) (k+f)
 | 0,p,k,h,_=>⟨GJ _,h⟩
 | f+1,p,k,h,hz=>by
  have e:evT lt (kas_bin (f+1) p k)=evT lt (kas_bin f (bubble p k (k - evT lt (kas_place p k k 0 k))) (k+1)):=by
   show evT lt ((kas_place p k k 0 k).bind fun l=>kas_bin f (bubble p k (k - l)) (k+1))=_
   rw[vK]
  obtain⟨h1,h2,h3⟩:=JP O h k 0 k (fA _) (bU _) (by omega) (fun i hi=>absurd hi (by omega)) (fun i a b=>absurd b (by omega))
  rw[e]
  generalize evT lt (kas_place p k k 0 k)=l at h1 h2 h3
  have hk:k<p.size:=by omega
  have A':iI lt (bubble p k (k - l)) (k+1):=fun i j hij hj=>by
   rw[OS hk h1,OS hk h1]
   by_cases ci:i=l
   ·rw[if_pos ci]
    by_cases cj:j=l
    ·rw[if_pos cj]; exact O.refl _
    ·rw[if_neg cj,if_pos ⟨by omega,by omega⟩]
     exact h3 (j - 1) (by omega) (by omega)
   ·rw[if_neg ci]
    by_cases cj:j=l
    ·rw[if_pos cj,if_neg (by omega)]
     exact h2 i (by omega)
    ·rw[if_neg cj]
     by_cases di:l<i/\i≤k
     ·rw[if_pos di,if_pos ⟨by omega,by omega⟩]
      exact h (i - 1) (j - 1) (by omega) (by omega)
     ·rw[if_neg di]
      by_cases dj:l<j/\j≤k
      ·rw[if_pos dj]
       exact h i (j - 1) (by omega) (by omega)
      ·rw[if_neg dj]
       exact h i j hij (by omega)
  obtain⟨a1,a2⟩:=ZH f (bubble p k (k - l)) (k+1) A' (by rw[bubble_size]; omega)
  exact⟨a1.trans (bubble_perm _ _ _),by rw[show k+(f+1)=k+1+f by omega]; exact a2⟩
structure Fall (lt:Nat->Nat->Bool)(p:Array Nat)(n q:Nat):Prop where
 pos:q+1≤n
 dsc:rZ lt p n
 eq : ∀ i j,n - (q+1)≤i->i<n->n - (q+1)≤j->j<n->lt (at' p i) (at' p j)=false
theorem Fall.rev {p:Array Nat}{n q:Nat}(F:Fall lt p n q)(hz:n≤p.size):Fall lt (kas_rev p (n - (q+1)) n) n q:=by
 have hp:=F.pos
 refine⟨hp,fun i j hij hj=>?_,fun i j a b c d=>?_⟩
 ·rw[mL hz,mL hz]
  by_cases ci:n - (q+1)≤i/\i<n
  ·rw[if_pos ci,if_pos ⟨by omega,hj⟩]
   exact F.eq _ _ (by omega) (by omega) (by omega) (by omega)
  ·rw[if_neg ci]
   by_cases cj:n - (q+1)≤j/\j<n
   ·rw[if_pos cj]
    exact F.dsc _ _ (by omega) (by omega)
   ·rw[if_neg cj]
    exact F.dsc i j hij hj
 ·rw[mL hz,mL hz,if_pos ⟨a,b⟩,if_pos ⟨c,d⟩]
  exact F.eq _ _ (by omega) (by omega) (by omega) (by omega)
theorem CO : ∀ (f:Nat) (p:Array Nat) (n q:Nat),Fall lt p n q->n+f≤p.size->(evT lt (kas_desc f p n q)).1.Perm p/\n≤(evT lt (kas_desc f p n q)).2.1/\(evT lt (kas_desc f p n q)).2.1≤n+f/\Fall lt (evT lt (kas_desc f p n q)).1 (evT lt (kas_desc f p n q)).2.1 (evT lt (kas_desc f p n q)).2.2
 | 0,p,n,q,F,_=>⟨GJ _,bU _,bU _,F⟩
 | f+1,p,n,q,F,hz=>by
  have hp:=F.pos
  have e:evT lt (kas_desc (f+1) p n q)=evT lt (if lt (at' p n) (at' p (n - 1))=true then(if q > 0 then kas_desc f (kas_rev p (n - (q+1)) n) (n+1) 0 else kas_desc f p (n+1) 0) else KasT.ask (p.getD (n - 1) 0) (p.getD n 0) fun d=>if d=true then .ret (p,n,q) else kas_desc f p (n+1) (q+1)):=rfl
  rw[e]
  by_cases c:lt (at' p n) (at' p (n - 1))=true
  ·rw[if_pos c]
   by_cases hq:q > 0
   ·rw[if_pos hq]
    have F':=F.rev O (by omega)
    have hn:at' (kas_rev p (n - (q+1)) n) n=at' p n:=by rw[mL (by omega),if_neg (by omega)]
    have F2:Fall lt (kas_rev p (n - (q+1)) n) (n+1) 0:=by
     refine⟨by omega,yH O (by omega) F'.dsc ?_,fun i j a b c' d=>?_⟩
     ·rw[hn,mL (by omega),if_pos ⟨by omega,by omega⟩]
      exact O.tr _ _ _ (O.asym _ _ c) (F.eq _ _ (by omega) (by omega) (by omega) (by omega))
     ·obtain rfl:i=n:=by omega
      obtain rfl:j=i:=by omega
      exact O.refl _
    obtain⟨a1,a2,a3,a4⟩:=CO f _ (n+1) 0 F2 (by rw[IU]; omega)
    exact⟨a1.trans (qU _ _ _),by omega,by omega,a4⟩
   ·rw[if_neg hq]
    have F2:Fall lt p (n+1) 0:=by
     refine⟨by omega,yH O (by omega) F.dsc (O.asym _ _ c),fun i j a b c' d=>?_⟩
     obtain rfl:i=n:=by omega
     obtain rfl:j=i:=by omega
     exact O.refl _
    obtain⟨a1,a2,a3,a4⟩:=CO f _ (n+1) 0 F2 (by omega)
    exact⟨a1,by omega,by omega,a4⟩
  ·rw[if_neg c]
   have c':lt (at' p n) (at' p (n - 1))=false:=by simpa using c
   have e2:evT lt (KasT.ask (p.getD (n - 1) 0) (p.getD n 0) fun d=>if d=true then .ret (p,n,q) else kas_desc f p (n+1) (q+1))=evT lt (if lt (at' p (n - 1)) (at' p n)=true then .ret (p,n,q) else kas_desc f p (n+1) (q+1)):=rfl
   rw[e2]
   by_cases d:lt (at' p (n - 1)) (at' p n)=true
   ·rw[if_pos d]
    exact⟨GJ _,bU _,by show n≤n+(f+1); omega,F⟩
   ·rw[if_neg d]
    have d':lt (at' p (n - 1)) (at' p n)=false:=by simpa using d
    have F2:Fall lt p (n+1) (q+1):=by
     refine⟨by omega,yH O (by omega) F.dsc d',fun i j a b a' b'=>?_⟩
     by_cases ci:i=n
     ·by_cases cj:j=n
      ·rw[ci,cj]; exact O.refl _
      ·rw[ci]
       exact O.tr _ _ _ (F.eq (n - 1) j (by omega) (by omega) (by omega) (by omega)) c'
     ·by_cases cj:j=n
      ·rw[cj]
       exact O.tr _ _ _ d' (F.eq i (n - 1) (by omega) (by omega) (by omega) (by omega))
      ·exact F.eq i j (by omega) (by omega) (by omega) (by omega)
    obtain⟨a1,a2,a3,a4⟩:=CO f _ (n+1) (q+1) F2 (by omega)
    exact⟨a1,by omega,by omega,a4⟩
end
section
variable {lt:Nat->Nat->Bool}(O:Ord lt)
include O
theorem Mm {p:Array Nat}{n:Nat}(h:rZ lt p n)(hz:n≤p.size):iI lt (kas_rev p 0 n) n:=fun i j hij hj=>by
 rw[mL hz,mL hz,if_pos ⟨fA _,hj⟩,if_pos ⟨fA _,by omega⟩]
 exact h _ _ (by omega) (by omega)
theorem QT {p:Array Nat}{n m:Nat}(h1:1≤n)(hn:n≤m)(hz:m≤p.size)(h:rZ lt p n):(evT lt (kas_tail3 n m p)).2.Perm p/\(evT lt (kas_tail3 n m p)).1≤m/\1≤(evT lt (kas_tail3 n m p)).1/\iI lt (evT lt (kas_tail3 n m p)).2 (evT lt (kas_tail3 n m p)).1:=by
 unfold kas_tail3
 rw[vK]
 obtain⟨a1,a2,a3,_⟩:=HN O (m - n) n h1 (Mm O h (by omega))
 exact⟨qU _ _ _,by show evT lt (kas_asc (kas_rev p 0 n) (m - n) n)≤m; omega,by show 1≤evT lt (kas_asc (kas_rev p 0 n) (m - n) n); omega,a3⟩
theorem QS {p:Array Nat}{n m:Nat}(h1:1≤n)(hn:n+1≤m)(hz:m≤p.size)(h:rZ lt p (n+1)):(evT lt (kas_descPart n m p)).2.Perm p/\(evT lt (kas_descPart n m p)).1≤m/\1≤(evT lt (kas_descPart n m p)).1/\iI lt (evT lt (kas_descPart n m p)).2 (evT lt (kas_descPart n m p)).1:=by
 have F0:Fall lt p (n+1) 0:=⟨by omega,h,fun i j a b c d=>by
  obtain rfl:i=n:=by omega
  obtain rfl:j=i:=by omega
  exact O.refl _⟩
 obtain⟨a1,a2,a3,a4⟩:=CO O (m - (n+1)) p (n+1) 0 F0 (by omega)
 unfold kas_descPart
 rw[vK]
 generalize evT lt (kas_desc (m - (n+1)) p (n+1) 0)=r at a1 a2 a3 a4
 have hs:=a1.size_eq
 split
 ·have F':=a4.rev O (by omega)
  obtain⟨b1,b2,b3,b4⟩:=QT O (by omega) (by omega) (by rw[IU]; omega) F'.dsc (m:=m)
  exact⟨b1.trans ((qU _ _ _).trans a1),b2,b3,b4⟩
 ·obtain⟨b1,b2,b3,b4⟩:=QT O (by omega) (by omega) (by omega) a4.dsc (m:=m)
  exact⟨b1.trans a1,b2,b3,b4⟩
theorem VD {p:Array Nat}{m:Nat}(h1:1≤m)(hz:m≤p.size):(evT lt (kas_count m p)).2.Perm p/\(evT lt (kas_count m p)).1≤m/\1≤(evT lt (kas_count m p)).1/\iI lt (evT lt (kas_count m p)).2 (evT lt (kas_count m p)).1:=by
 obtain⟨a1,a2,a3,a4⟩:=HN O (m - 1) 1 (bU _) (Kf O p)
 unfold kas_count
 rw[vK]
 generalize evT lt (kas_asc p (m - 1) 1)=n at a1 a2 a3 a4
 by_cases c:(n == m)=true
 ·rw[if_pos c]
  exact⟨GJ _,by show n≤m; omega,a1,a3⟩
 ·rw[if_neg c]
  have hnm:n≠m:=by simpa using c
  have hl:=a4 (by omega)
  by_cases d:n > 1
  ·rw[if_pos d]
   show(evT lt (if lt (at' p 0) (at' p (n - 1))=true then KasT.ret (n,p) else kas_descPart n m (kas_rev p 0 n))).2.Perm p/\(evT lt (if lt (at' p 0) (at' p (n - 1))=true then KasT.ret (n,p) else kas_descPart n m (kas_rev p 0 n))).1≤m/\1≤(evT lt (if lt (at' p 0) (at' p (n - 1))=true then KasT.ret (n,p) else kas_descPart n m (kas_rev p 0 n))).1/\iI lt (evT lt (if lt (at' p 0) (at' p (n - 1))=true then KasT.ret (n,p) else kas_descPart n m (kas_rev p 0 n))).2 (evT lt (if lt (at' p 0) (at' p (n - 1))=true then KasT.ret (n,p) else kas_descPart n m (kas_rev p 0 n))).1
   by_cases e:lt (at' p 0) (at' p (n - 1))=true
   ·rw[if_pos e]
    exact⟨GJ _,by show n≤m; omega,a1,a3⟩
   ·rw[if_neg e]
    have e':lt (at' p 0) (at' p (n - 1))=false:=by simpa using e
    have same : ∀ i j,i<n->j<n->lt (at' p i) (at' p j)=false:=fun i j hi hj=>
     O.tr _ (at' p 0) _ (O.tr _ _ _ (a3 j (n - 1) (by omega) (by omega)) e') (a3 0 i (fA _) hi)
    have D:rZ lt (kas_rev p 0 n) (n+1):=by
     refine yH O a1 (fun i j hij hj=>?_) ?_
     ·rw[mL (by omega),mL (by omega),if_pos ⟨fA _,by omega⟩,if_pos ⟨fA _,hj⟩]
      exact same _ _ (by omega) (by omega)
     ·rw[mL (by omega),mL (by omega),if_pos ⟨fA _,by omega⟩,if_neg (by omega)]
      exact O.tr _ _ _ (O.asym _ _ hl) (same _ _ (by omega) (by omega))
    obtain⟨b1,b2,b3,b4⟩:=QS O a1 (by omega) (by rw[IU]; exact hz) D (m:=m)
    exact⟨b1.trans (qU _ _ _),b2,b3,b4⟩
  ·rw[if_neg d]
   obtain rfl:n=1:=by omega
   exact QS O (bU _) (by omega) hz (yH O (bU _) (fun i j hij hj=>by
    obtain rfl:j=0:=by omega
    obtain rfl:i=0:=by omega
    exact O.refl _) (O.asym _ _ hl))
theorem QR {n:Nat}(h1:1≤n):(evT lt (kas_sort n)).Perm (lJ (cR n))/\iI lt (evT lt (kas_sort n)) n:=by
 have hs:(lJ (cR n)).size=n:=by simp
 obtain⟨a1,a2,a3,a4⟩:=VD O h1 (by rw[hs]; exact bU _)
 unfold kas_sort
 rw[vK]
 generalize evT lt (kas_count n (lJ (cR n)))=r at a1 a2 a3 a4
 have hz:=a1.size_eq.trans hs
 split
 ·have em:max r.1 1=r.1:=by omega
  rw[em]
  obtain⟨b1,b2⟩:=ZH O (n - r.1) r.2 r.1 a4 (by omega)
  exact⟨b1.trans a1,by rw[show r.1+(n - r.1)=n by omega] at b2; exact b2⟩
 ·have:r.1=n:=by omega
  exact⟨a1,by rw[this] at a4; exact a4⟩
end
def gZ {α:Type}(lt:Nat->Nat->Bool)(N:Nat):KasT α->Prop
 | .ret _=>True
 | .ask i j k=>(i<N/\j<N)/\gZ lt N (k (lt i j))
theorem vI {α β:Type}{lt:Nat->Nat->Bool}{N:Nat}{f:α->KasT β} : ∀ {t:KasT α},gZ lt N t->gZ lt N (f (evT lt t))->gZ lt N (t.bind f)
 | .ret _,_,h=>h
 | .ask i j k,h,h2=>⟨h.1,vI h.2 h2⟩
theorem OD {α:Type}{lt:Nat->Nat->Bool}{N:Nat}{cmp:Nat->Nat->(Bool->aG->Prop)->aG->Prop}{s:aG}(hc : ∀ i j (C:Bool->aG->Prop),i<N->j<N->C (lt i j) s->cmp i j C s){Q:α->aG->Prop} : ∀ {t:KasT α},gZ lt N t->Q (evT lt t) s->t.kasWp cmp Q s
 | .ret _,_,h=>h
 | .ask i j k,h,q=>hc i j _ h.1.1 h.1.2 (OD hc h.2 q)
abbrev El (N:Nat)(p:Array Nat):Prop:=∀ x∈p,x<N
theorem El.at {N:Nat}{p:Array Nat}(h:El N p)(h0:0<N)(i:Nat):at' p i<N:=by
 rw[at_of]
 cases e:p[i]? with
 | none=>exact h0
 | some v=>exact h v (Array.mem_of_getElem? e)
theorem El.perm {N:Nat}{p q:Array Nat}(h:El N p)(x:q.Perm p):El N q:=fun v m=>h v (x.mem_iff.mp m)
section
variable {lt:Nat->Nat->Bool}{N:Nat}(h0:0<N)
include h0
theorem LP {p:Array Nat}(h:El N p) : ∀ f n,gZ lt N (kas_asc p f n)
 | 0,_=>trivial
 | f+1,n=>by
  refine⟨⟨h.at h0 _,h.at h0 _⟩,?_⟩
  show gZ lt N (if lt (at' p n) (at' p (n - 1))=true then KasT.ret n else kas_asc p f (n+1))
  by_cases c:lt (at' p n) (at' p (n - 1))=true
  ·rw[if_pos c]; trivial
  ·rw[if_neg c]; exact LP h f (n+1)
theorem IG {p:Array Nat}{k:Nat}(h:El N p) : ∀ f l r,gZ lt N (kas_place p k f l r)
 | 0,_,_=>trivial
 | f+1,l,r=>by
  unfold kas_place
  by_cases c:l ≥ r
  ·rw[if_pos c]; trivial
  ·rw[if_neg c]
   refine⟨⟨h.at h0 _,h.at h0 _⟩,?_⟩
   show gZ lt N (if lt (at' p k) (at' p ((l+r) / 2))=true then kas_place p k f l ((l+r) / 2) else kas_place p k f ((l+r) / 2+1) r)
   by_cases d:lt (at' p k) (at' p ((l+r) / 2))=true
   ·rw[if_pos d]; exact IG h f _ _
   ·rw[if_neg d]; exact IG h f _ _
theorem OX : ∀ (f:Nat) (p:Array Nat) (k:Nat),El N p->gZ lt N (kas_bin f p k)
 | 0,_,_,_=>trivial
 | f+1,p,k,h=>vI (IG h0 h k 0 k) (OX f _ _ (h.perm (bubble_perm _ _ _)))
theorem CI : ∀ (f:Nat) (p:Array Nat) (n q:Nat),El N p->gZ lt N (kas_desc f p n q)/\El N (evT lt (kas_desc f p n q)).1
 | 0,_,_,_,h=>⟨trivial,h⟩
 | f+1,p,n,q,h=>by
  have e:evT lt (kas_desc (f+1) p n q)=evT lt (if lt (at' p n) (at' p (n - 1))=true then(if q > 0 then kas_desc f (kas_rev p (n - (q+1)) n) (n+1) 0 else kas_desc f p (n+1) 0) else KasT.ask (p.getD (n - 1) 0) (p.getD n 0) fun d=>if d=true then .ret (p,n,q) else kas_desc f p (n+1) (q+1)):=rfl
  have g:gZ lt N (kas_desc (f+1) p n q)↔(at' p n<N/\at' p (n - 1)<N)/\gZ lt N (if lt (at' p n) (at' p (n - 1))=true then(if q > 0 then kas_desc f (kas_rev p (n - (q+1)) n) (n+1) 0 else kas_desc f p (n+1) 0) else KasT.ask (p.getD (n - 1) 0) (p.getD n 0) fun d=>if d=true then .ret (p,n,q) else kas_desc f p (n+1) (q+1)):=Iff.rfl
  rw[g,e]
  by_cases c:lt (at' p n) (at' p (n - 1))=true
  ·rw[if_pos c]
   by_cases hq:q > 0
   ·rw[if_pos hq]
    obtain⟨a,b⟩:=CI f _ (n+1) 0 (h.perm (qU p (n - (q+1)) n))
    exact⟨⟨⟨h.at h0 _,h.at h0 _⟩,a⟩,b⟩
   ·rw[if_neg hq]
    obtain⟨a,b⟩:=CI f _ (n+1) 0 h
    exact⟨⟨⟨h.at h0 _,h.at h0 _⟩,a⟩,b⟩
  ·rw[if_neg c]
   have e2:evT lt (KasT.ask (p.getD (n - 1) 0) (p.getD n 0) fun d=>if d=true then .ret (p,n,q) else kas_desc f p (n+1) (q+1))=evT lt (if lt (at' p (n - 1)) (at' p n)=true then .ret (p,n,q) else kas_desc f p (n+1) (q+1)):=rfl
   have g2:gZ lt N (KasT.ask (p.getD (n - 1) 0) (p.getD n 0) fun d=>if d=true then .ret (p,n,q) else kas_desc f p (n+1) (q+1))↔(at' p (n - 1)<N/\at' p n<N)/\gZ lt N (if lt (at' p (n - 1)) (at' p n)=true then .ret (p,n,q) else kas_desc f p (n+1) (q+1)):=Iff.rfl
   rw[g2,e2]
   by_cases d:lt (at' p (n - 1)) (at' p n)=true
   ·rw[if_pos d]
    exact⟨⟨⟨h.at h0 _,h.at h0 _⟩,⟨h.at h0 _,h.at h0 _⟩,trivial⟩,h⟩
   ·rw[if_neg d]
    obtain⟨a,b⟩:=CI f _ (n+1) (q+1) h
    exact⟨⟨⟨h.at h0 _,h.at h0 _⟩,⟨h.at h0 _,h.at h0 _⟩,a⟩,b⟩
theorem ZR {p:Array Nat}(n m:Nat)(h:El N p):gZ lt N (kas_tail3 n m p):=vI (LP h0 (h.perm (qU _ _ _)) _ _) trivial
theorem PX {p:Array Nat}(n m:Nat)(h:El N p):gZ lt N (kas_descPart n m p):=by
 obtain⟨a,b⟩:=CI h0 (m - (n+1)) p (n+1) 0 h
 refine vI a ?_
 split
 ·exact ZR h0 _ _ (b.perm (qU _ _ _))
 ·exact ZR h0 _ _ b
theorem Uq {p:Array Nat}(m:Nat)(h:El N p):gZ lt N (kas_count m p):=by
 refine vI (LP h0 h _ _) ?_
 generalize evT lt (kas_asc p (m - 1) 1)=n
 by_cases c:(n == m)=true
 ·rw[if_pos c]; trivial
 ·rw[if_neg c]
  by_cases d:n > 1
  ·rw[if_pos d]
   refine⟨⟨h.at h0 _,h.at h0 _⟩,?_⟩
   show gZ lt N (if lt (at' p 0) (at' p (n - 1))=true then KasT.ret (n,p) else kas_descPart n m (kas_rev p 0 n))
   by_cases e:lt (at' p 0) (at' p (n - 1))=true
   ·rw[if_pos e]; trivial
   ·rw[if_neg e]; exact PX h0 _ _ (h.perm (qU _ _ _))
  ·rw[if_neg d]; exact PX h0 _ _ h
end
theorem Ll {lt:Nat->Nat->Bool}(O:Ord lt){n:Nat}(h1:1≤n):gZ lt n (kas_sort n):=by
 have hs:(lJ (cR n)).size=n:=by simp
 have h:El n (lJ (cR n)):=fun x m=>by simpa using m
 refine vI (Uq (by omega) n h) ?_
 obtain⟨a1,_⟩:=VD O h1 (by rw[hs]; exact bU _)
 generalize evT lt (kas_count n (lJ (cR n)))=r at a1
 split
 ·exact OX (by omega) _ _ _ (h.perm a1)
 ·trivial
theorem Lm {lt:Nat->Nat->Bool}(O:Ord lt){n:Nat}(h1:1≤n){cmp:Nat->Nat->(Bool->aG->Prop)->aG->Prop}{s:aG}(hc : ∀ i j (C:Bool->aG->Prop),i<n->j<n->C (lt i j) s->cmp i j C s){G:Array Nat->aG->Prop}
  (h : ∀ p:Array Nat,p.Perm (lJ (cR n))->iI lt p n->G p s):(kas_sort n).kasWp cmp G s:=
 OD hc (Ll O h1) (h _ (QR O h1).1 (QR O h1).2)
section
variable {prog:bS}{w:bB}{A:cE}{E:aE->aG->Prop}{s:aG}
abbrev Ct (a:aD)(h h':aU):Prop:=∀ b o,b≠a->h.get? b=some o->h'.get? b=some o
noncomputable abbrev kR (h:aU)(a:aD)(vs:List aE):aU:=((h.update a (gL fun _=>#[])).push (nN "tuple" vs.toArray 0)).push (nN "list" #[] 0)
theorem Ma {h:aU}{a:aD}{vs:List aE}:Ct a h (kR h a vs):=fun b o hb e=>
 cP _ (cP _ (((MS h a (gL fun _=>(#[]:Array aE))).2 b hb).trans e))
theorem Kt {a:aD}{vs:List aE}{n:Nat}{κ:SortKind}{lt:Nat->Nat->Bool}{P:PySem.Fin->aG->Prop}(O:Ord lt)(ho:s.heap.get? a=some (nN "list" vs.toArray n))(h2:2≤vs.length)(h64:vs.length<64)
  (hk : ∀ (Q:SortKind->aG->Prop),Q κ { s with heap:=kR s.heap a vs }->aN (aR prog w) A (keyKind' vs.toArray) Q E { s with heap:=kR s.heap a vs })
  (hc : ∀ i j (C:Bool->aG->Prop),i<vs.length->j<vs.length->C (lt i j) { s with heap:=kR s.heap a vs }->aN (aR prog w) A (keyLt' κ (vs.getD i fZ) (vs.getD j fZ)) C (fun _ _=>False) { s with heap:=kR s.heap a vs })
  (h : ∀ p:Array Nat,p.Perm (lJ (cR vs.length))->iI lt p vs.length->P (.done (.ret .none)) { s with heap:=sortedHeap s.heap a vs (lJ (p.toList.map fun i=>vs.getD i fZ)) }) :
  aN (aR prog w) A (Builtin.«list.sort» ⟨[.ref a],[]⟩) P E s:=by
 have lz:vs.length≤sizeLine:=by rw[nM]; omega
 have ha:a<s.heap.objs.size:=cL ho
 obtain⟨e1,ho1⟩ : ∃ e,(s.heap.update a (gL fun _=>(#[]:Array aE))).get? a=some (nN "list" #[] e):=⟨_,get?_update_seq ho fun _=>#[]⟩
 have hoM:(kR s.heap a vs).get? a=some (nN "list" #[] e1):=cP _ (cP _ ho1)
 rw[list_sort_plain]
 refine aI (listItems_at ho rfl (aI (FJ ho rfl (aI (seqEpoch_at ho1 rfl (aI (wpAny_newTuple (aI (wpAny_newList (jR ?_) (fA _))) (by simpa using lz))))) (by rw[eF]; exact lz) (fA _))))
 show aN (aR prog w) A _ P E { s with heap:=kR s.heap a vs }
 dsimp only
 have big : ¬ vs.toArray.size<2:=by rw[eF]; omega
 rw[if_neg big,if_neg big]
 refine aI (hk _ ?_)
 have eS:SortSt.mk' κ (vs.toArray.zip vs.toArray) #[] 7 none=kas_st κ (pairsOf vs) (lJ (cR vs.length)):=by
  have e:=kas_range (pairsOf vs)
  rw[pairsOf_size] at e
  unfold kas_st
  rw[e]
  rfl
 have run:=kas_runs (prog:=prog) (w:=w) (A:=A) (κ:=κ) (it:=pairsOf vs) (E:=E) (s:={ s with heap:=kR s.heap a vs }) (Q:=fun _ st' s'=>s' = { s with heap:=kR s.heap a vs } /\ ∃ p:Array Nat,p.Perm (lJ (cR vs.length))/\iI lt p vs.length/\arrOf st'=p.map (kas_item (pairsOf vs))/\failedOf st'=none)
  (G:=fun p s'=>s' = { s with heap:=kR s.heap a vs }/\p.Perm (lJ (cR vs.length))/\iI lt p vs.length) h2 h64 (fun p' st' s' a1 a2 a3 ⟨b1,b2,b3⟩=>⟨b1,p',b2,b3,a2,a3⟩)
  (Lm O (by omega) (fun i j C hi hj q=>by
   unfold kas_cmp
   rw[kas_item_eq,kas_item_eq]
   exact hc i j C hi hj q) fun p b1 b2=>⟨rfl,b1,b2⟩)
 rw[← eS] at run
 refine aI (kW run ?_ fun _ _ e=>e)
 rintro⟨⟨⟩,st'⟩ s' ⟨rfl,p,b1,b2,har,hf⟩
 dsimp only
 have hout:(arrOf st').map (·.2)=lJ (p.toList.map fun i=>vs.getD i fZ):=by
  apply GI.mp
  rw[har,Array.map_map,Array.toList_map]
  exact BC fun i _=>congrArg Prod.snd (kas_item_eq vs i)
 have hps:p.size=vs.length:=by
  have:=b1.size_eq
  simpa using this
 have hsz:(lJ (p.toList.map fun i=>vs.getD i fZ)).size≤sizeLine:=by
  rw[eF,cX,gW,hps]; exact lz
 rw[hout]
 refine aI (seqEpoch_at hoM rfl (aI (FJ hoM rfl ?_ (fA _) (Nat.le_succ_of_le hsz))))
 rw[hf]
 simp only[bne_self_eq_false,iV,if_false]
 exact aT (h p b1 b2)
end
noncomputable def gY:aA->List Int
 | .int i=>[0,i]
 | .str x=>1::x.cps.toList.map oV
 | _=>[2]
noncomputable def cY (ks:List aA):List (List Int):=ks.map gY
theorem UF (a b:List (List Int))(h:a<b) : ¬ b<a:=List.lt_asymm h
theorem TR (a b c:List (List Int))(h1 : ¬ b<a)(h2 : ¬ c<b) : ¬ c<a:=by
 have h1:=h1
 have h2:=h2
 exact List.le_trans h1 h2
theorem IV {d e:aA}(h1:(∃ i,d = .int i) \/ ∃ x,d = .str x)(h2:(∃ i,e = .int i) \/ ∃ x,e = .str x)(h:gY d=gY e):d=e:=by
 rcases h1 with⟨i,rfl⟩ | ⟨x,rfl⟩ <;> rcases h2 with⟨j,rfl⟩ | ⟨y,rfl⟩
 ·simp[gY] at h; rw[h]
 ·simp[gY] at h
 ·simp[gY] at h
 ·have h':x.cps.toList.map oV=y.cps.toList.map oV:=by simpa [gY] using h
  have:=(BB (fun a b q=>Int.ofNat.inj q)).mp h'
  have:x=y:=by
   cases x; cases y
   simp only at this
   rw[GI.mp this]
  rw[this]
noncomputable def Dx (kss:List (List aA))(i j:Nat):Bool:=decide (cY (kss.getD i [])<cY (kss.getD j []))
theorem Hg (kss:List (List aA)):Ord (Dx kss):=by
 refine⟨fun a b h=>?_,fun a b c h1 h2=>?_⟩
 ·have:=UF _ _ (of_decide_eq_true h)
  exact decide_eq_false this
 ·exact decide_eq_false (TR _ _ _ (of_decide_eq_false h1) (of_decide_eq_false h2))
theorem Ab4.tupK {K:aK}{H:Hp}{ks:List aA}{v:V}(r:Ab4 K H (.tuple ks) v)(h1:cG ks=true)(h2:dJ ks≤6) : ∃ a,v = .ref a/\A4z H ks a:=by
 obtain⟨a,xs,e,s,r⟩:=Aa4.mp r
 exact⟨a,e,h1,h2,xs,s,Aaw.keys ks h1 r⟩
noncomputable def qF:List aA->Option (List (List aA))
 | []=>some []
 | .tuple ks::r=>if cG ks=true/\dJ ks≤6 then(qF r).bind fun kss=>some (ks::kss) else none
 | _::_=>none
noncomputable def gE (acc:List (List aA))(k:List aA):List (List aA):=if k∈acc then acc else acc++[k]
noncomputable def dQ (kss:List (List aA)):List (List aA):=kss.foldl gE []
open PySem PySem.Spec PySem.W PyProof.Rows
noncomputable def jF:List aA->List aA->Bool
 | [],[]=>true
 | .int _::r,.int _::r'=>jF r r'
 | .str _::r,.str _::r'=>jF r r'
 | _,_=>false
theorem ZC (i j:Int)(r r':List aA):(cY (.int i::r)<cY (.int j::r'))↔i<j \/ i=j/\cY r<cY r':=by
 show(gY (.int i)::cY r<gY (.int j)::cY r')↔_
 rw[BD]
 simp[gY,BD]
theorem map_lt (xs ys:List Nat):(xs.map oV<ys.map oV)↔xs<ys:=by
 induction xs generalizing ys with
 | nil=>cases ys <;> simp
 | cons x r ih=>
  cases ys with
  | nil=>simp
  | cons y r'=>
   rw[fE,fE,BD,BD,ih]
   have h1:(oV x<oV y)↔x<y:=Int.ofNat_lt
   have h2:(oV x=oV y)↔x=y:=⟨fun e=>Int.ofNat.inj e,fun e=>by rw[e]⟩
   rw[h1,h2]
theorem ZP (x y:aB)(r r':List aA):(cY (.str x::r)<cY (.str y::r'))↔x.cps.toList<y.cps.toList \/ x=y/\cY r<cY r':=by
 show(gY (.str x)::cY r<gY (.str y)::cY r')↔_
 rw[BD]
 have h1:(gY (.str x)<gY (.str y))↔x.cps.toList<y.cps.toList:=by
  show((1:Int)::x.cps.toList.map oV<(1:Int)::y.cps.toList.map oV)↔_
  rw[BD,map_lt]
  simp
 have h2:(gY (.str x)=gY (.str y))↔x=y:=⟨fun e=>by
  have:=IV (.inr ⟨x,rfl⟩) (.inr ⟨y,rfl⟩) e
  injection this,fun e=>by rw[e]⟩
 rw[h1,h2]
section
variable {prog:bS}{w:bB}{A:cE}{s:aG}{Q:Bool->aG->Prop}
theorem LN {b:Bool} : ∀ (ks ks':List aA) {vs vs':List aE} {as as':List aD} (i:Nat),jF ks ks'=true->nP s.heap vs ks as->nP s.heap vs' ks' as'->Q (decide (cY ks<cY ks')) s->KatLex prog w A b false Q (vs.zip vs') i s
 | [],[],vs,vs',as,as',i,_,r,r',h=>by
  cases r; cases r'
  exact kat_nil h
 | .int x::ks,.int y::ks',vs,vs',as,as',i,hs,r,r',h=>by
  cases r with
  | cons r1 r2=>
   cases r' with
   | cons r1' r2'=>
    cases r1 with
    | int _ t=>
     cases r1' with
     | int _ u=>
      rw[Bn]
      refine kat_cons ((iZ prog w).eqBool (KN _ _ x t) (KN _ _ y u) ?_)
      refine kat_go (fun e=>kat_yes ?_) fun e=>kat_no ?_
      ·have e':x=y:=by simpa using e
       subst e'
       refine LN ks ks' (i+1) (by simpa [jF] using hs) r2 r2' ?_
       have:decide (cY (.int x::ks)<cY (.int x::ks'))=decide (cY ks<cY ks'):=decide_eq_decide.mpr (by rw[ZC]; simp)
       rw[← this]; exact h
      ·have e':x≠y:=by simpa using e
       have:decide (cY (.int x::ks)<cY (.int y::ks'))=decide (x<y):=decide_eq_decide.mpr (by rw[ZC]; simp[e'])
       rw[this] at h
       cases(b&&i == 0) with
       | true=>exact oneLt_int h
       | false=>exact kat_one _ _ (lt_int h)
 | .str x::ks,.str y::ks',vs,vs',as,as',i,hs,r,r',h=>by
  cases r with
  | cons r1 r2=>
   cases r' with
   | cons r1' r2'=>
    cases r1 with
    | str _ t=>
     cases r1' with
     | str _ u=>
      rw[Bn]
      refine kat_cons ((iZ prog w).eqBool (KI _ _ x t) (KI _ _ y u) ?_)
      refine kat_go (fun e=>kat_yes ?_) fun e=>kat_no ?_
      ·have e':x=y:=by simpa using e
       subst e'
       refine LN ks ks' (i+1) (by simpa [jF] using hs) r2 r2' ?_
       have:decide (cY (.str x::ks)<cY (.str x::ks'))=decide (cY ks<cY ks'):=decide_eq_decide.mpr (by rw[ZP]; simp[List.lt_irrefl])
       rw[← this]; exact h
      ·have e':x≠y:=by simpa using e
       have:decide (cY (.str x::ks)<cY (.str y::ks'))=decide (x.cps.toList<y.cps.toList):=decide_eq_decide.mpr (by rw[ZP]; simp[e'])
       rw[this] at h
       cases(b&&i == 0) with
       | true=>exact oneLt_str h
       | false=>exact kat_one _ _ (lt_str h)
end
noncomputable def lR:List aA->Option String
 | .int _::_=>some "int"
 | .str _::_=>some "str"
 | _=>none
theorem Tr {M:Model}{h:aU}{k:List aA}{b:aD}{T:String}(hd:Adx h k b)(hk:lR k=some T) :
  ∃ o xs n f,h.get? b=some o/\o.cls = .type "tuple" /\ o.data = .seq xs n/\xs[0]?=some f/\Looks M h (typeOf f) (.type T):=by
 obtain⟨_,_,as,r⟩:=hd
 obtain⟨a,o,xs,n,e,ho,hc,hd,hi⟩:=qY r
 cases e
 match k,hk,hi with
 | .int i::r,hk,hi=>
  cases hk
  generalize hx:xs.toList=l at hi
  cases hi with
  | cons h1 _=>
   cases h1 with
   | int _ t=>exact⟨o,xs,n,.int i t,ho,hc,hd,by rw[← nA,hx]; rfl,Looks.of_pure rfl⟩
 | .str x::r,hk,hi=>
  cases hk
  generalize hx:xs.toList=l at hi
  cases hi with
  | cons h1 _=>
   cases h1 with
   | str _ t=>exact⟨o,xs,n,.str x t,ho,hc,hd,by rw[← nA,hx]; rfl,Looks.of_pure rfl⟩
abbrev Ajc (h:aU)(vs:List aE)(kss:List (List aA)):Prop:=eR (fun v k=>∃ b,v=fQ b/\Adx h k b) vs kss
theorem TX {M:Model}{h:aU}{T:String} : ∀ {vs:List aE} {kss:List (List aA)},Ajc h vs kss->(∀ k∈kss,lR k=some T) -> ∃ fs,KatTups h vs fs/\fs.length=vs.length /\ ∀ f∈fs,Looks M h (typeOf f) (.type T)
 | _,_,.nil,_=>⟨[],KatTups.nil,rfl,fun _ m=>by simp at m⟩
 | _,_,.cons ⟨b,e,hd⟩ t,hk=>by
  obtain⟨fs,h1,h2,h3⟩:=TX (M:=M) t fun k m=>hk k (cA _ m)
  obtain⟨o,xs,n,f,q1,q2,q3,q4,q5⟩:=Tr (M:=M) hd (hk _ bQ)
  subst e
  refine⟨f::fs,KatTups.cons q1 q2 q3 q4 h1,by rw[fI,fI,h2],fun g m=>?_⟩
  rcases cN.mp m with rfl | m
  ·exact q5
  ·exact h3 g m
theorem Ajc.get {h:aU} : ∀ {vs:List aE} {kss:List (List aA)},Ajc h vs kss -> ∀ i,i<vs.length -> ∃ b,vs.getD i fZ = .ref b/\Adx h (kss.getD i []) b/\kss.getD i []∈kss
 | _,_,.nil,i,hi=>absurd hi (by simp)
 | _,_,.cons ⟨b,e,hd⟩ t,0,_=>⟨b,e,hd,bQ⟩
 | _,_,.cons _ t,i+1,hi=>by
  obtain⟨b,q1,q2,q3⟩:=Ajc.get t i (by simpa using hi)
  exact⟨b,by simpa using q1,by simpa using q2,by simpa using cA _ q3⟩
theorem Ajc.keep {h h':aU}(k : ∀ b o,h.get? b=some o->h'.get? b=some o) : ∀ {vs:List aE} {kss:List (List aA)},Ajc h vs kss->Ajc h' vs kss
 | _,_,.nil=>.nil
 | _,_,.cons ⟨b,e,hd⟩ t=>.cons ⟨b,e,hd.keep fun b o _ _ q _ _=>k b o q⟩ (Ajc.keep k t)
theorem JN : ∀ {k k':List aA},jF k k'=true->k.length=k'.length
 | [],[],_=>rfl
 | .int _::r,.int _::r',h=>by rw[fI,fI,JN (by simpa [jF] using h)]
 | .str _::r,.str _::r',h=>by rw[fI,fI,JN (by simpa [jF] using h)]
theorem JB {h:aU} : ∀ {vs:List aE} {ks:List aA} {as:List aD},nP h vs ks as->vs.length=ks.length
 | _,_,_,.nil=>rfl
 | _,_,_,.cons _ t=>by rw[fI,fI,JB t]
section
variable {prog:bS}{w:bB}{A:cE}{E:aE->aG->Prop}{s:aG}
theorem Wk {a:aD}{vs:List aE}{n:Nat}{P:PySem.Fin->aG->Prop}(ho:s.heap.get? a=some (nN "list" vs.toArray n))(h2:vs.length<2)(h:P (.done (.ret .none)) { s with heap:=sortedHeap s.heap a vs vs.toArray }) :
  aN (aR prog w) A (Builtin.«list.sort» ⟨[.ref a],[]⟩) P E s:=by
 have lz:vs.length≤sizeLine:=by rw[nM]; omega
 obtain⟨e1,ho1⟩ : ∃ e,(s.heap.update a (gL fun _=>(#[]:Array aE))).get? a=some (nN "list" #[] e):=⟨_,get?_update_seq ho fun _=>#[]⟩
 have hoM:(kR s.heap a vs).get? a=some (nN "list" #[] e1):=cP _ (cP _ ho1)
 rw[list_sort_plain]
 refine aI (listItems_at ho rfl (aI (FJ ho rfl (aI (seqEpoch_at ho1 rfl (aI (wpAny_newTuple (aI (wpAny_newList (jR ?_) (fA _))) (by simpa using lz))))) (by rw[eF]; exact lz) (fA _))))
 show aN (aR prog w) A _ P E { s with heap:=kR s.heap a vs }
 dsimp only
 have few:vs.toArray.size<2:=by rw[eF]; exact h2
 rw[if_pos few,if_pos few]
 refine aI (aT ?_)
 rw[StateT.run_pure]
 refine aI (aT ?_)
 dsimp only
 have hout:(arrOf (SortSt.mk' general' (vs.toArray.zip vs.toArray) #[] 7 none)).map (·.2)=vs.toArray:=by
  show(vs.toArray.zip vs.toArray).map (·.2)=vs.toArray
  apply GI.mp
  have : ∀ l:List aE,List.map (fun x=>x.snd) (l.zip l)=l:=fun l=>by
   induction l with
   | nil=>rfl
   | cons a l ih=>rw[Bn,fE,ih]
  simpa using this vs
 rw[hout]
 refine aI (seqEpoch_at hoM rfl (aI (FJ hoM rfl ?_ (fA _) (Nat.le_succ_of_le (by rw[eF]; exact lz)))))
 simp only[bne_self_eq_false,iV,if_false]
 exact aT h
end
theorem IC : ∀ {a b:List aA},jF a b=true->cY a=cY b->a=b
 | [],[],_,_=>rfl
 | .int i::r,.int j::r',h,e=>by
  have h':jF r r'=true:=by simpa [jF] using h
  have e':gY (.int i)=gY (.int j)/\cY r=cY r':=by simpa [cY] using e
  rw[IV (.inl ⟨i,rfl⟩) (.inl ⟨j,rfl⟩) e'.1,IC h' e'.2]
 | .str x::r,.str y::r',h,e=>by
  have h':jF r r'=true:=by simpa [jF] using h
  have e':gY (.str x)=gY (.str y)/\cY r=cY r':=by simpa [cY] using e
  rw[IV (.inr ⟨x,rfl⟩) (.inr ⟨y,rfl⟩) e'.1,IC h' e'.2]
noncomputable def leT (a b:List aA):Bool:=!decide (cY b<cY a)
theorem Akw {a b:List aA}:leT a b=true ↔ ¬ cY b<cY a:=by simp[leT]
theorem Zh (a b c:List aA)(h1:leT a b=true)(h2:leT b c=true):leT a c=true:=Akw.mpr (TR _ _ _ (Akw.mp h1) (Akw.mp h2))
theorem Wr (a b:List aA):(leT a b||leT b a)=true:=by
 by_cases h:cY b<cY a
 ·have:=UF _ _ h
  simp[leT,h,this]
 ·simp[leT,h]
theorem Us {a b:List aA}(hs:jF a b=true)(h1:leT a b=true)(h2:leT b a=true):a=b:=by
 have h1:=Akw.mp h1
 have h2:=Akw.mp h2
 exact IC hs (List.le_antisymm h1 h2)
noncomputable def kN (kss:List (List aA)):List (List aA):=kss.mergeSort leT
noncomputable def sameAll (kss:List (List aA)):Bool:=kss.all fun k=>kss.all fun k'=>jF k k'
noncomputable def okT (kss:List (List aA)):Bool:=decide (kss.length<2)||(sameAll kss&&kss.all fun k=>(lR k).isSome)
theorem tD (kss:List (List aA)):(kN kss).Perm kss:=List.mergeSort_perm kss leT
theorem WM (kss:List (List aA)):(kN kss).Pairwise fun a b=>leT a b=true:=List.pairwise_mergeSort Zh Wr kss
theorem JD {kss qs:List (List aA)}(hs:okT kss=true)(hp:qs.Perm kss)(hr:qs.Pairwise fun a b=>leT a b=true):qs=kN kss:=by
 have hp':=hp.trans (tD kss).symm
 by_cases h2:kss.length<2
 ·have l1:qs.length<2:=by rw[hp.length_eq]; exact h2
  match qs,l1,hp' with
  | [],_,hp'=>exact(List.nil_perm.mp hp').symm
  | [q],_,hp'=>exact List.singleton_perm.mp hp'
 ·have hs':sameAll kss=true:=by
   have:(sameAll kss&&kss.all fun k=>(lR k).isSome)=true:=by simpa [okT,h2] using hs
   exact(qB.mp this).1
  refine List.Perm.eq_of_pairwise (fun a b ma mb h1 h2=>Us ?_ h1 h2) hr (WM kss) hp'
  have ma':=hp.mem_iff.mp ma
  have mb':=(tD kss).mem_iff.mp mb
  exact dZ.mp (dZ.mp hs' a ma') b mb'
theorem same_kind : ∀ {k k':List aA},jF k k'=true->lR k=lR k'
 | [],[],_=>rfl
 | .int _::_,.int _::_,_=>rfl
 | .str _::_,.str _::_,_=>rfl
theorem Lc {k:List aA}{T:String}(h:lR k=some T):T = "int" \/ T = "str":=by
 unfold lR at h
 split at h
 ·cases h; exact .inl rfl
 ·cases h; exact .inr rfl
 ·cases h
section
variable {X:Cx}
def Fe (K:aK):V->List V->Hp->VK->Prop:=fun x vs H Q=>∃ l b xs zs,x = .ref l/\vs=[.ref b]/\H l=some (.lst xs)/\(SqL K H b zs \/ SqT K H b zs)/\xs.length+zs.length≤sizeLine/\Q .non (upd H l (.lst (xs++zs)))
theorem Pm:MtM X "list.extend" (Fe X.K):=by
 intro pins s σ H x vs v us Q I rx rv h
 obtain⟨l,b,xs,zs,rfl,rfl,hH,hB,hz,q⟩:=h
 cases rx
 obtain⟨u,rfl,ru⟩:=rv.one
 cases ru
 obtain⟨z,its,n,r,hl,e⟩:=I.lstM hH
 obtain⟨its2,r2,T,o2,n2,g1,g2,g3,hT⟩ : ∃ (its2:List aE),Vals zs its2 /\ ∃ (T:String) (o2:aY) (n2:Nat),s.heap.get? b=some o2/\o2.cls = .type T/\o2.data = .seq its2.toArray n2/\(T = "list" \/ T = "tuple"):=by
  rcases hB with hB | hB
  ·obtain⟨its2,r2,pl,_⟩:=I.list hB
   obtain⟨o2,g1,g2,n2,g3⟩:=pl.isList
   exact⟨its2,r2,"list",o2,n2,g1,g2,g3,.inl rfl⟩
  ·obtain⟨its2,r2,pl,_⟩:=I.tuple hB
   obtain⟨o2,g1,g2,n2,g3⟩:=pl
   exact⟨its2,r2,"tuple",o2,n2,g1,g2,g3,.inr rfl⟩
 have hl2:=r2.length
 have hsz:its.toArray.size+its2.toArray.size≤sizeLine:=by rw[eF,eF]; omega
 have hlong : ¬ (!its.toArray.isEmpty&&Cn (its.toArray.size+its2.toArray.size))=true:=by
  rw[Wf hsz,Cq]
  exact qA
 refine kX F.slot_list_extend ⟨_,e,rfl⟩ F.entry_list_extend ?_ (F.args_list_extend_2 _ _)
 unfold Builtin.«list.extend»
 refine aI (aT ?_)
 unfold rX
 refine aI (tM ⟨o2,g1,g2⟩ ?_)
 have yes:(xP (.ref l) (.ref b)||iD T == iD "list" || iD T == iD "tuple")=true:=by
  rcases hT with rfl | rfl
  ·rw[show(iD "list" == iD "list")=true from rfl]; simp
  ·rw[show(iD "tuple" == iD "tuple")=true from rfl]; simp
 rw[if_pos yes]
 refine aI (listItems_at g1 g3 (aI (listItems_at e rfl ?_)))
 rw[if_neg hlong]
 refine aI (FJ e rfl (aT ⟨.none,rfl,?_⟩) (by rw[eF]; omega) (by show(its.toArray++its2.toArray).size≤sizeLine+1; rw[Array.size_append]; omega))
 refine⟨.non,_,I.lset hH e (by simp) (r.append r2) (by rw[fL]; omega),rfl,q⟩
end
section
variable {X:Cx}{H0:Hp}{P0:aD->Prop}{n0:Nat}{e:aW}{f:EF}{x:aB}{px pos apos cpos:cC}{i:Nat}
noncomputable def Cu:aA->Option (List aA)
 | .list es=>some es
 | .tuple es=>some es
 | _=>none
noncomputable def zZ (i:Nat)(m:Md)(f:EF):SF:=fun ρ=>(eV 0 m f ρ).bind fun d=>(getL i ρ).bind fun ds=>(Cu d).bind fun es=>if ds.length+es.length≤sizeLine then some (.nx (ρ.set i (some (1,.list (ds++es))))) else none
theorem QY {K:aK}{H:Hp}{ds es:List aA}{xs ys:List V}(h1:Aaw K H ds xs)(h2:Aaw K H es ys):Aaw K H (ds++es) (xs++ys):=h1.append h2
theorem VJ (i:Nat)(m:Md)(he:DE X e f)(hN:X.N[i]?=some x:=by rfl)(hv:nU X.env.scope x:=by first | exact aX rfl | exact bD (aX rfl) | exact bD (bD rfl))(hd:(x == ("__debug__" : aB))=false:=by decide)
  (hcd:(x == ("__classdict__" : aB))=false:=by decide) (hbase:xF (.Name x px) "extend" X.env (bZ (.Name x px) X.env)=bZ (.Name x px) X.env:=by rfl)
  (hfew:((eM cpos (bI (e::[]) X.env)).all (fun x=>!x.1)&&(xE cpos (xB [] X.env)).all (fun x=>x.1.isSome)
   && decide ((e::[]).length+([]:List mF).length+(if ([]:List mF).isEmpty then 0 else 1)<30))=true:=by rfl)
  (hline:(apos.endLine == cpos.line)=true:=by rfl) (hs:bI (e::[]) X.env=(false,bZ e X.env)::bI [] X.env:=by rfl) (hplain:(eM cpos (bI [] X.env)).any (·.1)=false:=by rfl)
  (hsw:pT (.Call (.Attribute (.Name x px) "extend" apos) [e] [] cpos) none pos.line X.env=pure false:=by rfl):DS X H0 P0 n0 (.Expr (.Call (.Attribute (.Name x px) "extend" apos) [e] [] cpos) pos) (zZ i m f):=
 PS.imp (ZL (uP Zp PySem.F.slot_list_extend PySem.F.type_list_extend Pm (sN hN hv hd hcd) (kS (ev m he) lX hs) hbase hfew hline hs hplain) hsw) fun D σ H gh=>by
  obtain⟨B0,ρ,fp,o,S,ef,k⟩:=gh
  obtain⟨d,e1,ef2⟩:=XBs ef
  obtain⟨ds,e2,ef3⟩:=XBs ef2
  obtain⟨es,e3,ef4⟩:=XBs ef3
  obtain⟨hl,rfl⟩:=dS ef4
  obtain⟨p,xs,h1,h2,_,_⟩:=S.lst1 (vU e2)
  refine⟨.ref p,h1,.inl ⟨rfl,xs,SqL.of h2⟩,B0,ρ,fp,d,S,e1,fun v H2 gh=>?_⟩
  obtain⟨fp2,S2,r2⟩:=gh
  obtain⟨p2,xs2,q1,q2,q3,q4⟩:=S2.lst1 (vU e2)
  have:p2=p:=by rw[h1] at q1; cases q1; rfl
  subst this
  cases d with
  | list es'=>
   cases e3
   obtain⟨b,ys,rfl,hb,rr⟩:=Abp.mp r2.2
   exact⟨p2,b,xs2,ys,rfl,rfl,q2,.inl (Abd.sqL hb),by rw[q3.length,rr.length]; exact hl,k _ _ fp2 (q4 _ _ (QY q3 rr))⟩
  | tuple es'=>
   cases e3
   obtain⟨b,ys,rfl,hb,rr⟩:=Aa4.mp r2.2
   exact⟨p2,b,xs2,ys,rfl,rfl,q2,.inr (SqT.of (Abd _ _ hb)),by rw[q3.length,rr.length]; exact hl,k _ _ fp2 (q4 _ _ (QY q3 rr))⟩
  | _=>cases e3
end
open PySem PySem.SetTable
def mG (xs:Array Nat):Prop:=∀ a b u v:Nat,a<b->xs[a]?=some u->xs[b]?=some v->u<v
theorem IJ {xs:Array Nat}{j:Nat}(hr:mG xs) : ∀ fuel lo hi,hi≤xs.size->lo≤hi->hi - lo≤fuel->(∀ k<lo,∀ v,xs[k]?=some v->v<j)->(∀ k,hi≤k -> ∀ v,xs[k]?=some v->j≤v) ->
  below.go xs j fuel lo hi≤xs.size/\(∀ k<below.go xs j fuel lo hi,∀ v,xs[k]?=some v->v<j) /\ ∀ k,below.go xs j fuel lo hi≤k -> ∀ v,xs[k]?=some v->j≤v
 | 0,lo,hi,h1,h2,h3,hl,hh=>by
  have:lo=hi:=by omega
  subst this
  unfold below.go
  exact⟨h1,hl,hh⟩
 | fuel+1,lo,hi,h1,h2,h3,hl,hh=>by
  unfold below.go
  by_cases c:lo<hi
  ·rw[if_pos c]
   have hm:(lo+hi) / 2<xs.size:=by omega
   have em:=kJ hm
   have eg:xs.getD ((lo+hi) / 2) j=xs[(lo+hi) / 2]:=by simp[Array.getD,hm]
   simp only[eg]
   by_cases d:xs[(lo+hi) / 2]<j
   ·rw[if_pos d]
    refine IJ hr fuel _ _ h1 (by omega) (by omega) (fun k hk v ev=>?_) hh
    by_cases q:k=(lo+hi) / 2
    ·subst q; rw[em] at ev; cases ev; exact d
    ·have:=hr k ((lo+hi) / 2) v _ (by omega) ev em
     omega
   ·rw[if_neg d]
    refine IJ hr fuel _ _ (by omega) (by omega) (by omega) hl (fun k hk v ev=>?_)
    by_cases q:k=(lo+hi) / 2
    ·subst q; rw[em] at ev; cases ev; omega
    ·have:=hr ((lo+hi) / 2) k _ v (by omega) em ev
     omega
  ·rw[if_neg c]
   have:lo=hi:=by omega
   subst this
   exact⟨h1,hl,hh⟩
theorem DX {xs:Array Nat}(hr:mG xs)(j:Nat):below xs j≤xs.size/\(∀ k<below xs j,∀ v,xs[k]?=some v->v<j) /\ ∀ k,below xs j≤k -> ∀ v,xs[k]?=some v->j≤v:=
 IJ hr xs.size 0 xs.size (bU _) (fA _) (by omega) (fun k hk=>absurd hk (by omega)) (fun k hk v ev=>by
  have:=(uD.mp ev).1
  omega)
theorem below_at {xs:Array Nat}(hr:mG xs){i j:Nat}(h:xs[i]?=some j):below xs j=i:=by
 obtain⟨h1,h2,h3⟩:=DX hr j
 rcases FW (below xs j) i with q | q | q
 ·have hi:=(uD.mp h).1
  have e:xs[below xs j]?=some (xs[below xs j]'(by omega)):=kJ (by omega)
  have a:=h3 _ (bU _) _ e
  have b:=hr _ _ _ _ q e h
  omega
 ·exact q
 ·have:=h2 i q j h
  omega
theorem HX (j:Nat):has #[] j=false:=by simp[has]
theorem DD {t:eB}(hd:t.dummies = #[])(hr:mG t.place){i j:Nat}:t.slot j = .live i↔t.place[i]?=some j:=by
 unfold slot
 rw[hd,HX]
 dsimp only
 constructor
 ·intro h
  split at h
  ·rename_i c
   cases h
   simpa using c
  ·simp at h
 ·intro h
  rw[below_at hr h,h]
  simp
theorem Oe {t:eB}(hd:t.dummies = #[])(hr:mG t.place){j:Nat}(h : ∀ i:Nat,t.place[i]?≠some j):t.slot j = .empty:=by
 unfold slot
 rw[hd,HX]
 dsimp only
 rw[if_neg (by simpa using h _)]
 rfl
noncomputable def adv (mask:Nat)(p:Probe):Probe:=if p.more > 0 then { p with j:=p.j+1,more:=p.more - 1 } else
 { p with j:=(leap mask p.i p.perturb).1,more:=runEnd mask (leap mask p.i p.perturb).1 - (leap mask p.i p.perturb).1,i:=(leap mask p.i p.perturb).1,perturb:=(leap mask p.i p.perturb).2 }
theorem JY (t:eB)(p:Probe):t.advance p=adv t.mask p:=by
 unfold advance adv
 rfl
noncomputable def pN (mask:Nat)(p:Probe):Nat->Probe
 | 0=>p
 | n+1=>adv mask (pN mask p n)
theorem LH (mask:Nat)(p:Probe)(a:Nat) : ∀ b,pN mask (pN mask p a) b=pN mask p (a+b)
 | 0=>rfl
 | b+1=>by
  show adv mask (pN mask (pN mask p a) b)=adv mask (pN mask p (a+b))
  rw[LH mask p a b]
noncomputable def blk (mask i per:Nat):Probe:={ j:=i,more:=runEnd mask i - i,i,perturb:=per,dummy:=none }
theorem Gv (mask i:Nat):runEnd mask i - i≤9:=by
 unfold runEnd
 split <;> omega
theorem HU (mask i per:Nat) : ∀ k,k≤runEnd mask i - i->pN mask (blk mask i per) k = { j:=i+k,more:=runEnd mask i - i - k,i,perturb:=per,dummy:=none }
 | 0,_=>rfl
 | k+1,h=>by
  show adv mask (pN mask (blk mask i per) k)=_
  rw[HU mask i per k (by omega)]
  unfold adv
  rw[if_pos (by show runEnd mask i - i - k > 0; omega)]
  rfl
theorem SR (mask i per:Nat):pN mask (blk mask i per) (runEnd mask i - i+1)=blk mask (leap mask i per).1 (leap mask i per).2:=by
 show adv mask (pN mask (blk mask i per) (runEnd mask i - i))=_
 rw[HU mask i per _ (bU _)]
 unfold adv
 rw[if_neg (by show ¬ (runEnd mask i - i - (runEnd mask i - i) > 0); omega)]
 rfl
noncomputable def lp (mask:Nat)(s:Nat×Nat):Nat->Nat×Nat
 | 0=>s
 | m+1=>leap mask (lp mask s m).1 (lp mask s m).2
theorem SK (mask i per:Nat) : ∀ m,∃ n,n≤10*m/\pN mask (blk mask i per) n=blk mask (lp mask (i,per) m).1 (lp mask (i,per) m).2
 | 0=>⟨0,by omega,rfl⟩
 | m+1=>by
  obtain⟨n,hn,e⟩:=SK mask i per m
  have b:=Gv mask (lp mask (i,per) m).1
  refine⟨n+(runEnd mask (lp mask (i,per) m).1 - (lp mask (i,per) m).1+1),by omega,?_⟩
  rw[← LH,e,SR]
  rfl
theorem YA (mask i per:Nat) : ∀ m,(lp mask (i,per) m).2=per / 32 ^ m
 | 0=>by simp[lp]
 | m+1=>by
  show(lp mask (i,per) m).2 / 32=_
  rw[YA mask i per m,Nat.div_div_eq_div_mul,AW]
noncomputable def lcg (mask:Nat)(i:Nat):Nat->Nat
 | 0=>i
 | m+1=>(lcg mask i m*5+1)%(mask+1)
def oG (mask:Nat):Prop:=mask=7 \/ mask=31 \/ mask=127 \/ mask=511 \/ mask=2047 \/ mask=8191
noncomputable def gN (x:Nat):Nat->Nat
 | 0=>x
 | m+1=>gN x m*5+1
theorem OT (x a:Nat) : ∀ b,gN (gN x a) b=gN x (a+b)
 | 0=>rfl
 | b+1=>by
  show gN (gN x a) b*5+1=gN x (a+b)*5+1
  rw[OT x a b]
theorem YL (x:Nat) : ∀ m,4*gN x m+1=5 ^ m*(4*x+1)
 | 0=>by simp[gN]
 | m+1=>by
  show 4*(gN x m*5+1)+1=5 ^ (m+1)*(4*x+1)
  have:=YL x m
  rw[AW,Nat.mul_comm (5 ^ m) 5,FU,← this]
  omega
theorem RG : ∀ k,∃ q,5 ^ 2 ^ k=1+2 ^ k*(4*(2*q+1))
 | 0=>⟨0,rfl⟩
 | k+1=>by
  obtain⟨q,e⟩:=RG k
  refine⟨q+2 ^ k*((2*q+1)*(2*q+1)),?_⟩
  rw[AW 2 k,Nat.mul_comm (2 ^ k) 2,Nat.two_mul,Nat.pow_add,e]
  generalize 2 ^ k=M
  generalize hu:2*q+1=u
  have e2:2*(q+M*(u*u))+1=u+2*(M*(u*u)):=by omega
  rw[e2]
  have h1:M*(4*u)*(M*(4*u))=16*(M*(M*(u*u))):=by
   rw[show M*(4*u)=4*(M*u) by rw[Bl],MG]
   rw[show M*u*(M*u)=M*(M*(u*u)) by rw[MG,FU]]
  have h2:(M+M)*(4*(u+2*(M*(u*u))))=8*(M*u)+16*(M*(M*(u*u))):=by
   rw[← Nat.two_mul,FV 4,FV]
   rw[show 2*M*(4*u)=8*(M*u) by rw[MG]]
   rw[show 4*(2*(M*(u*u)))=8*(M*(u*u)) by omega,MG]
  rw[Nat.add_mul,FV,FV,h1,h2,show M*(4*u)=4*(M*u) by rw[Bl]]
  omega
theorem Kw (x k:Nat) : ∃ q,gN x (2 ^ k)=x+2 ^ k*(2*q+1):=by
 obtain⟨q,e⟩:=RG k
 have h:=YL x (2 ^ k)
 rw[e] at h
 refine⟨q*(4*x+1)+2*x,?_⟩
 have e2:2*(q*(4*x+1)+2*x)+1=(2*q+1)*(4*x+1):=by
  rw[Nat.add_mul,FV 2,← FU 2 q]
  omega
 rw[e2]
 generalize 2 ^ k=M at h
 generalize(2*q+1)=u at h
 rw[Nat.add_mul,Nat.one_mul,show M*(4*u)*(4*x+1)=4*(M*(u*(4*x+1))) by rw[Bl M 4 u,FU,FU]] at h
 omega
theorem YH : ∀ (k x e:Nat),∃ m,m<2 ^ k/\gN x m%2 ^ k=e%2 ^ k
 | 0,x,e=>⟨0,by simp,by simp[Nat.mod_one]⟩
 | k+1,x,e=>by
  obtain⟨m,hm,h⟩:=YH k x e
  have hM:=Nat.two_pow_pos k
  have sp : ∀ y:Nat,y%2 ^ (k+1)=y%2 ^ k+2 ^ k*(y / 2 ^ k%2):=fun y=>by rw[AW,Nat.mod_mul]
  have hp:2 ^ (k+1)=2 ^ k+2 ^ k:=by rw[AW]; omega
  by_cases c:gN x m / 2 ^ k%2=e / 2 ^ k%2
  ·exact⟨m,by omega,by rw[sp,sp,h,c]⟩
  ·obtain⟨q,hq⟩:=Kw (gN x m) k
   refine⟨m+2 ^ k,by omega,?_⟩
   rw[← OT,hq,sp,sp,Nat.add_mul_mod_self_left,Nat.add_mul_div_left _ _ hM,h]
   congr 2
   omega
theorem YQ (mask i:Nat)(hi:i≤mask) : ∀ m,lcg mask i m=gN i m%(mask+1)
 | 0=>by
  show i=i%(mask+1)
  exact(Nat.mod_eq_of_lt (by omega)).symm
 | m+1=>by
  show(lcg mask i m*5+1)%(mask+1)=(gN i m*5+1)%(mask+1)
  rw[YQ mask i hi m]
  simp[Nat.add_mod,Nat.mul_mod]
theorem vM {k mask:Nat}(hk:mask+1=2 ^ k){i e:Nat}(hi:i≤mask)(he:e≤mask) : ∃ m,m≤mask/\lcg mask i m=e:=by
 obtain⟨m,h1,h2⟩:=YH k i e
 refine⟨m,by omega,?_⟩
 rw[YQ mask i hi,hk,h2,← hk]
 exact Nat.mod_eq_of_lt (by omega)
theorem Kg {mask:Nat}(hm:oG mask){i e:Nat}(hi:i≤mask)(he:e≤mask) : ∃ m,m≤mask/\lcg mask i m=e:=by
 rcases hm with rfl | rfl | rfl | rfl | rfl | rfl
 ·exact vM (k:=3) rfl hi he
 ·exact vM (k:=5) rfl hi he
 ·exact vM (k:=7) rfl hi he
 ·exact vM (k:=9) rfl hi he
 ·exact vM (k:=11) rfl hi he
 ·exact vM (k:=13) rfl hi he
theorem Aa (h:Int):bits h<2 ^ 64:=by
 unfold bits
 have:=Int.emod_lt_of_pos h (show(0:Int)<2 ^ 64 by decide)
 have:=Int.emod_nonneg h (show(2 ^ 64:Int)≠0 by decide)
 omega
theorem XY {mask i per:Nat}(hp:per<2 ^ 64) : ∀ m,(lp mask (i,per) (13+m)).1=lcg mask (lp mask (i,per) 13).1 m
 | 0=>rfl
 | m+1=>by
  show((lp mask (i,per) (13+m)).1*5+1+(lp mask (i,per) (13+m)).2 / 32)%(mask+1)=(lcg mask (lp mask (i,per) 13).1 m*5+1)%(mask+1)
  rw[XY hp m,YA]
  have:per / 32 ^ (13+m)=0:=by
   apply Nat.div_eq_of_lt
   refine iQ hp ?_
   rw[Nat.pow_add]
   calc 2 ^ 64≤32 ^ 13:=by decide
    _≤32 ^ 13*32 ^ m:=Nat.le_mul_of_pos_right _ (Nat.pow_pos (by decide))
  rw[this]
theorem Es {mask i per:Nat} : ∀ m,0<m->(lp mask (i,per) m).1≤mask
 | 0,h=>absurd h (by omega)
 | m+1,_=>by
  show((lp mask (i,per) m).1*5+1+(lp mask (i,per) m).2 / 32)%(mask+1)≤mask
  have:=tX ((lp mask (i,per) m).1*5+1+(lp mask (i,per) m).2 / 32) (show 0<mask+1 by omega)
  omega
theorem RP {mask:Nat}(hm:oG mask){i per e:Nat}(hp:per<2 ^ 64)(he:e≤mask) : ∃ m,m≤13+mask/\(lp mask (i,per) m).1=e:=by
 obtain⟨m,h1,h2⟩:=Kg hm (Es 13 (by omega)) he
 exact⟨13+m,by omega,by rw[XY hp]; exact h2⟩
noncomputable def rd (mask:Nat)(h:Int)(n:Nat):Probe:=pN mask (blk mask (bits h%(mask+1)) (bits h)) n
theorem QJ {mask:Nat}(hm:oG mask)(h:Int){e:Nat}(he:e≤mask) : ∃ n,n<10*turns mask/\(rd mask h n).j=e:=by
 obtain⟨m,h1,h2⟩:=RP hm (Aa h) he
 obtain⟨n,h3,h4⟩:=SK mask (bits h%(mask+1)) (bits h) m
 refine⟨n,by unfold turns; omega,?_⟩
 unfold rd
 rw[h4]
 exact h2
theorem Wp (mask:Nat)(p:Probe):(adv mask p).dummy=p.dummy:=by
 unfold adv
 split <;> rfl
theorem RC (mask:Nat)(h:Int) : ∀ n,(rd mask h n).dummy=none
 | 0=>rfl
 | n+1=>by
  show(adv mask (rd mask h n)).dummy=none
  rw[Wp]
  exact RC mask h n
def jD (t:eB)(j:Nat):Prop:=∃ i:Nat,t.place[i]?=some j
structure Good (t:eB)(es:Array (Int×aE)):Prop where
 small:oG t.mask
 nod:t.dummies = #[]
 ris:mG t.place
 len:t.place.size=es.size
 inb : ∀ i j:Nat,t.place[i]?=some j->j≤t.mask
 room:es.size≤t.mask
 reach : ∀ (i j:Nat) (e:Int×aE),t.place[i]?=some j->es[i]?=some e -> ∃ n,(rd t.mask e.1 n).j=j /\ ∀ m<n,jD t (rd t.mask e.1 m).j
theorem rank {xs:Array Nat}(hr:mG xs) : ∀ e,(∀ v≤e,∃ i:Nat,xs[i]?=some v) -> ∃ i:Nat,xs[i]?=some e/\e≤i
 | 0,h=>by
  obtain⟨i,q⟩:=h 0 (bU _)
  exact⟨i,q,fA _⟩
 | e+1,h=>by
  obtain⟨i,q,hi⟩:=rank hr e fun v hv=>h v (by omega)
  obtain⟨k,qk⟩:=h (e+1) (bU _)
  refine⟨k,qk,?_⟩
  rcases FW i k with c | c | c
  ·omega
  ·subst c; rw[q] at qk; simp at qk
  ·have:=hr k i _ _ c qk q
   omega
theorem Good.empty {t:eB}{es:Array (Int×aE)}(G:Good t es) : ∃ e,e≤t.mask /\ ¬ jD t e:=by
 apply GH
 intro hn
 have hall : ∀ v≤t.mask,∃ i:Nat,t.place[i]?=some v:=fun v hv=>GH fun q=>hn ⟨v,hv,q⟩
 obtain⟨i,q,hi⟩:=rank G.ris t.mask hall
 have h1:=(uD.mp q).1
 have h2:=G.len
 have h3:=G.room
 omega
theorem SD {t:eB}{j:Nat}(h : ¬ jD t j) : ∀ i:Nat,t.place[i]?≠some j:=fun i e=>h ⟨i,e⟩
section
variable {t:eB}{hashAt:Nat->Int}{h:Int}
theorem RV (hd:t.dummies = #[])(hr:mG t.place) : ∀ k n fuel,k<fuel->(∀ m,n≤m->m<n+k -> ∃ i:Nat,t.place[i]?=some (rd t.mask h m).j/\hashAt i≠h) -> ¬ jD t (rd t.mask h (n+k)).j ->
  probe.go t hashAt h fuel (rd t.mask h n)=some (.empty (rd t.mask h (n+k)).j none)
 | _,_,0,hf,_,_=>absurd hf (by omega)
 | 0,n,fuel+1,_,_,he=>by
  rw[MJ] at he ⊢
  unfold probe.go
  rw[Oe hd hr (SD he),RC]
  rfl
 | k+1,n,fuel+1,hf,hm,he=>by
  obtain⟨i,e,hne⟩:=hm n (bU _) (by omega)
  unfold probe.go
  rw[(DD hd hr).mpr e]
  dsimp only
  rw[if_neg (by simpa using hne),JY]
  have:=RV hd hr k (n+1) fuel (by omega) (fun m a b=>hm m (by omega) (by omega)) (by rw[show n+1+k=n+(k+1) by omega]; exact he)
  rw[show n+1+k=n+(k+1) by omega] at this
  exact this
theorem Ag (hd:t.dummies = #[])(hr:mG t.place){i0:Nat}(h0:hashAt i0=h) : ∀ k n fuel,k<fuel->(∀ m,n≤m->m<n+k -> ∃ i:Nat,t.place[i]?=some (rd t.mask h m).j/\hashAt i≠h)->t.place[i0]?=some (rd t.mask h (n+k)).j ->
  probe.go t hashAt h fuel (rd t.mask h n)=some (.candidate (rd t.mask h (n+k)).j i0 (rd t.mask h (n+k+1)))
 | _,_,0,hf,_,_=>absurd hf (by omega)
 | 0,n,fuel+1,_,_,he=>by
  rw[MJ] at he ⊢
  unfold probe.go
  rw[(DD hd hr).mpr he]
  dsimp only
  rw[if_pos (by simpa using h0),JY]
  rfl
 | k+1,n,fuel+1,hf,hm,he=>by
  obtain⟨i,e,hne⟩:=hm n (bU _) (by omega)
  unfold probe.go
  rw[(DD hd hr).mpr e]
  dsimp only
  rw[if_neg (by simpa using hne),JY]
  have:=Ag hd hr h0 k (n+1) fuel (by omega) (fun m a b=>hm m (by omega) (by omega)) (by rw[show n+1+k=n+(k+1) by omega]; exact he)
  rw[show n+1+k=n+(k+1) by omega] at this
  exact this
theorem VX (S:Nat->Prop) : ∀ d n,S (n+d) -> ∃ k,k≤d/\(∀ m,n≤m->m<n+k -> ¬ S m)/\S (n+k)
 | 0,n,h=>⟨0,bU _,fun m a b=>absurd b (by omega),h⟩
 | d+1,n,h=>by
  by_cases c:S n
  ·exact⟨0,fA _,fun m a b=>absurd b (by omega),c⟩
  ·obtain⟨k,h1,h2,h3⟩:=VX S d (n+1) (by rw[show n+1+d=n+(d+1) by omega]; exact h)
   refine⟨k+1,by omega,fun m a b=>?_,by rw[show n+(k+1)=n+1+k by omega]; exact h3⟩
   by_cases q:m=n
   ·subst q; exact c
   ·exact h2 m (by omega) (by omega)
theorem Good.next {es:Array (Int×aE)}(G:Good t es)(h:Int){n:Nat}(hv : ∀ m<n,jD t (rd t.mask h m).j) : ∃ k,n+k<10*turns t.mask/\(∀ m,n≤m->m<n+k -> ∃ i:Nat,t.place[i]?=some (rd t.mask h m).j/\hashAt i≠h) /\
  ((¬ jD t (rd t.mask h (n+k)).j/\t.probe hashAt h (rd t.mask h n)=some (.empty (rd t.mask h (n+k)).j none)) \/
   ∃ i:Nat,t.place[i]?=some (rd t.mask h (n+k)).j/\hashAt i=h/\t.probe hashAt h (rd t.mask h n)=some (.candidate (rd t.mask h (n+k)).j i (rd t.mask h (n+k+1)))):=by
 obtain⟨e,he,hne⟩:=G.empty
 obtain⟨N,hN,eN⟩:=QJ G.small h he
 have hnN:n≤N:=by
  rcases pW N n with c | c
  ·exact absurd (eN ▸ hv N c) hne
  ·exact c
 obtain⟨d,rfl⟩:=Nat.exists_eq_add_of_le hnN
 obtain⟨k,hk,h1,h2⟩:=VX (fun m=>¬ jD t (rd t.mask h m).j \/ ∃ i:Nat,t.place[i]?=some (rd t.mask h m).j/\hashAt i=h) d n (.inl (by rw[eN]; exact hne))
 have hm : ∀ m,n≤m->m<n+k -> ∃ i:Nat,t.place[i]?=some (rd t.mask h m).j/\hashAt i≠h:=fun m a b=>by
  have q:=h1 m a b
  obtain⟨i,ei⟩:=GH fun z=>q (.inl z)
  exact⟨i,ei,fun z=>q (.inr ⟨i,ei,z⟩)⟩
 refine⟨k,by omega,hm,?_⟩
 rcases h2 with h2 | ⟨i,ei,hi⟩
 ·exact .inl ⟨h2,RV G.nod G.ris k n _ (by omega) hm h2⟩
 ·exact .inr ⟨i,ei,hi,Ag G.nod G.ris hi k n _ (by omega) hm ei⟩
end
theorem OL (mask:Nat)(h:Int) : ∀ n,(rd mask h n).j+(rd mask h n).more≤mask
 | 0=>by
  show bits h%(mask+1)+(runEnd mask (bits h%(mask+1)) - bits h%(mask+1))≤mask
  have:=tX (bits h) (show 0<mask+1 by omega)
  unfold runEnd
  split <;> omega
 | n+1=>by
  have ih:=OL mask h n
  show(adv mask (rd mask h n)).j+(adv mask (rd mask h n)).more≤mask
  unfold adv
  split
  ·show(rd mask h n).j+1+((rd mask h n).more - 1)≤mask
   omega
  ·show(leap mask (rd mask h n).i (rd mask h n).perturb).1+(runEnd mask (leap mask (rd mask h n).i (rd mask h n).perturb).1 - (leap mask (rd mask h n).i (rd mask h n).perturb).1)≤mask
   have:(leap mask (rd mask h n).i (rd mask h n).perturb).1<mask+1:=tX _ (by omega)
   unfold runEnd
   split <;> omega
theorem Eu (mask:Nat)(h:Int)(n:Nat):(rd mask h n).j≤mask:=by
 have:=OL mask h n
 omega
theorem vV {α:Type}(xs:Array α){p:Nat}(hp:p≤xs.size)(x:α)(k:Nat):(insertAt xs p x)[k]?=if k<p then xs[k]? else if k=p then some x else xs[k - 1]?:=by
 rw[← nA,toList_insertAt]
 by_cases c:k<p
 ·rw[if_pos c,rR (by rw[mW,gW]; omega),Bv c,nA]
 ·rw[if_neg c,xN (by rw[mW,gW]; omega),mW,gW,AY hp]
  by_cases d:k=p
  ·subst d; simp
  ·rw[if_neg d]
   obtain⟨r,rfl⟩ : ∃ r,k=p+1+r:=⟨k - p - 1,by omega⟩
   rw[show p+1+r - p=r+1 by omega,pX,List.getElem?_drop,nA,show p+1+r - 1=p+r by omega]
theorem Nb {xs:Array Nat}(hr:mG xs){j:Nat}(hj : ∀ i:Nat,xs[i]?≠some j):mG (insertAt xs (below xs j) j):=by
 obtain⟨h1,h2,h3⟩:=DX hr j
 intro a b u v hab ea eb
 rw[vV xs h1] at ea eb
 have lt_of : ∀ k w,below xs j≤k->xs[k]?=some w->j<w:=fun k w hk e=>by
  have a:=h3 k hk w e
  rcases pW j w with c | c
  ·exact c
  ·have:w=j:=by omega
   subst this
   exact absurd e (hj k)
 split at ea
 ·split at eb
  ·exact hr a b u v hab ea eb
  ·split at eb
   ·cases eb; exact h2 a (by omega) u ea
   ·exact MI (h2 a (by omega) u ea) (lt_of _ v (by omega) eb)
 ·split at ea
  ·cases ea
   rw[if_neg (by omega),if_neg (by omega)] at eb
   exact lt_of _ v (by omega) eb
  ·rw[if_neg (by omega),if_neg (by omega)] at eb
   exact hr (a - 1) (b - 1) u v (by omega) ea eb
theorem CZ {α:Type}(xs:Array α)(p:Nat)(x:α):(insertAt xs p x).size=xs.size+1:=by
 rw[← gW,(insertAt_perm xs p x).length_eq,gW,Array.size_push]
theorem Iz {t:eB}(hd:t.dummies = #[])(j:Nat):t.put j=({ t with place:=insertAt t.place (below t.place j) j },below t.place j):=by
 unfold put
 rw[hd,HX]
 cases t
 simp at hd
 subst hd
 rfl
theorem Good.put {t:eB}{es:Array (Int×aE)}(G:Good t es){h:Int}{x:aE}{n:Nat}(hv : ∀ m<n,jD t (rd t.mask h m).j)(hn : ¬ jD t (rd t.mask h n).j)  (hroom:es.size<t.mask)(pl:Bool) :
  Good { t with place:=insertAt t.place (below t.place (rd t.mask h n).j) (rd t.mask h n).j,plain:=pl } (insertAt es (below t.place (rd t.mask h n).j) (h,x)):=by
 have hb:=(DX G.ris (rd t.mask h n).j).1
 have hbe:below t.place (rd t.mask h n).j≤es.size:=by rw[← G.len]; exact hb
 have mono : ∀ j,jD t j -> ∃ i:Nat,(insertAt t.place (below t.place (rd t.mask h n).j) (rd t.mask h n).j)[i]?=some j:=fun j gh=>by
  obtain⟨i,e⟩:=gh
  by_cases c:i<below t.place (rd t.mask h n).j
  ·exact⟨i,by rw[vV _ hb,if_pos c]; exact e⟩
  ·exact⟨i+1,by rw[vV _ hb,if_neg (by omega),if_neg (by omega)]; exact e⟩
 refine⟨G.small,G.nod,Nb G.ris (SD hn),?_,fun i j e=>?_,?_,fun i j e ei ee=>?_⟩
 ·rw[CZ,CZ,G.len]
 ·have e':=e
  rw[vV _ hb] at e'
  split at e'
  ·exact G.inb i j e'
  ·split at e'
   ·cases e'; exact Eu _ _ _
   ·exact G.inb _ j e'
 ·rw[CZ]; exact hroom
 ·have ei':=ei
  rw[vV _ hb] at ei'
  rw[vV _ hbe] at ee
  by_cases c:i<below t.place (rd t.mask h n).j
  ·rw[if_pos c] at ei' ee
   obtain⟨m,h1,h2⟩:=G.reach i j e ei' ee
   exact⟨m,h1,fun q hq=>mono _ (h2 q hq)⟩
  ·rw[if_neg c] at ei' ee
   by_cases d:i=below t.place (rd t.mask h n).j
   ·rw[if_pos d] at ei' ee
    cases ei'; cases ee
    exact⟨n,rfl,fun q hq=>mono _ (hv q hq)⟩
   ·rw[if_neg d] at ei' ee
    obtain⟨m,h1,h2⟩:=G.reach _ j e ei' ee
    exact⟨m,h1,fun q hq=>mono _ (h2 q hq)⟩
structure Own (mask:Nat)(hs:List Int)(ow:Array (Option Nat)):Prop where
 size:ow.size=mask+1
 lt : ∀ j i:Nat,ow[j]?=some (some i)->i<hs.length
 inj : ∀ j j' i:Nat,ow[j]?=some (some i)->ow[j']?=some (some i)->j=j'
 all : ∀ i<hs.length,∃ j:Nat,ow[j]?=some (some i)
 reach : ∀ (j i:Nat) (h:Int),ow[j]?=some (some i)->hs[i]?=some h -> ∃ n,(rd mask h n).j=j /\ ∀ m<n,∃ i':Nat,ow[(rd mask h m).j]?=some (some i')
theorem yN {ow:Array (Option Nat)}{j:Nat}(hj:j<ow.size):ow[j]?=some none \/ ∃ i,ow[j]?=some (some i):=by
 rw[kJ hj]
 cases ow[j] with
 | none=>exact .inl rfl
 | some i=>exact .inr ⟨i,rfl⟩
theorem Own.free {mask:Nat}{hs:List Int}{ow:Array (Option Nat)}(O:Own mask hs ow)(hl:hs.length≤mask) : ∃ e,e≤mask/\ow[e]?=some none:=by
 apply GH
 intro hn
 have hall : ∀ j≤mask,∃ i:Nat,ow[j]?=some (some i):=fun j hj=>by
  rcases yN (ow:=ow) (j:=j) (by rw[O.size]; omega) with c | c
  ·exact absurd ⟨j,hj,c⟩ hn
  ·exact c
 have hnd:((cR (mask+1)).map fun j=>((ow[j]?).join).getD 0).Nodup:=by
  unfold List.Nodup
  rw[xH]
  refine MQ ?_ List.pairwise_lt_range
  intro a b ha hb hab e
  obtain⟨i,ei⟩:=hall a (by have:=iG.mp ha; omega)
  obtain⟨i',ei'⟩:=hall b (by have:=iG.mp hb; omega)
  rw[ei,ei'] at e
  have:i=i':=by simpa using e
  subst this
  have:=O.inj a b i ei ei'
  omega
 have:=MR hnd (fun v m=>by
  obtain⟨j,hj,rfl⟩:=bP.mp m
  obtain⟨i,ei⟩:=hall j (by have:=iG.mp hj; omega)
  rw[ei]
  exact iG.mpr (O.lt j i ei))
 simp at this
 omega
theorem RO (mask i per:Nat) : ∀ m,lp mask (i,per) (m+1)=lp mask (leap mask i per) m
 | 0=>rfl
 | m+1=>by
  show leap mask (lp mask (i,per) (m+1)).1 (lp mask (i,per) (m+1)).2=_
  rw[RO mask i per m]
  rfl
theorem VC {mask:Nat}{ow:Array (Option Nat)}(hz:ow.size=mask+1) : ∀ (fuel i per m:Nat),i≤mask->m<fuel->ow[(lp mask (i,per) m).1]?=some none ->
  ∃ n,layClean.free mask ow fuel i per=some (pN mask (blk mask i per) n).j/\ow[(pN mask (blk mask i per) n).j]?=some none /\ ∀ q<n,∃ i':Nat,ow[(pN mask (blk mask i per) q).j]?=some (some i')
 | 0,_,_,_,_,h,_=>absurd h (by omega)
 | fuel+1,i,per,m,hi,hm,he=>by
  have hrun:runEnd mask i≤mask/\i≤runEnd mask i:=by unfold runEnd; split <;> omega
  have hat : ∀ k,k≤runEnd mask i - i->(pN mask (blk mask i per) k).j=i+k:=fun k hk=>by rw[HU mask i per k hk]
  have hg : ∀ k,k≤runEnd mask i - i->((ow.getD (i+k) (some 0)).isNone=true↔ow[i+k]?=some none):=fun k hk=>by
   rw[ND]
   rcases yN (ow:=ow) (j:=i+k) (by omega) with c | ⟨x,c⟩ <;> rw[c] <;> simp
  unfold layClean.free
  cases ef:(cR (runEnd mask i+1 - i)).find? fun k=>(ow.getD (i+k) (some 0)).isNone with
  | some k=>
   obtain⟨h1,h2,h3⟩:=List.find?_range_eq_some.mp ef
   have hk:k≤runEnd mask i - i:=by have:=iG.mp h2; omega
   refine⟨k,by rw[hat k hk],by rw[hat k hk]; exact(hg k hk).mp h1,fun q hq=>?_⟩
   rw[hat q (by omega)]
   rcases yN (ow:=ow) (j:=i+q) (by omega) with c | c
   ·have:=h3 q hq
    rw[(hg q (by omega)).mpr c] at this
    exact absurd this (by decide)
   ·exact c
  | none=>
   have h3:=List.find?_range_eq_none.mp ef
   have hall : ∀ k,k≤runEnd mask i - i -> ∃ i':Nat,ow[i+k]?=some (some i'):=fun k hk=>by
    rcases yN (ow:=ow) (j:=i+k) (by omega) with c | c
    ·have:=h3 k (by omega)
     rw[(hg k hk).mpr c] at this
     exact absurd this (by decide)
    ·exact c
   cases m with
   | zero=>
    obtain⟨i',e'⟩:=hall 0 (by omega)
    have he':ow[i]?=some none:=he
    rw[MJ,he'] at e'
    cases e'
   | succ m=>
    rw[RO] at he
    have hle:(leap mask i per).1≤mask:=by
     have:(leap mask i per).1<mask+1:=tX _ (by omega)
     omega
    obtain⟨n,e1,e2,e3⟩:=VC hz fuel (leap mask i per).1 (leap mask i per).2 m hle (by omega) he
    have hp : ∀ q,pN mask (blk mask i per) (runEnd mask i - i+1+q)=pN mask (blk mask (leap mask i per).1 (leap mask i per).2) q:=fun q=>by
     rw[← LH,SR]
    refine⟨runEnd mask i - i+1+n,?_,by rw[hp]; exact e2,fun q hq=>?_⟩
    ·rw[hp]; exact e1
    ·by_cases c:q≤runEnd mask i - i
     ·rw[hat q c]; exact hall q c
     ·obtain⟨r,rfl⟩ : ∃ r,q=runEnd mask i - i+1+r:=⟨q - (runEnd mask i - i+1),by omega⟩
      rw[hp]
      exact e3 r (by omega)
theorem Own.add {mask:Nat}(hm:oG mask){hs:List Int}{ow:Array (Option Nat)}(O:Own mask hs ow)(hl:hs.length≤mask)(h:Int) :
  ∃ j,layClean.free mask ow (turns mask) (bits h%(mask+1)) (bits h)=some j/\Own mask (hs++[h]) (ow.setIfInBounds j (some hs.length)):=by
 obtain⟨e,he,hne⟩:=O.free hl
 obtain⟨m,h1,h2⟩:=RP hm (Aa h) he
 have hi:bits h%(mask+1)≤mask:=by
  have:=tX (bits h) (show 0<mask+1 by omega)
  omega
 obtain⟨n,e1,e2,e3⟩:=VC O.size (turns mask) (bits h%(mask+1)) (bits h) m hi (by unfold turns; omega) (by rw[h2]; exact hne)
 have e2':ow[(rd mask h n).j]?=some none:=e2
 have hjs:(rd mask h n).j<ow.size:=(uD.mp e2').1
 have get : ∀ k:Nat,(ow.setIfInBounds (rd mask h n).j (some hs.length))[k]?=if (rd mask h n).j=k then some (some hs.length) else ow[k]?:=fun k=>by
  rw[Array.getElem?_setIfInBounds]
  by_cases c:(rd mask h n).j=k
  ·subst c
   simp[hjs]
  ·rw[if_neg c,if_neg c]
 have mono : ∀ k i:Nat,ow[k]?=some (some i)->(ow.setIfInBounds (rd mask h n).j (some hs.length))[k]?=some (some i):=fun k i q=>by
  rw[get,if_neg (by rintro rfl; rw[e2'] at q; cases q)]
  exact q
 refine⟨_,e1,by simpa using O.size,fun j i q=>?_,fun j j' i q q'=>?_,fun i hi=>?_,fun j i x q qx=>?_⟩
 ·have q:(ow.setIfInBounds (rd mask h n).j (some hs.length))[j]?=some (some i):=q
  rw[get] at q
  rw[fL,xJ]
  split at q
  ·cases q; omega
  ·have:=O.lt j i q; omega
 ·have q:(ow.setIfInBounds (rd mask h n).j (some hs.length))[j]?=some (some i):=q
  have q':(ow.setIfInBounds (rd mask h n).j (some hs.length))[j']?=some (some i):=q'
  rw[get] at q q'
  split at q
  ·split at q'
   ·omega
   ·cases q
    have:=O.lt j' _ q'
    omega
  ·split at q'
   ·cases q'
    have:=O.lt j _ q
    omega
   ·exact O.inj j j' i q q'
 ·rw[fL,xJ] at hi
  by_cases c:i=hs.length
  ·exact⟨(rd mask h n).j,by show(ow.setIfInBounds (rd mask h n).j (some hs.length))[(rd mask h n).j]?=_; rw[get,if_pos rfl,c]⟩
  ·obtain⟨j,q⟩:=O.all i (by omega)
   exact⟨j,mono j i q⟩
 ·have q:(ow.setIfInBounds (rd mask h n).j (some hs.length))[j]?=some (some i):=q
  rw[get] at q
  split at q
  ·rename_i hj
   cases q
   rw[xN (bU _)] at qx
   have:h=x:=by simpa using qx
   subst this
   refine⟨n,hj,fun q hq=>?_⟩
   obtain⟨i',w⟩:=e3 q hq
   exact⟨i',mono _ i' w⟩
  ·have hlt:=O.lt j i q
   rw[rR hlt] at qx
   obtain⟨n',a,b⟩:=O.reach j i x q qx
   refine⟨n',a,fun r hr=>?_⟩
   obtain⟨i',w⟩:=b r hr
   exact⟨i',mono _ i' w⟩
theorem OY {mask:Nat}(hm:oG mask) : ∀ (rest hs:List Int) (ow:Array (Option Nat)),Own mask hs ow->hs.length+rest.length≤mask+1 ->
  ∃ ow',rest.foldl (fun acc h=>do
   let (owner,k) ← acc
   let j ← layClean.free mask owner (turns mask) (bits h%(mask+1)) (bits h)
   pure (owner.setIfInBounds j (some k),k+1)) (some (ow,hs.length))=some (ow',(hs++rest).length)/\Own mask (hs++rest) ow'
 | [],hs,ow,O,_=>⟨ow,by simp,by simpa using O⟩
 | h::r,hs,ow,O,hl=>by
  rw[fI] at hl
  obtain⟨j,e,O'⟩:=O.add hm (by omega) h
  obtain⟨ow',e2,O2⟩:=OY hm r (hs++[h]) _ O' (by rw[fL,xJ]; omega)
  refine⟨ow',?_,by simpa using O2⟩
  rw[mX]
  have:(do
   let (owner,k) ← some (ow,hs.length)
   let j ← layClean.free mask owner (turns mask) (bits h%(mask+1)) (bits h)
   pure (owner.setIfInBounds j (some k),k+1))=some (ow.setIfInBounds j (some hs.length),(hs++[h]).length):=by
   show((layClean.free mask ow (turns mask) (bits h%(mask+1)) (bits h)).bind fun j=>some (ow.setIfInBounds j (some hs.length),hs.length+1))=_
   rw[e]
   simp
  rw[this,e2]
  simp
theorem Jt (mask:Nat):Own mask [] (Array.replicate (mask+1) none):=by
 have hn : ∀ j i:Nat,(Array.replicate (mask+1) (none:Option Nat))[j]?≠some (some i):=fun j i q=>by
  rw[Array.getElem?_replicate] at q
  split at q <;> cases q
 exact⟨by simp,fun j i q=>absurd q (hn j i),fun j _ i q=>absurd q (hn j i),fun i hi=>absurd hi (by simp),fun j i _ q=>absurd q (hn j i)⟩
theorem Yn {mask:Nat}(hm:oG mask)(hs:Array Int)(hl:hs.size≤mask+1) : ∃ ow,layClean mask hs=some ow/\Own mask hs.toList ow:=by
 obtain⟨ow,e,O⟩:=OY hm hs.toList [] _ (Jt mask) (by simpa using hl)
 refine⟨ow,?_,by simpa using O⟩
 unfold layClean
 rw[← Array.foldl_toList]
 have e':=congrArg (Option.map (·.1)) e
 exact e'
theorem LC {α β:Type}{f:α->Option β} : ∀ (l:List α),(∀ k∈l,(f k).isSome=true) -> ∀ i:Nat,(l.filterMap f)[i]?=(l[i]?).bind f
 | [],_,i=>by simp
 | a::r,h,i=>by
  obtain⟨b,e⟩:=Bk.mp (h a bQ)
  rw[List.filterMap_cons_some e]
  cases i with
  | zero=>simp[e]
  | succ i=>
   rw[pX,pX]
   exact LC r (fun k m=>h k (cA _ m)) i
noncomputable def iK (mask:Nat)(ow:Array (Option Nat)):List (Nat×Nat):=(cR (mask+1)).filterMap fun j=>(ow.getD j none).map (j,·)
theorem nE {mask:Nat}{ow:Array (Option Nat)}(hz:ow.size=mask+1){j i:Nat}:(j,i)∈iK mask ow↔ow[j]?=some (some i):=by
 unfold iK
 rw[xI]
 constructor
 ·rintro⟨j',hj,e⟩
  obtain⟨i',e1,e2⟩:=lG.mp e
  have e3:=congrArg Prod.fst e2
  have e4:=congrArg Prod.snd e2
  subst e3
  subst e4
  have hlt:j'<ow.size:=by have:=iG.mp hj; omega
  rw[ND] at e1
  rcases yN hlt with c | ⟨x,c⟩
  ·rw[c] at e1; cases e1
  ·rw[c] at e1; cases e1; exact c
 ·intro e
  have hlt:=(uD.mp e).1
  exact⟨j,iG.mpr (by omega),by rw[ND,e]; rfl⟩
theorem JL (mask:Nat)(ow:Array (Option Nat)):(iK mask ow).Pairwise (fun a b=>a.1<b.1):=by
 unfold iK
 rw[List.pairwise_filterMap]
 refine List.Pairwise.imp ?_ List.pairwise_lt_range
 intro a b hab x hx y hy
 obtain⟨_,_,rfl⟩:=lG.mp hx
 obtain⟨_,_,rfl⟩:=lG.mp hy
 exact hab
theorem Xj {mask:Nat}(hm:oG mask)(es:Array (Int×aE))(hl:es.size≤mask)(fg mv:Nat)(led pl:Bool) :
  ∃ t' order,laid mask fg mv led pl (es.map (·.1))=some (t',order)/\Good t' (order.filterMap (es[·]?))/\(order.filterMap (es[·]?)).toList.Perm es.toList/\t'.mask=mask/\t'.led=led/\t'.plain=pl/\t'.dummies = #[]:=by
 obtain⟨ow,e,O⟩:=Yn hm (es.map (·.1)) (by rw[Array.size_map]; omega)
 have hz:=O.size
 have hlen:(es.map (·.1)).toList.length=es.size:=by simp
 refine⟨{ mask,place:=((iK mask ow).map (·.1)).toArray,dummies:=#[],finger:=fg,led,moves:=mv,plain:=pl },((iK mask ow).map (·.2)).toArray,?_,?_,?_,rfl,rfl,rfl,rfl⟩
 ·unfold laid
  rw[e]
  rfl
 ·have hsome : ∀ k∈(iK mask ow).map (·.2),(es[k]?).isSome=true:=fun k m=>by
   obtain⟨⟨j,i⟩,mm,rfl⟩:=bP.mp m
   have:=O.lt j i ((nE hz).mp mm)
   rw[hlen] at this
   rw[kJ this]
   rfl
  have hget : ∀ i:Nat,((((iK mask ow).map (·.2)).toArray).filterMap (es[·]?))[i]?=(((iK mask ow)[i]?).bind fun p=>es[p.2]?):=fun i=>by
   rw[← nA,NB,LC _ hsome,fM]
   cases(iK mask ow)[i]? <;> rfl
  have hpl : ∀ i:Nat,(((iK mask ow).map (·.1)).toArray)[i]?=((iK mask ow)[i]?).map (·.1):=fun i=>by simp
  refine⟨hm,rfl,?_,?_,?_,?_,?_⟩
  ·intro a b u v hab ea eb
   have ea:=ea
   have eb:=eb
   rw[hpl] at ea eb
   obtain⟨x,hx,rfl⟩:=lG.mp ea
   obtain⟨y,hy,rfl⟩:=lG.mp eb
   obtain⟨ha,rfl⟩:=fN.mp hx
   obtain⟨hb,rfl⟩:=fN.mp hy
   exact Zt.mp (JL mask ow) a b ha hb hab
  ·have:(List.filterMap (es[·]?) ((iK mask ow).map (·.2))).length=((iK mask ow).map (·.2)).length:=by
    rw[List.length_filterMap_eq_countP,List.countP_eq_length]
    exact hsome
   rw[← gW (xs:=Array.filterMap _ _),NB,this]
   simp
  ·intro i j q
   have q:=q
   rw[hpl] at q
   obtain⟨⟨j',i'⟩,hx,rfl⟩:=lG.mp q
   have:=(nE hz).mp (iH hx)
   have:=(uD.mp this).1
   show j'≤mask
   omega
  ·have hnd:((iK mask ow).map (·.2)).Nodup:=by
    unfold List.Nodup
    rw[xH]
    refine MQ ?_ (JL mask ow)
    rintro⟨a,i⟩ ⟨b,i'⟩ ma mb hab e'
    have e':=e'
    subst e'
    have:=O.inj a b i ((nE hz).mp ma) ((nE hz).mp mb)
    have hab:=hab
    omega
   have:=MR hnd (fun v m=>by
    obtain⟨⟨j,i⟩,mm,rfl⟩:=bP.mp m
    have:=O.lt j i ((nE hz).mp mm)
    rw[hlen] at this
    exact iG.mpr this)
   have h2:((((iK mask ow).map (·.2)).toArray).filterMap (es[·]?)).size≤((iK mask ow).map (·.2)).length:=by
    rw[← gW,NB]
    exact Zu _ _
   rw[List.length_range] at this
   show _≤mask
   omega
  ·intro i j x q qx
   have q:=q
   rw[hpl] at q
   obtain⟨⟨j',k⟩,hx,rfl⟩:=lG.mp q
   rw[hget,hx,cH] at qx
   have hw:=(nE hz).mp (iH hx)
   have hk:(es.map (·.1)).toList[k]?=some x.1:=by
    have qx:=qx
    rw[nA,Array.getElem?_map,qx]
    rfl
   obtain⟨n,a,b⟩:=O.reach j' k x.1 hw hk
   refine⟨n,a,fun m hm'=>?_⟩
   obtain⟨i',w⟩:=b m hm'
   obtain⟨r,hr,er⟩:=Bu.mp ((nE hz).mpr w)
   refine⟨r,?_⟩
   rw[hpl,gV hr,er]
   rfl
 ·rw[NB]
  have hnd:((iK mask ow).map (·.2)).Nodup:=by
   unfold List.Nodup
   rw[xH]
   refine MQ ?_ (JL mask ow)
   rintro⟨a,i⟩ ⟨b,i'⟩ ma mb hab e'
   have e':=e'
   subst e'
   have:=O.inj a b i ((nE hz).mp ma) ((nE hz).mp mb)
   have hab:=hab
   omega
  have hp:((iK mask ow).map (·.2)).Perm (cR es.size):=by
   rw[List.perm_ext_iff_of_nodup hnd Br]
   intro v
   constructor
   ·intro m
    obtain⟨⟨j,i⟩,mm,rfl⟩:=bP.mp m
    have:=O.lt j i ((nE hz).mp mm)
    rw[hlen] at this
    exact iG.mpr this
   ·intro m
    obtain⟨j,q⟩:=O.all v (by rw[hlen]; exact iG.mp m)
    exact bP.mpr ⟨(j,v),(nE hz).mpr q,rfl⟩
  exact(hp.filterMap _).trans (by rw[filterMap_getElem?_range])
structure Fine (t:eB)(es:Array (Int×aE)):Prop where
 good:Good t es
 few:es.size*5<t.mask*3/\es.size≤4914
theorem Fine.fits {t:eB}{es:Array (Int×aE)}(F:Fine t es):t.fits es.size=true:=by
 have h1:=F.good.len
 have h2:=F.good.nod
 have h3:=F.good.room
 simp[SetTable.fits,MA,h1,h2,h3]
theorem Fine.odd {t:eB}{es:Array (Int×aE)}(F:Fine t es):t.gaveWay=false:=by
 rcases F.good.small with e | e | e | e | e | e <;> simp[SetTable.gaveWay,e]
theorem Pt (led:Bool):Fine (FN 0 0 led) #[]:=
 ⟨⟨.inl rfl,rfl,fun a b u v _ h=>by simp[FN] at h,rfl,fun i j h=>by simp[FN] at h,by simp,fun i j e h=>by simp[FN] at h⟩,by simp[FN]⟩
theorem Yg {t:eB}(hs:oG t.mask){n:Nat}(h1:(n - 1)*5<t.mask*3)(h0:0<n)(hf:t.mask*3≤n*5)(hn:n≤4914) : ∃ M,oG M/\n*5<M*3/\SetTable.sizeAbove (SetTable.grown n)=M+1:=by
 rcases hs with e | e | e | e | e | e <;> rw[e] at h1 hf
 ·have h5:n=5:=by omega
  exact⟨31,.inr (.inl rfl),by omega,by rw[h5]; decide⟩
 ·have h5:n=19:=by omega
  exact⟨127,.inr (.inr (.inl rfl)),by omega,by rw[h5]; decide⟩
 ·have h5:n=77:=by omega
  exact⟨511,.inr (.inr (.inr (.inl rfl))),by omega,by rw[h5]; decide⟩
 ·have h5:n=307:=by omega
  exact⟨2047,.inr (.inr (.inr (.inr (.inl rfl)))),by omega,by rw[h5]; decide⟩
 ·have h5:n=1229:=by omega
  exact⟨8191,.inr (.inr (.inr (.inr (.inr rfl)))),by omega,by rw[h5]; decide⟩
 ·omega
open PySem PySem.Spec PyProof.Rows PySem.SetTable
noncomputable def fF (w:bB):Bool:=w.params.followText "set-order"
noncomputable abbrev Akc (led:Bool):aY:={ cls:=.type "set",dict:=none,data:=.set #[] 0 (.fresh 0 0 led) }
theorem Si {prog:bS}{w:bB}{A:cE}{E:aE->aG->Prop}{s:aG}(v:aE){Q₁:aE->aG->Prop}(h:Q₁ (.ref s.heap.objs.size) { s with heap:=s.heap.push (Akc (!fF w)) }) :
  mD (aR prog w) A (.call (.builtin "set.__new__") ⟨[.type "set",v],[]⟩) (wants Q₁ E) s:=by
 refine codeAny_of_tree (show aN _ A.in1 (do checkBuiltinCall "set.__new__" ⟨[.type "set",v],[]⟩; again (.builtin "set.__new__" ⟨[.type "set",v],[]⟩)) _ _ s from ?_)
 refine aI (LV (F.newCall_set_1 v) (aT ⟨tO F.plain_set_new _,oQ F.entry_set_new ?_⟩))
 rw[rY F.plain_set_new _]
 unfold Builtin.«set.__new__» Builtin.Frozenset.newClass
 have sub1:=sub_set_self
 obtain⟨hp,g,d,tk,os⟩:=s
 dsimp only
 wp_walk
 refine AK (aT ?_)
 dsimp only
 simp only[newObj]
 exact aI (wpAny_alloc (aT (aT h)))
structure WSet (w:bB)(h:aU)(a:aD)(o:aY)(es:Array (Int×aE))(ep:Nat)(t:eB):Prop where
 get:h.get? a=some o
 exact:o.ExactSet
 data:o.data = .set es ep t
 fine:Fine t es
 led:t.led = !fF w
section
variable {prog:bS}{w:bB}
mutual
theorem JM : ∀ (d:aA) (n:Nat) {A:cE} {E:aE->aG->Prop} {s:aG} {v:aE} {as:List aD} {Q:Bool->aG->Prop},d.depth≤n->bF d=true->mE s.heap v d as ->
  Q false s->aN (aR prog w) A (FI n v) Q E s
 | .int i,n,A,E,s,v,as,Q,hu,hk,r,h=>by
  cases r with
  | int _ t=>
   unfold FI
   exact aT h
 | .str x,n,A,E,s,v,as,Q,hu,hk,r,h=>by
  cases r with
  | str _ t=>
   unfold FI
   exact aT h
 | .tuple ks,n,A,E,s,v,as,Q,hu,hk,r,h=>by
  obtain⟨a,o,items,m,rfl,ho,hc,hd,hi⟩:=qY r
  have hT:s.TypeIs (.ref a) "tuple":=⟨o,ho,hc⟩
  have hdep:dJ ks+1≤n:=by simpa [gA] using hu
  obtain⟨n,rfl⟩ : ∃ m,n=m+1:=⟨n - 1,by omega⟩
  have hk':cG ks=true:=by simpa [bF] using hk
  unfold FI
  refine aI (tM hT ?_)
  dsimp only
  rw[if_pos (by decide)]
  refine aI (aT ?_)
  simp only[BK,iV,if_false]
  refine aI (AG ho hd ?_)
  dsimp only
  refine aI ?_
  rw[← NF]
  refine FF _ (fun rest r s'=>r.1=none/\s'=s /\ ∃ ds bs,nP s.heap rest ds bs /\ ∀ d∈ds,d∈ks) _ ?_ ?_ _ _ ⟨rfl,rfl,ks,as,hi,fun _ h=>h⟩
  ·rintro v rest r s' ⟨hr,rfl,ds,bs,hl,hall⟩
   cases hl with
   | @cons _ _ d ds as1 bs1 h1 hl'=>
    refine aI (WC ks (hall d bQ) n (by omega) hk' h1 ?_)
    simp only[iV,if_false]
    exact aT ⟨rfl,rfl,ds,bs1,hl',fun u hu'=>hall u (cA _ hu')⟩
  ·rintro⟨r1,r2⟩ s' ⟨hr,rfl,_⟩
   simp only at hr
   subst hr
   exact aT h
 | .none,n,A,E,s,v,as,Q,hu,hk,r,h=>by simp[bF] at hk
 | .bool _,n,A,E,s,v,as,Q,hu,hk,r,h=>by simp[bF] at hk
 | .list _,n,A,E,s,v,as,Q,hu,hk,r,h=>by simp[bF] at hk
 | .dict _,n,A,E,s,v,as,Q,hu,hk,r,h=>by simp[bF] at hk
theorem WC : ∀ (ks:List aA) {d:aA},d∈ks -> ∀ (n:Nat) {A:cE} {E:aE->aG->Prop} {s:aG} {v:aE} {as:List aD} {Q:Bool->aG->Prop},dJ ks≤n->cG ks=true->mE s.heap v d as ->
  Q false s->aN (aR prog w) A (FI n v) Q E s
 | [],_,hm,_,_,_,_,_,_,_,_,_,_,_=>by simp at hm
 | k::ks,d,hm,n,A,E,s,v,as,Q,hu,hk,r,h=>by
  have hk':bF k=true/\cG ks=true:=by simpa [cG] using hk
  have hdep:max k.depth (dJ ks)≤n:=by simpa [dJ] using hu
  by_cases e:d=k
  ·exact JM k n (by omega) hk'.1 (e ▸ r) h
  ·have hm':d∈ks:=by
    rcases cN.mp hm with q | q
    ·exact absurd q e
    ·exact q
   exact WC ks hm' n (by omega) hk'.2 r h
end
mutual
theorem UT : ∀ (d:aA) (n:Nat) {A:cE} {E:aE->aG->Prop} {s:aG} {v:aE} {as:List aD} {Q:Bool->aG->Prop},d.depth≤n->bF d=true->mE s.heap v d as ->
  (∀ b,Q b s)->aN (aR prog w) A (FK n v) Q E s
 | .int i,n,A,E,s,v,as,Q,hu,hk,r,h=>by
  cases r with
  | int _ t=>
   cases n <;> (unfold FK; exact aT (h _))
 | .str x,n,A,E,s,v,as,Q,hu,hk,r,h=>by
  cases r with
  | str _ t=>
   cases n <;> (unfold FK; exact aT (h _))
 | .tuple ks,n,A,E,s,v,as,Q,hu,hk,r,h=>by
  obtain⟨a,o,items,m,rfl,ho,hc,hd,hi⟩:=qY r
  have hT:s.TypeIs (.ref a) "tuple":=⟨o,ho,hc⟩
  have hdep:dJ ks+1≤n:=by simpa [gA] using hu
  obtain⟨n,rfl⟩ : ∃ m,n=m+1:=⟨n - 1,by omega⟩
  have hk':cG ks=true:=by simpa [bF] using hk
  unfold FK
  refine aI (wU hT GE.lookup ?_)
  refine aI (AG ho hd ?_)
  refine aI ?_
  rw[← NF]
  refine FF _ (fun rest r s'=>s'=s /\ ∃ ds bs,nP s.heap rest ds bs /\ ∀ d∈ds,d∈ks) _ ?_ ?_ _ _ ⟨rfl,ks,as,hi,fun _ h=>h⟩
  ·rintro v rest r s' ⟨rfl,ds,bs,hl,hall⟩
   cases hl with
   | @cons _ _ d ds as1 bs1 h1 hl'=>
    refine aI (VU ks (hall d bQ) n (by omega) hk' h1 fun b=>?_)
    cases b
    ·simp only[Bool.not_false,if_true]
     exact aT (aT (h _))
    ·simp only[BK,iV,if_false]
     exact aT ⟨rfl,ds,bs1,hl',fun u hu'=>hall u (cA _ hu')⟩
  ·rintro⟨r1,r2⟩ s' ⟨rfl,_⟩
   cases r1 with
   | none=>exact aT (h _)
   | some b=>exact aT (h _)
 | .none,n,A,E,s,v,as,Q,hu,hk,r,h=>by simp[bF] at hk
 | .bool _,n,A,E,s,v,as,Q,hu,hk,r,h=>by simp[bF] at hk
 | .list _,n,A,E,s,v,as,Q,hu,hk,r,h=>by simp[bF] at hk
 | .dict _,n,A,E,s,v,as,Q,hu,hk,r,h=>by simp[bF] at hk
theorem VU : ∀ (ks:List aA) {d:aA},d∈ks -> ∀ (n:Nat) {A:cE} {E:aE->aG->Prop} {s:aG} {v:aE} {as:List aD} {Q:Bool->aG->Prop},dJ ks≤n->cG ks=true->mE s.heap v d as ->
  (∀ b,Q b s)->aN (aR prog w) A (FK n v) Q E s
 | [],_,hm,_,_,_,_,_,_,_,_,_,_,_=>by simp at hm
 | k::ks,d,hm,n,A,E,s,v,as,Q,hu,hk,r,h=>by
  have hk':bF k=true/\cG ks=true:=by simpa [cG] using hk
  have hdep:max k.depth (dJ ks)≤n:=by simpa [dJ] using hu
  by_cases e:d=k
  ·exact UT k n (by omega) hk'.1 (e ▸ r) h
  ·have hm':d∈ks:=by
    rcases cN.mp hm with q | q
    ·exact absurd q e
    ·exact q
   exact VU ks hm' n (by omega) hk'.2 r h
end
theorem Mo {A:cE}{E:aE->aG->Prop}{s:aG}{k:List aA}{b:aD}{ys:List aE}{Q:Bool->aG->Prop}(hk:Adx s.heap k b)(hy : ∀ y∈ys,∃ k' b',y = .ref b'/\Adx s.heap k' b')(h:Q false s) :
  aN (aR prog w) A (searchCouldBeSeen (.ref b) ys) Q E s:=by
 unfold searchCouldBeSeen
 refine aI ?_
 refine FF _ (fun rest r s'=>r.1=none/\s'=s /\ ∀ y∈rest,∃ k' b',y = .ref b'/\Adx s.heap k' b') _ ?_ ?_ _ _ ⟨rfl,rfl,hy⟩
 ·rintro v rest r s' ⟨hr,rfl,hall⟩
  obtain⟨k',b',rfl,hk'⟩:=hall v bQ
  have hrest : ∀ y∈rest,∃ k' b',y = .ref b'/\Adx s'.heap k' b':=fun y m=>hall y (cA _ m)
  dsimp only
  split
  ·exact aT ⟨rfl,rfl,hrest⟩
  ·obtain⟨a1,a2,as,ra⟩:=hk
   obtain⟨b1,b2,bs,rb⟩:=hk'
   have ka:bF (.tuple k)=true:=by simpa [bF] using a1
   have kb:bF (.tuple k')=true:=by simpa [bF] using b1
   have da:(fR k).depth≤8:=by simp only[gA]; omega
   have db:(fR k').depth≤8:=by simp only[gA]; omega
   refine aI (DN (.tuple k) 8 da ka ra ?_)
   simp only[BK,iV,if_false]
   refine aI (DN (.tuple k') 8 db kb rb ?_)
   simp only[BK,iV,if_false]
   refine aI (JM (.tuple k) 8 da ka ra ?_)
   simp only[iV,if_false]
   refine aI (JM (.tuple k') 8 db kb rb ?_)
   simp only[iV,if_false]
   exact aT ⟨rfl,rfl,hrest⟩
 ·rintro⟨r1,r2⟩ s' ⟨hr,rfl,_⟩
  simp only at hr
  subst hr
  exact aT h
end
theorem uW {α β:Type}{R:α->β->Prop} : ∀ {as:List α} {bs:List β},eR R as bs -> ∀ {i:Nat} {a:α},as[i]?=some a -> ∃ b,bs[i]?=some b/\R a b
 | _,_,.nil,i,a,h=>by simp at h
 | _,_,.cons h t,0,a,e=>⟨_,rfl,by simp at e; exact e ▸ h⟩
 | _,_,.cons h t,i+1,a,e=>uW t (by simpa using e)
theorem CM {α β:Type}{R:α->β->Prop} : ∀ {as:List α} {bs:List β},eR R as bs -> ∀ {i:Nat} {b:β},bs[i]?=some b -> ∃ a,as[i]?=some a/\R a b
 | _,_,.nil,i,a,h=>by simp at h
 | _,_,.cons h t,0,a,e=>⟨_,rfl,by simp at e; exact e ▸ h⟩
 | _,_,.cons h t,i+1,a,e=>CM t (by simpa using e)
theorem Good.met {t:eB}{es:Array (Int×aE)}{f:Nat->Int}{h:Int}{n:Nat}{r:Option Met}(G:Good t es)(hv : ∀ m<n,jD t (rd t.mask h m).j)(heq:t.probe f h (rd t.mask h n)=r)(hf : ∀ (i:Nat) e,es[i]?=some e->f i=e.1) :
  ∃ N,n≤N/\N<10*turns t.mask/\(∀ m,n≤m->m<N -> ∃ (i:Nat) (e:Int×aE),t.place[i]?=some (rd t.mask h m).j/\es[i]?=some e/\e.1≠h) /\
   ((¬ jD t (rd t.mask h N).j/\r=some (.empty (rd t.mask h N).j none)) \/ ∃ (i:Nat) (e:Int×aE),t.place[i]?=some (rd t.mask h N).j/\es[i]?=some e/\e.1=h/\r=some (.candidate (rd t.mask h N).j i (rd t.mask h (N+1)))):=by
 obtain⟨k,h1,h2,h3⟩:=G.next h hv
 have el : ∀ i j:Nat,t.place[i]?=some j -> ∃ e,es[i]?=some e:=fun i j q=>by
  have:=(uD.mp q).1
  rw[G.len] at this
  exact⟨es[i],kJ this⟩
 refine⟨n+k,by omega,h1,fun m a b=>?_,?_⟩
 ·obtain⟨i,e1,e2⟩:=h2 m a b
  obtain⟨e,ee⟩:=el i _ e1
  exact⟨i,e,e1,ee,by rw[← hf i e ee]; exact e2⟩
 ·rcases h3 with⟨a,b⟩ | ⟨i,a,b,c⟩
  ·exact .inl ⟨a,heq.symm.trans b⟩
  ·obtain⟨e,ee⟩:=el i _ a
   exact .inr ⟨i,e,a,ee,by rw[← hf i e ee]; exact b,heq.symm.trans c⟩
theorem Good.nope {t:eB}{es:Array (Int×aE)}{f:Nat->Int}{h:Int}{n:Nat}(G:Good t es)(hv : ∀ m<n,jD t (rd t.mask h m).j)(hn : ∀ met,t.probe f h (rd t.mask h n)=some met->False):False:=by
 obtain⟨k,_,_,h3⟩:=G.next h hv
 rcases h3 with⟨_,q⟩ | ⟨_,_,_,q⟩
 ·exact hn _ q
 ·exact hn _ q
section
variable {prog:bS}{w:bB}{B:List aA->aD->Prop}
def ElT (w:bB)(B:List aA->aD->Prop)(h:aU)(e:Int×aE)(k:List aA):Prop:=∃ b,e.2 = .ref b/\e.1=dF w (.tuple k)/\Adx h k b/\B k b
structure SetAt (w:bB)(B:List aA->aD->Prop)(h:aU)(a:aD)(o:aY)(es:Array (Int×aE))(ep:Nat)(t:eB)(ks:List (List aA)):Prop where
 get:h.get? a=some o
 exact:o.ExactSet
 data:o.data = .set es ep t
 fine:Fine t es
 led:t.led = !fF w
 els:eR (ElT w B h) es.toList ks
 nod:ks.Nodup
theorem UD {A:cE}{E:aE->aG->Prop}{s:aG}{a b:aD}{o:aY}{es:Array (Int×aE)}{ep:Nat}{t:eB}{ks:List (List aA)}{k:List aA}{Q:SetFound->aG->Prop}
  (S:SetAt w B s.heap a o es ep t ks) (hk:Adx s.heap k b) (hu:A.units+20<cLine) (h1:k∈ks->Q (.there none) s)
  (h2:k∉ks -> ∀ N,(∀ m<N,jD t (rd t.mask (dF w (.tuple k)) m).j) -> ¬ jD t (rd t.mask (dF w (.tuple k)) N).j->Q (.free (rd t.mask (dF w (.tuple k)) N).j false) s) :
  ∀ fuel n stand,stand.getD (t.probeStart (dF w (.tuple k)))=rd t.mask (dF w (.tuple k)) n->(∀ m<n,∃ i:Nat,t.place[i]?=some (rd t.mask (dF w (.tuple k)) m).j /\ ∀ k',ks[i]?=some k'->k'≠k)->10*turns t.mask<fuel+n ->
   aN (aR prog w) A (setSearchFrom a (.ref b) (dF w (.tuple k)) true fuel stand) Q E s
 | 0,n,stand,_,hv,hf=>by
  obtain⟨e,he,hne⟩:=S.fine.good.empty
  obtain⟨N,hN,eN⟩:=QJ S.fine.good.small (dF w (.tuple k)) he
  obtain⟨i,q,_⟩:=hv N (by omega)
  exact absurd ⟨i,eN ▸ q⟩ hne
 | fuel+1,n,stand,hst,hv,hf=>by
  have G:=S.fine.good
  have hv' : ∀ m<n,jD t (rd t.mask (dF w (.tuple k)) m).j:=fun m hm=>by
   obtain⟨i,q,_⟩:=hv m hm
   exact⟨i,q⟩
  have keyAt : ∀ (i:Nat) (e:Int×aE),es[i]?=some e -> ∃ k',ks[i]?=some k'/\ElT w B s.heap e k':=fun i e q=>uW S.els (by rw[nA]; exact q)
  unfold setSearchFrom
  refine aI (pQ S.get S.data S.fine.fits ?_)
  dsimp only
  rw[S.fine.odd]
  simp only[iV,if_false]
  rw[hst]
  split
  ·rename_i met heq
   obtain⟨N,hnN,hN,hm,hc⟩:=G.met hv' heq (fun i e he=>by
    show(es[i]?.map (·.1)).getD 0=e.1
    rw[he]
    rfl)
   have hlive : ∀ m<N,jD t (rd t.mask (dF w (.tuple k)) m).j:=fun m hmN=>by
    rcases pW m n with c | c
    ·exact hv' m c
    ·obtain⟨i,e,q,_⟩:=hm m c hmN
     exact⟨i,q⟩
   rcases hc with⟨hne,hr⟩ | ⟨i,e,hp,hes,hh,hr⟩
   ·cases hr
    dsimp only
    have hnk:k∉ks:=fun mem=>by
     obtain⟨i,hi,ei⟩:=Bu.mp mem
     have ei':ks[i]?=some k:=by rw[gV hi,ei]
     obtain⟨e,q,b',_,hh,_⟩:=CM S.els ei'
     rw[nA] at q
     have hi2:=(uD.mp q).1
     have hi3:i<t.place.size:=by rw[G.len]; exact hi2
     have hpl:=kJ hi3
     obtain⟨M,hM,hMl⟩:=G.reach i _ e hpl q
     rw[hh] at hM hMl
     rcases FW N M with c | c | c
     ·exact hne (hMl N c)
     ·subst c; exact hne ⟨i,by rw[hpl,hM]⟩
     ·have uniq : ∀ i':Nat,t.place[i']?=some (rd t.mask (dF w (.tuple k)) M).j->i'=i:=fun i' q'=>by
       rw[hM] at q'
       rcases FW i' i with z | z | z
       ·have:=G.ris _ _ _ _ z q' hpl; omega
       ·exact z
       ·have:=G.ris _ _ _ _ z hpl q'; omega
      rcases pW M n with z | z
      ·obtain⟨i',q',hne'⟩:=hv M z
       have:=uniq i' q'
       subst this
       exact hne' k ei' rfl
      ·obtain⟨i',e',q',qe,hne'⟩:=hm M z c
       have:=uniq i' q'
       subst this
       rw[q] at qe
       cases qe
       exact hne' hh
    exact aT (h2 hnk N hlive hne)
   ·cases hr
    dsimp only
    obtain⟨k',hk',b',eb,eh,hd',_⟩:=keyAt i e hes
    have hseen : ∀ y∈((es.filter (·.1 == dF w (.tuple k))).toList.map (·.2)),∃ k' b',y = .ref b'/\Adx s.heap k' b':=fun y my=>by
     obtain⟨e',me,rfl⟩:=bP.mp my
     rw[Array.toList_filter] at me
     obtain⟨q1,_⟩:=GA.mp me
     obtain⟨i',hi',ei'⟩:=Bu.mp q1
     obtain⟨k2,_,b2,z1,_,z2,_⟩:=uW S.els (by rw[gV hi',ei'])
     exact⟨k2,b2,z1,z2⟩
    obtain⟨eh0,ey⟩:=e
    have eb:=eb
    have hh:=hh
    subst eb
    have hnext:k'≠k->aN (aR prog w) A (setSearchFrom a (.ref b) (dF w (.tuple k)) true fuel (some (rd t.mask (dF w (.tuple k)) (N+1)))) Q E s:=fun hne=>by
     refine UD S hk hu h1 h2 fuel (N+1) _ rfl (fun m hmN=>?_) (by omega)
     rcases pW m n with c | c
     ·exact hv m c
     ·rcases pW m N with c2 | c2
      ·obtain⟨i',e',q',qe,hne'⟩:=hm m c c2
       refine⟨i',q',fun k2 hk2 e2=>?_⟩
       obtain⟨k3,hk3,_,_,z,_⟩:=keyAt i' e' qe
       rw[hk2] at hk3
       cases hk3
       subst e2
       exact hne' z
      ·have:m=N:=by omega
       subst this
       refine⟨i,hp,fun k2 hk2 e2=>?_⟩
       rw[hk'] at hk2
       cases hk2
       exact hne e2
    have hsm:t.sameMemory t.moves t.mask=some true:=by simp[sameMemory]
    split
    case' isTrue=>refine aI (Mo hk hseen ?_); simp only[iV,if_false]
    all_goals
     rw[hes]
     dsimp only
     refine aI (jR ((qS prog w).eqBool hu hd' hk ?_))
     refine aI (pQ S.get S.data S.fine.fits ?_)
     dsimp only
     by_cases ek:k'=k
     ·rw[decide_eq_true ek]
      simp only[Cp,if_true]
      exact aT (h1 (by rw[← ek]; exact iH hk'))
     ·rw[decide_eq_false ek]
      simp only[Cq,iV,if_false]
      rw[hsm]
      dsimp only
      simp only[if_true]
      rw[(DD G.nod G.ris).mpr hp]
      dsimp only
      rw[hes]
      dsimp only
      refine aI (wpAny_isSame_ref_self (aI (aT ?_)))
      simp only[if_true]
      exact hnext ek
  ·rename_i heq
   exact(G.nope hv' heq).elim
end
section
variable {prog:bS}{w:bB}{B:List aA->aD->Prop}
theorem RY {h h':aU}{a:aD}{o:aY}{es:Array (Int×aE)}{ep:Nat}{t:eB}(ho:h.get? a=some o)(hd:o.data = .set es ep t)(hs:oW a h h'){k:List aA}{b:aD}(hk:Adx h k b):Adx h' k b:=
 hk.keep fun c oc vs n hc _ hd'=>by
  have hne:c≠a:=by
   rintro rfl
   rw[ho] at hc
   cases hc
   rw[hd] at hd'
   cases hd'
  exact(hs.2 c hne).trans hc
theorem pI {α β:Type}{R R':α->β->Prop}(f : ∀ a b,R a b->R' a b) : ∀ {as:List α} {bs:List β},eR R as bs->eR R' as bs
 | _,_,.nil=>.nil
 | _,_,.cons h t=>.cons (f _ _ h) (pI f t)
theorem HS {α β:Type}{R:α->β->Prop}{as as':List α}(p:as'.Perm as) : ∀ {bs:List β},eR R as bs -> ∃ bs',eR R as' bs'/\bs'.Perm bs:=by
 induction p with
 | nil=>intro bs h; exact⟨bs,h,.refl _⟩
 | cons x p ih=>
  intro bs h
  cases h with
  | cons h t=>
   obtain⟨bs',h1,h2⟩:=ih t
   exact⟨_,.cons h h1,h2.cons _⟩
 | swap x y l=>
  intro bs h
  cases h with
  | cons h t=>
   cases t with
   | cons h' t'=>exact⟨_,.cons h' (.cons h t'),.swap _ _ _⟩
 | trans p q ih1 ih2=>
  intro bs h
  obtain⟨b1,h1,h2⟩:=ih2 h
  obtain⟨b2,h3,h4⟩:=ih1 h1
  exact⟨b2,h3,h4.trans h2⟩
theorem YC {α β:Type}{R:α->β->Prop}{a:α}{b:β}(h:R a b) : ∀ {as:List α} {bs:List β},eR R as bs->eR R (as++[a]) (bs++[b])
 | _,_,.nil=>.cons h .nil
 | _,_,.cons h' t=>.cons h' (YC h t)
def SetT (w:bB)(B:List aA->aD->Prop)(h:aU)(a:aD)(ks:List (List aA)):Prop:=∃ o es ep t ks',SetAt w B h a o es ep t ks'/\ks'.Perm ks
theorem UV {h:aU}{a:aD}{o:aY}{es:Array (Int×aE)}{ep:Nat}{t:eB}(ho:h.get? a=some o)(hex:o.ExactSet)(hd:o.data = .set es ep t)(es':Array (Int×aE))(t':eB) :
  ∃ o',(h.update a (AV es' t')).get? a=some o'/\o'.ExactSet/\o'.data = .set es' (ep+1) t'/\oW a h (h.update a (AV es' t')):=by
 have hg:=pY (AV es' t') ho (by rw[putSet_of es' t' hd]; rfl)
 rw[putSet_of es' t' hd] at hg
 exact⟨_,hg,hex,rfl,MS h a _⟩
theorem Iw {A:cE}{E:aE->aG->Prop}{s:aG}{a b:aD}{o:aY}{es:Array (Int×aE)}{ep:Nat}{t:eB}{ks:List (List aA)}{k:List aA}{Q:Bool->aG->Prop}{fuel:Nat}
  (S:SetAt w B s.heap a o es ep t ks) (hk:Adx s.heap k b) (hB:B k b) (hu:A.units+20<cLine) (hroom:es.size+1≤4914)
  (h : ∀ h',oW a s.heap h'->SetT w B h' a (if k∈ks then ks else ks++[k])->Q (decide (k∉ks)) { s with heap:=h' }) :
  aN (aR prog w) A (setAddHashedIn a (.ref b) (dF w (.tuple k)) (fuel+1)) Q E s:=by
 have G:=S.fine.good
 have e0:s = { s with heap:=s.heap }:=by cases s; rfl
 unfold setAddHashedIn
 refine aI (pQ S.get S.data S.fine.fits ?_)
 dsimp only
 have hbs:byScan (.ref b) es=false:=by simp[byScan,Value.scannable]
 rw[hbs]
 simp only[iV,if_false]
 unfold setSearch
 refine aI (UD S hk hu (fun mem=>?_) (fun hn N hl hne=>?_) 100000 0 none rfl (fun m hm=>absurd hm (by omega)) (by
  rcases G.small with e | e | e | e | e | e <;> rw[e] <;> decide))
 ·dsimp only
  refine aT ?_
  have:=h s.heap (Heap.SameBut.refl a s.heap) (by rw[if_pos mem]; exact⟨o,es,ep,t,ks,S,.refl _⟩)
  rw[e0,show false=decide (k∉ks) from(decide_eq_false (fun z=>z mem)).symm]
  exact this
 ·dsimp only
  refine aI (pQ S.get S.data S.fine.fits ?_)
  dsimp only
  rw[Iz G.nod]
  dsimp only
  have hroom2:es.size<t.mask:=by
   have:=S.fine.few
   rcases G.small with e | e | e | e | e | e <;> rw[e] at this ⊢ <;> omega
  have tail : ∀ pl:Bool,aN (aR prog w) A (do
    storeSet a (insertAt es (below t.place (rd t.mask (dF w (.tuple k)) N).j) (dF w (.tuple k),.ref b)) { t with place:=insertAt t.place (below t.place (rd t.mask (dF w (.tuple k)) N).j) (rd t.mask (dF w (.tuple k)) N).j,plain:=pl }
    if (!false&&({ t with place:=insertAt t.place (below t.place (rd t.mask (dF w (.tuple k)) N).j) (rd t.mask (dF w (.tuple k)) N).j,plain:=pl }:eB).tooFull)=true then do
      setRelay a (SetTable.grown (es.size+1))
      pure true
     else pure true) Q E s:=fun pl=>by
   have G':=G.put (x:=.ref b) hl hne hroom2 pl
   have hperm:=insertAt_perm es (below t.place (rd t.mask (dF w (.tuple k)) N).j) (dF w (.tuple k),fQ b)
   rw[Array.toList_push] at hperm
   have hsz:=CZ es (below t.place (rd t.mask (dF w (.tuple k)) N).j) (dF w (.tuple k),fQ b)
   generalize insertAt es (below t.place (rd t.mask (dF w (.tuple k)) N).j) (dF w (.tuple k),fQ b)=es1 at *
   generalize ht1:({ t with place:=insertAt t.place (below t.place (rd t.mask (dF w (.tuple k)) N).j) (rd t.mask (dF w (.tuple k)) N).j,plain:=pl }:eB)=t1 at *
   have hm1:t1.mask=t.mask:=by rw[← ht1]
   have le1:t1.led = !fF w:=by rw[← ht1]; exact S.led
   obtain⟨o1,g1,x1,d1,sb1⟩:=UV S.get S.exact S.data es1 t1
   have els0:eR (ElT w B s.heap) (es.toList++[(dF w (.tuple k),fQ b)]) (ks++[k]):=YC ⟨b,rfl,rfl,hk,hB⟩ S.els
   obtain⟨ks1,els1,p1⟩:=HS hperm els0
   have nod1:ks1.Nodup:=p1.nodup_iff.mpr (Bs.mpr ⟨S.nod,by simp,fun x hx y hy e=>hn (by rw[← dX.mp hy,← e]; exact hx)⟩)
   have keep1 : ∀ e k',ElT w B s.heap e k'->ElT w B (s.heap.update a (AV es1 t1)) e k':=fun e k' ⟨b',q1,q2,q3,q4⟩=>⟨b',q1,q2,RY S.get S.data sb1 q3,q4⟩
   refine aI (wpAny_storeSet_of S.get S.data ?_ (by have:sizeLine=sizeLine:=rfl; rw[nM]; omega))
   have fits1:t1.fits es1.size=true:=by
    have a1:=G'.len
    have a2:=G'.nod
    have a3:=G'.room
    simp[SetTable.fits,MA,a1,a2,a3]
   by_cases hf:t1.tooFull=true
   ·rw[if_pos (by simpa using hf)]
    have a1:=G'.len
    have a2:=G'.nod
    have hfew:=S.fine.few
    have hfull:t1.mask*3≤es1.size*5:=by
     simp[SetTable.tooFull,MA,a1,a2] at hf
     exact hf
    obtain⟨M,hM,hM2,hre0⟩:=Yg (t:=t) (n:=es.size+1) G.small (by simpa using hfew.1) (by omega) (by rw[hm1,hsz] at hfull; exact hfull) hroom
    have hM3:es1.size≤M:=by
     rcases hM with e | e | e | e | e | e <;> rw[e] at hM2 ⊢ <;> omega
    obtain⟨t2,order,el,G2,p2,m2,le2,_,_⟩:=Xj (mask:=M) hM es1 hM3 t1.finger (t1.movedTo M) t1.led t1.plain
    have hre:t1.relaid (es1.map (·.1)) (SetTable.grown (es.size+1))=some (t2,order):=by
     unfold SetTable.relaid
     rw[hre0]
     exact el
    have hsz2:(order.filterMap (es1[·]?)).size=es1.size:=by
     rw[← gW,p2.length_eq,gW]
    refine aI ?_
    unfold setRelay
    refine aI (pQ g1 d1 fits1 ?_)
    dsimp only
    rw[if_neg (by rw[nM,hre0]; rcases hM with e | e | e | e | e | e <;> rw[e] <;> decide),hre]
    refine aI (show aN (aR prog w) A (do
     let es':=order.filterMap (es1[·]?)
     if es'.size != es1.size then unsupported "internal:set-table-lost-an-element"
     pure (es',t2)) _ E _ from ?_)
    dsimp only
    rw[if_neg (by rw[hsz2]; simp)]
    refine aT ?_
    generalize order.filterMap (es1[·]?)=es2 at *
    obtain⟨o2,g2,x2,d2,sb2⟩:=UV g1 x1 d1 es2 t2
    dsimp only
    refine wpAny_storeSet_of g1 d1 ?_ (by rw[nM]; omega)
    refine aT ?_
    obtain⟨ks2,els2,q2⟩:=HS p2 els1
    have keep2 : ∀ e k',ElT w B s.heap e k'->ElT w B ((s.heap.update a (AV es1 t1)).update a (AV es2 t2)) e k':=fun e k' z=>by
     obtain⟨b',z1,z2,z3,z4⟩:=keep1 e k' z
     exact⟨b',z1,z2,RY g1 d1 sb2 z3,z4⟩
    rw[show true=decide (k∉ks) from(decide_eq_true hn).symm]
    exact h _ (sb1.trans sb2) (by rw[if_neg hn]; exact⟨o2,es2,ep+1+1,t2,ks2,⟨g2,x2,d2,⟨G2,by rw[hsz2,m2,hsz]; exact hM2,by omega⟩,le2.trans le1,pI (fun e k'=>keep2 e k') els2,q2.nodup_iff.mpr nod1⟩,q2.trans p1⟩)
   ·rw[if_neg (by simpa using hf)]
    have few:es1.size*5<t1.mask*3/\es1.size≤4914:=by
     have a1:=G'.len
     have a2:=G'.nod
     refine⟨?_,by omega⟩
     simp[SetTable.tooFull,MA,a1,a2] at hf
     omega
    refine aT ?_
    rw[show true=decide (k∉ks) from(decide_eq_true hn).symm]
    exact h _ sb1 (by rw[if_neg hn]; exact⟨o1,es1,ep+1,t1,ks1,⟨g1,x1,d1,⟨G',few⟩,le1,pI (fun e k'=>keep1 e k') els1,nod1⟩,p1⟩)
  obtain⟨k1,k2,as,rk⟩:=id hk
  split
  ·refine aI (UT (.tuple k) 8 (by simp only[gA]; omega) (by simpa [bF] using k1) rk fun bb=>?_)
   cases bb
   ·simp only[iV,if_false]
    exact tail false
   ·simp only[if_true]
    exact tail t.plain
  ·refine aI (aT ?_)
   simp only[if_true]
   exact tail t.plain
end
section
variable {prog:bS}{w:bB}{B:List aA->aD->Prop}
theorem SetT.len {h:aU}{a:aD}{ks:List (List aA)}(S:SetT w B h a ks) : ∃ o es ep t,h.get? a=some o/\o.ExactSet/\o.data = .set es ep t/\t.fits es.size=true/\es.size=ks.length:=by
 obtain⟨o,es,ep,t,ks',Z,p⟩:=S
 refine⟨o,es,ep,t,Z.get,Z.exact,Z.data,Z.fine.fits,?_⟩
 have:=pU Z.els
 rw[gW] at this
 rw[this,p.length_eq]
theorem SetT.keep {h h':aU}{a:aD}{ks:List (List aA)}(S:SetT w B h a ks)(k1 : ∀ o,h.get? a=some o->h'.get? a=some o)(k2 : ∀ b o vs n,h.get? b=some o->o.cls = .type "tuple" -> o.data = .seq vs n->h'.get? b=some o):SetT w B h' a ks:=by
 obtain⟨o,es,ep,t,ks',Z,p⟩:=S
 exact⟨o,es,ep,t,ks',⟨k1 o Z.get,Z.exact,Z.data,Z.fine,Z.led,pI (fun e k ⟨b,q1,q2,q3,q4⟩=>⟨b,q1,q2,q3.keep k2,q4⟩) Z.els,Z.nod⟩,p⟩
theorem Vs {ks ls:List (List aA)}(p:ks.Perm ls)(k:List aA):(if k∈ks then ks else ks++[k]).Perm (gE ls k):=by
 unfold gE
 by_cases m:k∈ks
 ·rw[if_pos m,if_pos (p.mem_iff.mp m)]
  exact p
 ·rw[if_neg m,if_neg (fun z=>m (p.mem_iff.mpr z))]
  exact p.append_right [k]
theorem Yd (kss:List (List aA)):(dQ kss).length≤kss.length:=by
 have go : ∀ (l acc:List (List aA)),(l.foldl gE acc).length≤acc.length+l.length:=by
  intro l
  induction l with
  | nil=>intro acc; simp
  | cons x r ih=>
   intro acc
   have h2:(gE acc x).length≤acc.length+1:=by unfold gE; split <;> simp
   have:=ih (gE acc x)
   simp only[mX,fI]
   omega
 have:=go kss []
 simpa [dQ] using this
theorem La {A:cE}{E:aE->aG->Prop}{s:aG}{a b:aD}{ks:List (List aA)}{k:List aA}{Q:Bool->aG->Prop}
  (S:SetT w B s.heap a ks) (hk:Adx s.heap k b) (hB:B k b) (hu:A.units+20<cLine) (hroom:ks.length+1≤4914)
  (h : ∀ h' c,oW a s.heap h'->SetT w B h' a (gE ks k)->Q c { s with heap:=h',toks:=s.toks+qJ (.tuple k) }) :
  aN (aR prog w) A (setAdd a (.ref b)) Q E s:=by
 obtain⟨o,es,ep,t,ks',Z,p⟩:=S
 unfold setAdd
 refine jR (aI ((qS prog w).pyHash hu hk ?_))
 unfold setAddHashed
 have hes:es.size=ks.length:=by
  have:=pU Z.els
  rw[gW] at this
  rw[this,p.length_eq]
 refine jR (Iw Z hk hB hu (by omega) fun h' sb S'=>h h' _ sb ?_)
 obtain⟨o',es',ep',t',ks2,Z',p'⟩:=S'
 exact⟨o',es',ep',t',ks2,Z',p'.trans (Vs p k)⟩
theorem Xp (acc:List (List aA))(k:List aA):acc.length≤(gE acc k).length:=by
 unfold gE
 split
 ·exact bU _
 ·simp
theorem VS : ∀ (kss acc:List (List aA)),acc.length≤(kss.foldl gE acc).length
 | [],acc=>bU _
 | k::r,acc=>jB (Xp acc k) (VS r (gE acc k))
theorem Oy (kss:List (List aA))(i:Nat):(dQ (kss.take i)).length≤(dQ kss).length:=by
 have e:dQ kss=(kss.drop i).foldl gE (dQ (kss.take i)):=by
  unfold dQ
  rw[← MN,List.take_append_drop]
 rw[e]
 exact VS _ _
theorem Uw {A:cE}{R:Result->aG->Prop}{I:aD}{fp wr:List aD}{G:Array xO->Array xO->Prop}{n:Nat}{P:Nat->aE->Prop}{St:Nat->aG->Prop}
  (W:WalksS prog w A.in1 I fp wr G n P St) (hu:A.units+30<cLine) (S:aD) (hSf:S∉fp) (kss:List (List aA)) (hn:(dQ kss).length≤4900)
  (hT : ∀ i s,St i s -> ∀ c∈wr,∀ o,s.heap.get? c=some o->o.cls ≠ .type "tuple") :
  ∀ (k i:Nat) (s:aG),n - i=k->i≤n->St i s->SetT w B s.heap S (dQ (kss.take i))->(∀ j v,P j v -> ∃ b q,v = .ref b/\kss[j]?=some q/\Adx s.heap q b/\B q b) ->
   (∀ s',Moved (S::wr) G s s'->SetT w B s'.heap S (dQ (kss.take n))->R (.ok (.ret .none)) s') ->
   mD (aR prog w) A (.builtin "set.update.loop" ⟨[.ref S,.ref I],[]⟩) R s:=by
 have hSw:S∉wr:=fun z=>hSf (W.sub _ z)
 have more : ∀ b∈wr,b∈S::wr:=fun b z=>cA _ z
 have stays : ∀ {i s s'},St i s->Moved wr G s s' -> ∀ b o vs m,s.heap.get? b=some o->o.cls = .type "tuple" -> o.data = .seq vs m->s'.heap.get? b=some o:=fun {i s s'} st hm b o vs m q c _=>
  hm.heap b o (fun z=>hT i s st b z o q c) q
 intro k
 induction k with
 | zero=>
  intro i s hk hi hst hS hP hR
  obtain rfl:i=n:=by omega
  refine oQ MV ?_
  rw[rY BI _]
  refine aI (W.done s _ _ hst fun s' hm=>?_)
  exact aT (hR s' (hm.mono more) (hS.keep (fun o q=>hm.heap S o hSw q) (stays hst hm)))
 | succ k ih=>
  intro i s hk hi hst hS hP hR
  have hlt:i<n:=by omega
  refine oQ MV ?_
  rw[rY BI _]
  refine aI (W.item i s _ _ hlt hst fun v s' hPi hst' hm=>?_)
  obtain⟨b,q,rfl,hq,hd,hB⟩:=hP i v hPi
  have hS':=hS.keep (fun o z=>hm.heap S o hSw z) (stays hst hm)
  have hstep:dQ (kss.take (i+1))=gE (dQ (kss.take i)) q:=by
   rw[ML,hq]
   simp[dQ,MN]
  have hlen:=jB (Oy kss i) hn
  refine aI (jR (La hS' (hd.keep (stays hst hm)) hB (by show A.units+1+20<cLine; omega) (by omega) fun h' c sb S2=>?_))
  obtain⟨o2,es2,ep2,t2,g2,_,d2,_⟩:=hS'.len
  have kt : ∀ b o vs m,s'.heap.get? b=some o->o.cls = .type "tuple" -> o.data = .seq vs m->h'.get? b=some o:=fun b o vs m z _ z'=>by
   have hne:b≠S:=by
    rintro rfl
    rw[g2] at z
    cases z
    rw[d2] at z'
    cases z'
   exact(sb.2 b hne).trans z
  refine aT ⟨tO BI _,ih (i+1) _ (by omega) hlt (W.frame _ s' _ _ hst' (Nat.le_add_right _ _) fun c hc o e=>?_) (by rw[hstep]; exact S2) (fun j v z=>?_) fun s'' hm'' S3=>?_⟩
  ·exact(sb.2 c (fun z=>hSf (z ▸ hc))).trans e
  ·obtain⟨b',q',e1,e2,e3,e4⟩:=hP j v z
   exact⟨b',q',e1,e2,(e3.keep (stays hst hm)).keep kt,e4⟩
  ·exact hR s'' (Moved.trans W.gtrans ((hm.mono more).then_heap (Nat.le_add_right _ _) fun c o hc e=>(sb.2 c (fun z=>hc (z ▸ bQ))).trans e) hm'') S3
end
section
variable {B:List aA->aD->Prop}{prog:bS}{w:bB}{A:cE}{E:aE->aG->Prop}{s:aG}
theorem Wd {h:aU}{a:aD}(e:h.get? a=some (Akc (!fF w))):SetT w B h a []:=
 ⟨Akc (!fF w),#[],0,.fresh 0 0 (!fF w),[],⟨e,⟨rfl,rfl,rfl⟩,rfl,Pt _,rfl,.nil,.nil⟩,.refl _⟩
set_option maxHeartbeats 4000000 in
theorem Zd {l:aD}{items:Array aE}{kss:List (List aA)}{Q:aE->aG->Prop}(hh:A.handled=none)(hu:A.units+40<cLine)(hl:s.heap.IsList l items)
  (hd : ∀ (j:Nat) v,items[j]?=some v -> ∃ b q,v = .ref b/\kss[j]?=some q/\Adx s.heap q b/\B q b) (hlen:(dQ kss).length≤4900) (hkl:kss.length=items.size)
  (h : ∀ (h':aU) (tk:Nat),s.toks≤tk->SetT w B h' s.heap.objs.size (dQ kss)->(∀ b o,b<s.heap.objs.size->s.heap.get? b=some o->h'.get? b=some o)->Q (.ref s.heap.objs.size) { s with heap:=h',toks:=tk }) :
  aN (aR prog w) A (call (.type "set") [.ref l]) Q E s:=by
 obtain⟨c,tl,hmro⟩:=kI.mro
 have hmade:=kI.made
 have hsub:=kI.sub
 refine wpAny_call (codeAny_of_tree (show aN _ _ (callAny (.type "set") _) _ _ _ from ?_))
 refine aT ⟨Code.quiet_builtin _ (by decide +kernel),oQ F.entry_type_call ?_⟩
 rw[Around.under_plain (weight_type_call_type "set" [.ref l] []) rfl]
 have z1:=kI.notType
 have z2:=kI.canCreate
 have z3:=F.typeCall_set_1 (.ref l)
 repeat (any_goals (first | assumption | wp_step))
 refine tR (Si (.ref l) (E:=E) (Q₁:=fun u s₁=>u = .ref s.heap.objs.size/\s₁ = { s with heap:=s.heap.push (Akc (!fF w)) }) ⟨rfl,rfl⟩) fun r s₁ hr=>?_
 match r,hr with
 | .error e,hr=>exact hr
 | .ok (.ret u),hr=>
  obtain⟨rfl,rfl⟩:=hr
  generalize hled:(!fF w)=led
  have gS:(s.heap.push (Akc led)).get? s.heap.objs.size=some (Akc led):=eP _ rfl
  have hT:Shared.TypeIs { s with heap:=s.heap.push (Akc led) } (.ref s.heap.objs.size) "set":=⟨_,gS,rfl⟩
  have y1:=kI.init.lookup
  have y2:=kI.init.bind (.ref s.heap.objs.size)
  repeat (any_goals (first | assumption | wp_step))
  refine tR (codeAny_call_builtin (R:=wants (fun r s₂=>r = .none /\ ∃ h' tk,s.toks≤tk/\s₂ = { s with heap:=h',toks:=tk }/\SetT w B h' s.heap.objs.size (dQ kss)/\(∀ b o,b<s.heap.objs.size->s.heap.get? b=some o->h'.get? b=some o)) E) kI.init.plain F.entry_set_init (check_set_init_1 hT ?_)) fun r₂ s₂ hr₂=>?_
  ·obtain⟨ol,gl,cl,nl,dl⟩:=hl
   obtain⟨ocls,odict,odata,oslots⟩:=ol
   simp only at cl dl
   subst cl
   subst dl
   have gl':(s.heap.push (Akc led)).get? l=some { cls:=.type "list",dict:=odict,data:=.seq items nl,slots:=oslots }:=cP _ gl
   have x1:=F.sub_list_set
   have x2:=F.sub_list_frozenset
   have x3:(iD "list" == iD "dict")=false:=by decide
   have L1:(s.heap.push (Akc led)).IsList l items:=⟨_,gl',rfl,nl,rfl⟩
   unfold Builtin.«set.__init__» noKeywords Builtin.Frozenset.updateFrom
   generalize hPI:oP=PI
   wp_walk
   subst hPI
   refine LU L1 (aI (LS ?_))
   have lS:l<s.heap.objs.size:=cL gl
   have hI:(s.heap.push (Akc led)).objs.size=s.heap.objs.size+1:=BG _ _
   have nI:l≠(s.heap.push (Akc led)).objs.size:=by rw[hI]; exact cZ (mR lS)
   have nS:s.heap.objs.size∉[(s.heap.push (Akc led)).objs.size,l]:=by
    intro z
    rw[hI] at z
    rcases cN.mp z with z | z
    ·exact absurd z (cZ (xG _))
    ·exact absurd (dX.mp z) (mQ lS)
   have gI:((s.heap.push (Akc led)).push { cls:=.type "list_iterator",data:=.fields #[.ref l,.int 0 0] }).get? s.heap.objs.size=some (Akc led):=cP _ gS
   refine Uw (w:=w) (B:=B) ((Walks.list (by simp[hh]) _ l nI items).toS) (by show A.units+1+1+30<cLine; omega) s.heap.objs.size nS kss hlen (fun i s1 st c hc o e z=>?_) (items.size - 0) 0 _ rfl (fA _) ⟨⟨_,eP _ rfl,rfl,rfl⟩,L1.push _⟩ (Wd (by rw[hled]; exact gI)) (fun j v e=>?_) fun s' hm S'=>?_
   ·obtain⟨⟨o',g',c',_⟩,_⟩:=st
    rw[dX.mp hc,g'] at e
    cases e
    rw[c'] at z
    exact absurd z (by decide)
   ·obtain⟨b,q,q1,q2,q3,q4⟩:=hd j v e
    exact⟨b,q,q1,q2,q3.keep fun b o vs m z _ _=>cP _ (cP _ z),q4⟩
   ·obtain⟨h',g',d',tk',os'⟩:=s'
    obtain rfl:g'=s.gens:=hm.gens
    obtain rfl:d'=s.drawn:=hm.drawn
    obtain rfl:os'=s.os:=hm.os
    show aN _ _ _ _ _ _
    refine aT ?_
    show aN _ _ (ret fZ) _ _ _
    refine aT ⟨rfl,h',tk',hm.toks,rfl,by rw[← AZ (l:=kss),hkl]; exact S',fun b o hb e=>?_⟩
    refine hm.heap b o (fun z=>?_) (cP _ (cP _ e))
    rw[hI] at z
    rcases cN.mp z with z | z
    ·exact absurd z (cZ hb)
    ·exact absurd (dX.mp z) (cZ (mR hb))
  ·match r₂,hr₂ with
   | .error e,hr₂=>exact hr₂
   | .ok (.ret v),hr₂=>
    obtain⟨rfl,h',tk,ht,rfl,S',hk'⟩:=hr₂
    repeat (any_goals (first | assumption | wp_step))
    exact h _ _ ht S' hk'
end
noncomputable abbrev isO (a:aD)(o:aY):HO:=.ext fun h=>h.get? a=some o
section
variable {X:Cx}
abbrev Refs (H:Hp)(ys:List V)(kss:List (List aA)):Prop:=eR (fun y k=>∃ b,y=V.ref b/\A4z H k b) ys kss
theorem Ai {K:aK}{H:Hp} : ∀ {kss:List (List aA)} {ys:List V},(∀ ks∈kss,cG ks=true/\dJ ks≤6)->Aaw K H (kss.map fR) ys->Refs H ys kss
 | [],ys,_,r=>by rw[Aax.mp r]; exact .nil
 | k::kss,ys,hk,r=>by
  obtain⟨v,t,rfl,r1,r2⟩:=Aao.mp r
  obtain⟨b,rfl,tk⟩:=r1.tupK (hk k bQ).1 (hk k bQ).2
  exact .cons ⟨b,rfl,tk⟩ (Ai (fun x m=>hk x (cA _ m)) r2)
theorem Refs.le {H H':Hp}(x : ∀ c zs,H c=some (.tup zs)->H' c=some (.tup zs)){ys:List V}{kss:List (List aA)}(r:Refs H ys kss):Refs H' ys kss:=pI (fun y k ⟨b,e,t⟩=>⟨b,e,t.keep x⟩) r
end
noncomputable instance memK (k:aO)(acc:List aO):Decidable (k∈acc):=decidable_of_iff (acc.any (fun x=>decide (x=k))=true) (by simp[List.any_eq_true])
noncomputable def gM (acc:List aO)(k:aO):List aO:=if k∈acc then acc else acc++[k]
noncomputable def dP (ks:List aO):List aO:=ks.foldl gM []
theorem Zm (ks:List aO):(dP ks).length≤ks.length:=by
 have go : ∀ (l acc:List aO),(l.foldl gM acc).length≤acc.length+l.length:=by
  intro l
  induction l with
  | nil=>intro acc; simp
  | cons x r ih=>
   intro acc
   have h2:(gM acc x).length≤acc.length+1:=by unfold gM; split <;> simp
   have:=ih (gM acc x)
   simp only[mX,fI]
   omega
 have:=go ks []
 simpa [dP] using this
def Azb (prog:bS)(w:bB)(h:aU)(a:aD)(ks:List aO):Prop:=h.SetOf (iZ prog w) a (fun k=>decide (k∈ks)) ks.length
section
variable {prog:bS}{w:bB}{A:cE}{E:aE->aG->Prop}{s:aG}
theorem Tv {h:aU}{a:aD}{led:Bool}(e:h.get? a=some (Akc led)):Azb prog w h a []:=
 ⟨_,#[],0,_,e,⟨rfl,rfl,rfl⟩,rfl,fun e he=>by simp at he,fun k=>by simp,by decide,by rfl,rfl⟩
theorem Azb.keep {h h':aU}{a:aD}{ks:List aO}(S:Azb prog w h a ks)(k : ∀ o,h.get? a=some o->h'.get? a=some o):Azb prog w h' a ks:=by
 obtain⟨o,es,ep,t,ho,rest⟩:=S
 exact⟨o,es,ep,t,k o ho,rest⟩
theorem Azb.congr {h:aU}{a:aD}{S:aO->Bool}{n:Nat}{ks:List aO}(x:h.SetOf (iZ prog w) a S n)(e1 : ∀ k,S k=decide (k∈ks))(e2:n=ks.length):Azb prog w h a ks:=by
 have:S=fun k=>decide (k∈ks):=funext e1
 subst this
 subst e2
 exact x
theorem Xf {R:Result->aG->Prop}{I:aD}{fp wr:List aD}{G:Array xO->Array xO->Prop}{n:Nat}{P:Nat->aE->Prop}{St:Nat->aG->Prop}
  (W:WalksS prog w A.in1 I fp wr G n P St) (S:aD) (hSf:S∉fp) (kss:List aO) (hn:n+1<FH) (hP : ∀ j v,P j v -> ∃ q,kss[j]?=some q/\(iZ prog w).is q v=true/\v.scannable=true) :
  ∀ (k i:Nat) (s:aG),n - i=k->i≤n->St i s->Azb prog w s.heap S (dP (kss.take i)) ->
   (∀ s',Moved (S::wr) G s s'->Azb prog w s'.heap S (dP (kss.take n))->R (.ok (.ret .none)) s') ->
   mD (aR prog w) A (.builtin "set.update.loop" ⟨[.ref S,.ref I],[]⟩) R s:=by
 have hSw:S∉wr:=fun z=>hSf (W.sub _ z)
 have more : ∀ b∈wr,b∈S::wr:=fun b z=>cA _ z
 intro k
 induction k with
 | zero=>
  intro i s hk hi hst hS hR
  obtain rfl:i=n:=by omega
  refine oQ MV ?_
  rw[rY BI _]
  refine aI (W.done s _ _ hst fun s' hm=>?_)
  exact aT (hR s' (hm.mono more) (hS.keep fun o q=>hm.heap S o hSw q))
 | succ k ih=>
  intro i s hk hi hst hS hR
  have hlt:i<n:=by omega
  refine oQ MV ?_
  rw[rY BI _]
  refine aI (W.item i s _ _ hlt hst fun v s' hPi hst' hm=>?_)
  obtain⟨q,hq,his,hsc⟩:=hP i v hPi
  have hS':=hS.keep fun o z=>hm.heap S o hSw z
  have hstep:dP (kss.take (i+1))=gM (dP (kss.take i)) q:=by
   rw[ML,hq]
   simp[dP,MN]
  have hlen:(dP (kss.take i)).length≤i:=jB (Zm _) (by rw[mW]; omega)
  refine aI (jR ?_)
  unfold setAdd
  refine jR (aI ((iZ prog w).pyHash his ?_))
  refine wpAny_setAddHashed_of his hsc hS' (by omega) fun h' sb S2=>?_
  have S3:Azb prog w h' S (dP (kss.take (i+1))):=by
   rw[hstep]
   refine Azb.congr S2 (fun k'=>?_) ?_
   ·unfold gM
    by_cases m:q∈dP (kss.take i)
    ·rw[if_pos m]
     by_cases c:k'=q
     ·subst c; simp[m]
     ·simp[c]
    ·rw[if_neg m]
     simp
   ·unfold gM
    by_cases m:q∈dP (kss.take i)
    ·simp[m]
    ·simp[m]
  refine aT ⟨tO BI _,ih (i+1) _ (by omega) hlt (W.frame _ s' _ _ hst' (Nat.le_succ _) fun c hc o e=>?_) S3 fun s'' hm'' S4=>?_⟩
  ·exact(sb.2 c (fun z=>hSf (z ▸ hc))).trans e
  ·exact hR s'' (Moved.trans W.gtrans ((hm.mono more).then_heap (Nat.le_succ _) fun c o hc e=>(sb.2 c (fun z=>hc (z ▸ bQ))).trans e) hm'') S4
set_option maxHeartbeats 4000000 in
theorem Xq {l:aD}{items:Array aE}{kss:List aO}{Q:aE->aG->Prop}(hh:A.handled=none)(hl:s.heap.IsList l items)
  (hd : ∀ (j:Nat) v,items[j]?=some v -> ∃ q,kss[j]?=some q/\(iZ prog w).is q v=true/\v.scannable=true) (hlen:items.size+1<FH) (hkl:kss.length=items.size)
  (h : ∀ (h':aU) (tk:Nat),s.toks≤tk->Azb prog w h' s.heap.objs.size (dP kss)->(∀ b o,b<s.heap.objs.size->s.heap.get? b=some o->h'.get? b=some o)->Q (.ref s.heap.objs.size) { s with heap:=h',toks:=tk }) :
  aN (aR prog w) A (call (.type "set") [.ref l]) Q E s:=by
 obtain⟨c,tl,hmro⟩:=kI.mro
 have hmade:=kI.made
 have hsub:=kI.sub
 refine wpAny_call (codeAny_of_tree (show aN _ _ (callAny (.type "set") _) _ _ _ from ?_))
 refine aT ⟨Code.quiet_builtin _ (by decide +kernel),oQ F.entry_type_call ?_⟩
 rw[Around.under_plain (weight_type_call_type "set" [.ref l] []) rfl]
 have z1:=kI.notType
 have z2:=kI.canCreate
 have z3:=F.typeCall_set_1 (.ref l)
 repeat (any_goals (first | assumption | wp_step))
 refine tR (code_set_new_1 (.ref l) (E:=E) (Q₁:=fun u s₁=>∃ led:Bool,u = .ref s.heap.objs.size/\s₁ = { s with heap:=s.heap.push (Akc led) }) fun led=>⟨led,rfl,rfl⟩) fun r s₁ hr=>?_
 match r,hr with
 | .error e,hr=>exact hr
 | .ok (.ret u),hr=>
  obtain⟨led,rfl,rfl⟩:=hr
  have gS:(s.heap.push (Akc led)).get? s.heap.objs.size=some (Akc led):=eP _ rfl
  have hT:Shared.TypeIs { s with heap:=s.heap.push (Akc led) } (.ref s.heap.objs.size) "set":=⟨_,gS,rfl⟩
  have y1:=kI.init.lookup
  have y2:=kI.init.bind (.ref s.heap.objs.size)
  repeat (any_goals (first | assumption | wp_step))
  refine tR (codeAny_call_builtin (R:=wants (fun r s₂=>r = .none /\ ∃ h' tk,s.toks≤tk/\s₂ = { s with heap:=h',toks:=tk }/\Azb prog w h' s.heap.objs.size (dP kss)/\(∀ b o,b<s.heap.objs.size->s.heap.get? b=some o->h'.get? b=some o)) E) kI.init.plain F.entry_set_init (check_set_init_1 hT ?_)) fun r₂ s₂ hr₂=>?_
  ·obtain⟨ol,gl,cl,nl,dl⟩:=hl
   obtain⟨ocls,odict,odata,oslots⟩:=ol
   simp only at cl dl
   subst cl
   subst dl
   have gl':(s.heap.push (Akc led)).get? l=some { cls:=.type "list",dict:=odict,data:=.seq items nl,slots:=oslots }:=cP _ gl
   have x1:=F.sub_list_set
   have x2:=F.sub_list_frozenset
   have x3:(iD "list" == iD "dict")=false:=by decide
   have L1:(s.heap.push (Akc led)).IsList l items:=⟨_,gl',rfl,nl,rfl⟩
   unfold Builtin.«set.__init__» noKeywords Builtin.Frozenset.updateFrom
   generalize hPI:oP=PI
   wp_walk
   subst hPI
   refine LU L1 (aI (LS ?_))
   have lS:l<s.heap.objs.size:=cL gl
   have hI:(s.heap.push (Akc led)).objs.size=s.heap.objs.size+1:=BG _ _
   have nI:l≠(s.heap.push (Akc led)).objs.size:=by rw[hI]; exact cZ (mR lS)
   have nS:s.heap.objs.size∉[(s.heap.push (Akc led)).objs.size,l]:=by
    intro z
    rw[hI] at z
    rcases cN.mp z with z | z
    ·exact absurd z (cZ (xG _))
    ·exact absurd (dX.mp z) (mQ lS)
   have gI:((s.heap.push (Akc led)).push { cls:=.type "list_iterator",data:=.fields #[.ref l,.int 0 0] }).get? s.heap.objs.size=some (Akc led):=cP _ gS
   refine Xf (w:=w) ((Walks.list (by simp[hh]) _ l nI items).toS) s.heap.objs.size nS kss hlen hd (items.size - 0) 0 _ rfl (fA _) ⟨⟨_,eP _ rfl,rfl,rfl⟩,L1.push _⟩ (Tv gI) fun s' hm S'=>?_
   ·obtain⟨h',g',d',tk',os'⟩:=s'
    obtain rfl:g'=s.gens:=hm.gens
    obtain rfl:d'=s.drawn:=hm.drawn
    obtain rfl:os'=s.os:=hm.os
    show aN _ _ _ _ _ _
    refine aT ?_
    show aN _ _ (ret fZ) _ _ _
    refine aT ⟨rfl,h',tk',hm.toks,rfl,by rw[← AZ (l:=kss),hkl]; exact S',fun b o hb e=>?_⟩
    refine hm.heap b o (fun z=>?_) (cP _ (cP _ e))
    rw[hI] at z
    rcases cN.mp z with z | z
    ·exact absurd z (cZ hb)
    ·exact absurd (dX.mp z) (cZ (mR hb))
  ·match r₂,hr₂ with
   | .error e,hr₂=>exact hr₂
   | .ok (.ret v),hr₂=>
    obtain⟨rfl,h',tk,ht,rfl,S',hk'⟩:=hr₂
    repeat (any_goals (first | assumption | wp_step))
    exact h _ _ ht S' hk'
end
def OR (prog:bS)(w:bB)(o:aY)(ks:List aO):Prop:=∃ es ep t,o.ExactSet/\o.data = .set es ep t/\ElemsOf (iZ prog w) es.toList/\(∀ k,k∈ks ↔ ∃ e∈es.toList,(iZ prog w).is k e.2=true)/\es.size<FH/\t.fits es.size=true/\es.size=ks.length
section
variable {X:Cx}
theorem Oj (hc:X.calm=true):Aeq X (.type "set") (fun xs H Q=>∃ p ks,xs=[.ref p]/\SqL X.K H p (ks.map kV)/\ks.length≤4000 /\ ∀ a o,H a=none->OR X.prog X.w o (dP ks)->Q (.ref a) (upd H a (isO a o))):=by
 intro pins s σ H xs us Q I r h
 obtain⟨p,ks,rfl,hp,hl,q⟩:=h
 obtain⟨u,rfl,ru⟩:=vals1 r
 cases ru
 obtain⟨its,rv,pl,_⟩:=I.list hp
 have e1:=rv.length
 rw[cX] at e1
 refine Xq (I.ok.hd hc) pl.isList (fun j v ev=>?_) (by rw[eF]; unfold FH; omega) (by rw[eF]; omega) fun h' tk ht S' hk=>?_
 ·have ev':its[j]?=some v:=by simpa using ev
  obtain⟨y,hy,ry⟩:=CM rv ev'
  rw[fM] at hy
  obtain⟨k,hk,rfl⟩:=lG.mp hy
  refine⟨k,hk,ES ry,?_⟩
  cases k with
  | inl i=>obtain⟨t,rfl⟩:=ry; rfl
  | inr z=>obtain⟨t,rfl⟩:=ry; rfl
 ·obtain⟨o,es,ep,t,ho,hex,hd,hel,hmem,hb,hf,hn⟩:=S'
  have I':=I.laid (t':=tk) (h':=h') (o:=isO s.heap.objs.size o) (fun b u e=>hk b u (cL e) e) (bU _) (show Ac4 X.prog X.w _ _ _ (.ext _) from⟨ho,⟨o,ho⟩,fun _ _ e k=>k _ e⟩)
  exact⟨.ref s.heap.objs.size,_,I',rfl,q _ o I.fresh ⟨es,ep,t,hex,hd,hel,fun k=>by rw[← hmem k]; simp,hb,hf,hn⟩⟩
theorem Qb:Aeq X (.builtin "len") (fun xs H Q=>∃ a o ks,xs=[.ref a]/\H a=some (isO a o)/\OR X.prog X.w o ks/\Q (.int ks.length) H):=by
 intro pins s σ H xs us Q I r h
 obtain⟨a,o,ks,rfl,ha,⟨es,ep,t,hx,hd,_,_,hb,hf,hz⟩,q⟩:=h
 obtain⟨u,rfl,ru⟩:=vals1 r
 cases ru
 obtain⟨g,_,_⟩:=(show Ac4 X.prog X.w H s.heap a (.ext _) from I.hok a _ ha)
 exact call_len_set g hx hd hf (by unfold FH at hb; omega) ⟨.int ks.length,H,I.tok _,⟨s.toks+1,by rw[hz]⟩,q⟩
noncomputable def oM:List aA->Option (List aO)
 | []=>some []
 | d::r=>(fP d).bind fun k=>(oM r).bind fun ks=>some (k::ks)
theorem TK {K:aK}{H:Hp} : ∀ {ds:List aA} {ks:List aO} {ys:List V},oM ds=some ks->Aaw K H ds ys->ys=ks.map kV
 | [],ks,ys,e,r=>by cases e; exact Aax.mp r
 | d::ds,ks,ys,e,r=>by
  obtain⟨k,e1,e⟩:=XBs e
  obtain⟨ks',e2,e⟩:=XBs e
  cases e
  obtain⟨v,t,rfl,r1,r2⟩:=Aao.mp r
  rw[DL e1 r1,TK e2 r2]
  rfl
noncomputable def IR:List aA->Option aA
 | [.list ds]=>(oM ds).bind fun ks=>if ks.length≤4000 then some (.int (dP ks).length) else none
 | _=>none
theorem VT {e:aW}{fe:EF}{p1 p2 pos1 pos2:cC}(hc:X.calm=true)(g1:Gl X "len")(m1:X.mg "len" = none)(g2:Gl X "set")(m2:X.mg "set" = none)(he:DE X e fe)
  (hs1:bI [Expr.Call (.Name "set" p2) [e] [] pos2] X.env=[(false,bZ (Expr.Call (.Name "set" p2) [e] [] pos2) X.env)]:=by rfl) (hs2:bI [e] X.env=[(false,bZ e X.env)]:=by rfl) :
  DE X (.Call (.Name "len" p1) [.Call (.Name "set" p2) [e] [] pos2] [] pos1) (aL IR (aF fe aJ)):=by
 have h1:PE X (.Call (.Name "set" p2) [e] [] pos2) _:=JR (Oj hc) g2 m2 rfl (kS he lX hs2) (by decide) (by decide) hs2 rfl
 have h2:PE X (.Call (.Name "len" p1) [.Call (.Name "set" p2) [e] [] pos2] [] pos1) _:=CQ Qb g1 m1 rfl (kS h1 lX hs1) (by decide) (by decide) hs1 rfl
 refine PE.imp h2 fun σ H Q gh=>?_
 obtain⟨P,ρ,d,hP,rs,ef,k⟩:=gh
 obtain⟨ds0,e0,ef⟩:=XBs ef
 obtain⟨d1,e1,e0⟩:=XBs e0
 have e0:[d1]=ds0:=by simpa [aJ] using e0
 subst e0
 cases d1 with
 | list ds=>
  obtain⟨ks,e2,ef⟩:=XBs (show((oM ds).bind fun ks=>if ks.length≤4000 then some (cO (dP ks).length) else none)=some d from ef)
  obtain⟨hl,rfl⟩:=dS ef
  refine⟨P,ρ,.list ds,hP,rs,e1,dB fun v H1 x1 r1=>?_⟩
  obtain⟨q,ys,rfl,hq,rr⟩:=Abp.mp r1
  obtain rfl:=TK e2 rr
  exact⟨q,ks,rfl,Abd.sqL hq,hl,fun a o hn S=>⟨a,o,dP ks,rfl,kC,S,k.zero (x1.trans (Ext.new hn)) (Aau.mpr rfl)⟩⟩
 | _=>cases ef
end
open PySem
structure Sub (P:bS)(w:bB)(it:aD)(own:List aD)(St:Nat->aU->Prop)(xs:Array aE):Prop where
 mem:it∈own
 obj : ∀ k h,St k h -> ∀ c∈own,∃ o,h.get? c=some o
 keep : ∀ k h h',St k h->(∀ c∈own,∀ o,h.get? c=some o->h'.get? c=some o)->St k h'
 item : ∀ (A:cE) (E:aE->aG->Prop) (s:aG) (Q:aE->aG->Prop) (k:Nat) (x:aE),St k s.heap->xs[k]?=some x ->
  (∀ h',St (k+1) h'->oW it s.heap h'->Q x { s with heap:=h' })->aN (aR P w) A (Builtin.SmallTypes.nextOf (.ref it)) Q E s
 done : ∀ (A:cE) (E:aE->aG->Prop) (s:aG) (Q:aE->aG->Prop) (k:Nat),A.handled=none->St k s.heap->xs[k]?=none ->
  (∀ h' e,Heap.ExtBut it s.heap h'->(∃ o,h'.get? e=some o/\o.cls = .type "StopIteration")->E (.ref e) { s with heap:=h' })->aN (aR P w) A (Builtin.SmallTypes.nextOf (.ref it)) Q E s
theorem Ab {α:Type}{l:List α}{i:Nat}(h:i<l.length):(l[i]::l.eraseIdx i).Perm l:=by
 rw[List.eraseIdx_eq_take_drop_succ]
 refine List.perm_middle.symm.trans ?_
 have:l.take i++l[i]::l.drop (i+1)=l:=by
  rw[← Ca h,List.take_append_drop]
 rw[this]
theorem ZW {α:Type}(f:Nat->Nat) : ∀ (n k:Nat) (l:List α) (out:Array α),l.length=n->(pickOrder.go f n k l out).toList.Perm (out.toList++l)
 | 0,k,l,out,h=>by
  have:l=[]:=Zw.mp h
  subst this
  show out.toList.Perm _
  simp
 | n+1,k,l,out,h=>by
  have hi:f k%l.length<l.length:=tX _ (by omega)
  unfold pickOrder.go
  rw[gV hi]
  dsimp only
  refine(ZW f n (k+1) _ _ (by rw[Zv hi]; omega)).trans ?_
  rw[Array.toList_push,List.append_assoc]
  exact(Ab hi).append_left _
theorem Xx {α:Type}(f:Nat->Nat)(xs:Array α):(pickOrder f xs).toList.Perm xs.toList:=by
 have:=ZW f xs.size 0 xs.toList #[] (by simp)
 simpa [pickOrder] using this
noncomputable def wlk (w:bB)(a:aD)(ep:Nat)(es:Array (Int×aE)):List (Int×aE):=if fF w=true then(pickOrder (w.params.setOrder a ep) es).toList else es.toList
theorem RK (w:bB)(a:aD)(ep:Nat)(es:Array (Int×aE)):(wlk w a ep es).Perm es.toList:=by
 unfold wlk
 split
 ·exact Xx _ _
 ·exact .refl _
theorem CK (w:bB)(a:aD)(ep:Nat)(es:Array (Int×aE)):(wlk w a ep es).length=es.size:=by
 rw[(RK w a ep es).length_eq,gW]
noncomputable def slotAt (w:bB)(t:eB):Nat->Nat
 | 0=>0
 | i+1=>if fF w=true then 0 else t.place.getD i 0+1
theorem JH (w:bB)(t:eB)(i:Nat):slotAt w t (i+1)=if fF w=true then 0 else t.place.getD i 0+1:=rfl
theorem Om {w:bB}{t:eB}(hr:mG t.place)(hb:fF w=false){i:Nat}(hi:i≤t.place.size):below t.place (slotAt w t i)=i:=by
 obtain⟨b1,b2,b3⟩:=DX hr (slotAt w t i)
 cases i with
 | zero=>
  rcases Nat.eq_zero_or_pos (below t.place (slotAt w t 0)) with e | e
  ·exact e
  ·have:=b2 0 e (t.place[0]'(by omega)) (kJ _)
   exact absurd this (by simp[slotAt])
 | succ i=>
  have hv:t.place[i]?=some (t.place[i]'(by omega)):=kJ _
  have es:slotAt w t (i+1)=t.place[i]'(by omega)+1:=by
   rw[JH,if_neg (by rw[hb]; simp)]
   simp[Array.getD,show i<t.place.size by omega]
  rw[es] at b1 b2 b3 ⊢
  rcases FW (below t.place (t.place[i]'(by omega)+1)) (i+1) with c | c | c
  ·have:=b3 i (by omega) _ hv
   omega
  ·exact c
  ·have hv2:t.place[i+1]?=some (t.place[i+1]'(by omega)):=kJ _
   have h1:=b2 (i+1) c _ hv2
   have h2:=hr i (i+1) _ _ (by omega) hv hv2
   omega
section
variable {prog:bS}{w:bB}{A:cE}{E:aE->aG->Prop}{s:aG}{a r:aD}{o:aY}{es:Array (Int×aE)}{ep:Nat}{t:eB}
theorem RW (S:WSet w s.heap a o es ep t)(hnd:fF w=false->(!t.plain&&decide (es.size > 1))=false){i:Nat}(hi:i≤es.size){Q:Option (aE×Nat)->aG->Prop}
  (q:Q (((wlk w a ep es)[i]?).map fun e=>(e.2,slotAt w t (i+1))) s):aN (aR prog w) A (setNext a (slotAt w t i) i ep) Q E s:=by
 unfold setNext
 refine aI (pQ S.get S.data S.fine.fits ?_)
 dsimp only
 unfold setsByText
 refine aI (aI (AK (aT ?_)))
 by_cases hb:fF w=true
 ·refine pR (fun _=>?_) (fun z=>absurd hb z)
  rw[if_neg (by simp)]
  refine aI ?_
  unfold setWalk
  refine aI (pQ S.get S.data S.fine.fits ?_)
  dsimp only
  unfold setsByText
  refine aI (aI (AK (aT ?_)))
  refine pR (fun _=>?_) (fun z=>absurd hb z)
  refine aI (AK (aT (aT ?_)))
  have e1:wlk w a ep es=(pickOrder (w.params.setOrder a ep) es).toList:=by unfold wlk; rw[if_pos hb]
  have e2 : ∀ j,slotAt w t j=0:=fun j=>by
   cases j with
   | zero=>rfl
   | succ j=>rw[JH,if_pos hb]
  rw[e1,e2 (i+1),nA] at q
  rw[e2 i]
  exact q
 ·refine pR (fun z=>absurd z hb) (fun _=>?_)
  have hb':fF w=false:=by simpa using hb
  refine pR (fun z=>?_) (fun _=>?_)
  ·have z':(!t.plain&&decide (es.size > 1))=true:=z
   rw[hnd hb'] at z'
   cases z'
  ·refine aI (show aN _ _ (if (!t.led && !es.isEmpty)=true then unsupported "set:maker-not-led" else pure ()) _ _ _ from ?_)
   rw[if_neg (by rw[S.led,hb']; simp)]
   refine aT (aT ?_)
   have e1:wlk w a ep es=es.toList:=by unfold wlk; rw[if_neg hb]
   have hz:=S.fine.good.len
   have e3:below t.place (slotAt w t i)=i:=Om S.fine.good.ris hb' (by omega)
   rw[e1,nA] at q
   rw[e3]
   by_cases c:i<es.size
   ·have p1:es[i]?=some (es[i]'c):=kJ _
    have p2:t.place[i]?=some (t.place[i]'(by omega)):=kJ _
    have p3:slotAt w t (i+1)=t.place[i]'(by omega)+1:=by
     rw[JH,if_neg hb]
     simp[Array.getD,show i<t.place.size by omega]
    rw[p1,p3] at q
    rw[p1,p2]
    exact q
   ·have p1:es[i]?=none:=NC (by omega)
    rw[p1] at q
    rw[p1]
    exact q
abbrev uT (h:aU)(r a:aD)(k i n ep:Nat):Prop:=h.get? r=some { cls:=.type "set_iterator",dict:=none,data:=.fields #[eI k,eI i,.ref a,eI n,eI ep],slots:=#[] }
end
theorem Abf:PySem.Slot "set_iterator" "__next__" "set_iterator.__next__":=
 .of (owner:="set_iterator") (n:="__next__") (by rw[typeLookup_type,Ap]; kernel_rfl) (by decide +kernel) (by decide +kernel) (by decide +kernel)
  (by first | exact .inl (by decide +kernel) | exact .inr (by decide +kernel)) (by rw[isSubtype_type]; kernel_rfl)
theorem EK:entryFor table "set_iterator.__next__" = some Builtin.«set_iterator.__next__»:=entryFor_of_tree (by kernel_rfl)
theorem UK:Manifest.owners.lookup (String.ofList "set_iterator".toList.reverse.reverse)=some Manifest.sig_set_iterator:=by kernel_rfl
theorem EJ (a:aE):argsOk "set_iterator.__next__" ⟨[a],[]⟩:=by
 unfold argsOk
 rw[signature?_of (id:="set_iterator.__next__") (n:="__next__".toList.reverse) (o:="set_iterator".toList.reverse) (by kernel_rfl) UK]
 kernel_rfl
theorem EH:PySem.Slot "set_iterator" "__iter__" "set_iterator.__iter__":=
 .of (owner:="set_iterator") (n:="__iter__") (by rw[typeLookup_type,Ap]; kernel_rfl) (by decide +kernel) (by decide +kernel) (by decide +kernel)
  (by first | exact .inl (by decide +kernel) | exact .inr (by decide +kernel)) (by rw[isSubtype_type]; kernel_rfl)
theorem XM:entryFor table "set_iterator.__iter__" = some Builtin.«dict_keyiterator.__iter__»:=
 entryFor_alias (id':="dict_keyiterator.__iter__") (by kernel_rfl) (by first | rfl | decide +kernel | (unfold String.splitOn; simp +decide [String.splitOnAux])) (by decide +kernel) (by kernel_rfl)
theorem XF (a:aE):argsOk "set_iterator.__iter__" ⟨[a],[]⟩:=by
 unfold argsOk
 rw[signature?_of (id:="set_iterator.__iter__") (n:="__iter__".toList.reverse) (o:="set_iterator".toList.reverse) (by kernel_rfl) UK]
 kernel_rfl
theorem XI:entryFor table "set.__iter__" = some Builtin.«frozenset.__iter__»:=
 entryFor_alias (id':="frozenset.__iter__") (by kernel_rfl) (by first | rfl | decide +kernel | (unfold String.splitOn; simp +decide [String.splitOnAux])) (by decide +kernel) (by kernel_rfl)
section
variable {prog:bS}{w:bB}{A:cE}{E:aE->aG->Prop}{s:aG}{a r:aD}{o:aY}{es:Array (Int×aE)}{ep:Nat}{t:eB}
theorem Uj (S:WSet w s.heap a o es ep t)(hnd:fF w=false->(!t.plain&&decide (es.size > 1))=false){i:Nat}(hr:uT s.heap r a (slotAt w t i) i es.size ep){e:Int×aE}(he:(wlk w a ep es)[i]?=some e){Q:Option aE->aG->Prop}
  (q : ∀ h',uT h' r a (slotAt w t (i+1)) (i+1) es.size ep->oW r s.heap h'->Q (some e.2) { s with heap:=h' }):aN (aR prog w) A (kY (.ref r)) Q E s:=by
 have ty:s.TypeIs (.ref r) "set_iterator":=⟨_,hr,rfl⟩
 have hi:i<es.size:=by
  rw[← CK w a ep es]
  exact(fN.mp he).1
 unfold kY
 refine aI (AJ (wV ty Abf (kX Abf ty EK ?_ (EJ _))))
 show aN _ _ (fieldsOf (.ref r) >>= _) _ _ s
 refine aI (AI hr rfl ?_)
 refine aI (AE S.get S.data S.fine.fits ?_)
 rw[if_neg (by simp)]
 show aN _ _ (setNext a ((slotAt w t i:Int)).toNat ((i:Int)).toNat ((ep:Int)).toNat >>= _) _ _ s
 rw[mY,mY,mY]
 refine aI (RW S hnd (by omega) ?_)
 rw[he]
 refine aI (AD hr (by simp) fun h1 g1 sb1=>?_)
 refine aI (AD g1 (by simp) fun h2 g2 sb2=>aT ⟨e.2,rfl,aT (q h2 ?_ (sb1.trans sb2))⟩)
 exact g2
theorem Uo (hh:A.handled=none)(S:WSet w s.heap a o es ep t)(hnd:fF w=false->(!t.plain&&decide (es.size > 1))=false)(hr:uT s.heap r a (slotAt w t es.size) es.size es.size ep){Q:Option aE->aG->Prop}
  (q : ∀ h',(∀ b ob,b≠r->s.heap.get? b=some ob->h'.get? b=some ob)->Q none { s with heap:=h' }):aN (aR prog w) A (kY (.ref r)) Q E s:=by
 have ty:s.TypeIs (.ref r) "set_iterator":=⟨_,hr,rfl⟩
 unfold kY
 refine aI (AJ (wV ty Abf (kX Abf ty EK ?_ (EJ _))))
 show aN _ _ (fieldsOf (.ref r) >>= _) _ _ s
 refine aI (AI hr rfl ?_)
 refine aI (AE S.get S.data S.fine.fits ?_)
 rw[if_neg (by simp)]
 show aN _ _ (setNext a ((slotAt w t es.size:Int)).toNat ((es.size:Int)).toNat ((ep:Int)).toNat >>= _) _ _ s
 rw[mY,mY,mY]
 refine aI (RW S hnd (bU _) ?_)
 rw[Bw (by rw[CK]; exact bU _)]
 refine aI (AD hr (by simp) fun h1 g1 sb1=>?_)
 refine aI ?_
 simp only[newExc,newTuple]
 refine aI (jQ ?_ (by size_fits))
 refine aI (LV (by first | rfl | (simp only[firstArgMember]; rfl)) ?_)
 refine jQ ?_ (by size_fits)
 simp only[raiseNew]
 refine aI (wpAny_handled ?_)
 first | rw[show A.in1.handled=none from hh] | rw[hh]
 refine aI (aT (wpAny_throw ?_))
 refine aI (AH ⟨_,eP _ rfl,rfl⟩ isSubtype_stop ?_)
 exact aT (q _ fun b ob ne e=>cP _ (cP _ ((sb1.2 b ne).trans e)))
theorem Up {k i n:Nat}{Q:aE->aG->Prop}(hr:uT s.heap r a k i n ep)(q:Q (.ref r) s):aN (aR prog w) A (oP (.ref r)) Q E s:=by
 have ty:s.TypeIs (.ref r) "set_iterator":=⟨_,hr,rfl⟩
 refine FD ty EH (kX EH ty XM ?_ (XF _))
 exact aT ⟨_,rfl,"set_iterator",_,ty,Abf.lookup,q⟩
theorem Uk (S:WSet w s.heap a o es ep t)(hnd:fF w=false->(!t.plain&&decide (es.size > 1))=false){Q:aE->aG->Prop}
  (q:Q (.ref s.heap.objs.size) { s with heap:=s.heap.push { cls:=.type "set_iterator",data:=.fields #[eI (0:Nat),eI (0:Nat),.ref a,eI (es.size:Nat),eI (ep:Nat)] } }):aN (aR prog w) A (oP (.ref a)) Q E s:=by
 have ty:s.TypeIs (.ref a) "set":=⟨_,S.get,S.exact.1⟩
 refine FD ty MT (kX MT ty XI ?_ (F.args_set_iter_1 _))
 show aN _ _ (NA a >>= _) _ _ s
 unfold NA
 refine aI (aI (AE S.get S.data S.fine.fits (aT ?_)))
 refine aI ?_
 unfold setDrawn
 refine aI (pQ S.get S.data S.fine.fits ?_)
 dsimp only
 unfold setsByText
 refine aI (aI (AK (aT ?_)))
 refine aT ?_
 refine pR (fun z=>?_) (fun _=>aI (aT ?_))
 ·have z':(!(w.params.followText "set-order")&&(!t.plain&&decide (es.size > 1)))=true:=z
  cases hb:fF w with
  | true=>
   have hb':w.params.followText "set-order" = true:=hb
   rw[hb'] at z'
   cases z'
  | false=>
   rw[hnd hb] at z'
   simp at z'
 ·refine aI (wpAny_setEpoch_of S.get S.data S.fine.fits ?_)
  exact aI (jQ (aT ⟨_,rfl,"set_iterator",_,⟨_,eP _ rfl,rfl⟩,Abf.lookup,q⟩) (by size_fits))
theorem Nk (hh:A.handled=none)(r a:aD)(ne:a≠r){h0:aU}(S:WSet w h0 a o es ep t)(hnd:fF w=false->(!t.plain&&decide (es.size > 1))=false) :
  Walks prog w A r [r,a] [r] es.size (fun i v=>∃ e,(wlk w a ep es)[i]?=some e/\v=e.2) (fun i h=>uT h r a (slotAt w t i) i es.size ep/\h.get? a=some o) where
 sub:=fun b hb=>by rw[dX.mp hb]; exact bQ
 frame:=fun _ _ _ st hk=>⟨hk r bQ _ st.1,hk a (cA _ bQ) _ st.2⟩
 item:=fun i s Q E hi st hQ=>by
  have S':WSet w s.heap a o es ep t:=⟨st.2,S.exact,S.data,S.fine,S.led⟩
  have hx:(wlk w a ep es)[i]?=some ((wlk w a ep es)[i]'(by rw[CK]; exact hi)):=gV _
  exact Uj S' hnd st.1 hx fun h' st' sb=>hQ _ h' s.toks ⟨_,hx,rfl⟩ ⟨st',(sb.2 a ne).trans st.2⟩ fun b o hb e=>(sb.2 b (fun z=>hb (dX.mpr z))).trans e
 done:=fun s Q E st hQ=>by
  have S':WSet w s.heap a o es ep t:=⟨st.2,S.exact,S.data,S.fine,S.led⟩
  exact Uo hh S' hnd st.1 fun h' he=>hQ h' s.toks fun b ob hb e=>he b ob (fun z=>hb (dX.mpr z)) e
 self:=fun _ _ _ _ st hQ=>Up st.1 hQ
end
section
variable {prog:bS}{w:bB}{A:cE}{E:aE->aG->Prop}{s:aG}
theorem RX {a:aD}{Q:Bool->aG->Prop}(ty:s.TypeIs (.ref a) "set")(q:Q false s):aN (aR prog w) A (MZ (.ref a)) Q E s:=by
 unfold MZ
 refine aI (wU ty F.slot_set_len.lookup ?_)
 generalize hid:("set.__len__" : String)=id0
 wp_delta
 rw[show splitId id0=some ("set","__len__") from by subst hid; decide +kernel]
 subst hid
 refine aI (AH ty sub_set_self ?_)
 refine pR (fun hab=>absurd hab (by decide)) (fun _=>?_)
 refine pR (fun _=>?_) (fun hab=>absurd (by decide +kernel) hab)
 refine aI (tM ty ?_)
 exact aT q
set_option maxHeartbeats 4000000 in
theorem Qp {a:aD}{o:aY}{es:Array (Int×aE)}{ep:Nat}{t:eB}(hh:A.handled=none)(S:WSet w s.heap a o es ep t)(hnd:fF w=false->(!t.plain&&decide (es.size > 1))=false){Q:List aE->aG->Prop}
  (q : ∀ h' tk,s.toks≤tk->s.heap.objs.size<h'.objs.size->(∀ b ob,s.heap.get? b=some ob->h'.get? b=some ob)->Q ((wlk w a ep es).map (·.2)) { s with heap:=h',toks:=tk }):aN (aR prog w) A (collect (.ref a)) Q E s:=by
 have aS:=cL S.get
 unfold collect
 refine aI (LS (oQ F.entry_proto_collect ?_))
 rw[rY F.plain_proto_collect _]
 refine aI (show aN _ A.in1 (newList []) _ _ s from jQ ?_)
 refine aT ⟨tO MU _,oQ F.entry_list_iadd ?_⟩
 rw[rY MU _]
 generalize hh1:s.heap.push { cls:=.type "list",data:=.seq ([]:List aE).toArray }=h1
 have k1 : ∀ b ob,s.heap.get? b=some ob->h1.get? b=some ob:=fun b ob e=>by rw[← hh1]; exact cP _ e
 have z1:h1.objs.size=s.heap.objs.size+1:=by rw[← hh1]; exact BG _ _
 have g1:h1.get? s.heap.objs.size=some { cls:=.type "list",data:=.seq ([]:List aE).toArray }:=by rw[← hh1]; exact eP _ rfl
 have S1:WSet w h1 a o es ep t:=⟨k1 _ _ S.get,S.exact,S.data,S.fine,S.led⟩
 show aN _ A.in1 (rX (.ref s.heap.objs.size) (.ref a) (.ref s.heap.objs.size)) _ _ _
 unfold rX
 refine aI (tM ⟨_,S1.get,S1.exact.1⟩ ?_)
 have n1:xP (.ref s.heap.objs.size) (.ref a)=false:=by simp[xP,mQ aS]
 rw[if_neg (by rw[n1]; decide)]
 refine aI (Uk S1 hnd ?_)
 generalize hh2:h1.push { cls:=.type "set_iterator",data:=.fields #[eI (0:Nat),eI (0:Nat),.ref a,eI (es.size:Nat),eI (ep:Nat)] }=h2
 have k2 : ∀ b ob,h1.get? b=some ob->h2.get? b=some ob:=fun b ob e=>by rw[← hh2]; exact cP _ e
 have gr:uT h2 h1.objs.size a (slotAt w t 0) 0 es.size ep:=by rw[← hh2]; exact eP _ rfl
 have S2:WSet w h2 a o es ep t:=⟨k2 _ _ S1.get,S.exact,S.data,S.fine,S.led⟩
 have ne:a≠h1.objs.size:=by rw[z1]; exact cZ (mR aS)
 refine aI (jR (RX ⟨_,S2.get,S2.exact.1⟩ ?_))
 refine pR (fun _=>?_) (fun z=>absurd (by decide +kernel) z)
 refine aI (wpAny_rule ?_)
 refine aI (show aN _ A.in1 (wX s.heap.objs.size (·.push .none) >>= fun _=>wX s.heap.objs.size (·.pop)) _ _ _ from ?_)
 refine aI (wR (k2 _ _ g1) rfl ?_)
 have hS2:=pY (gL (·.push fZ)) (k2 _ _ g1) rfl
 refine wR hS2 rfl ?_
 have hS3:=pY (gL (·.pop)) hS2 rfl
 have oth : ∀ b ob,b≠s.heap.objs.size->h2.get? b=some ob->((h2.update s.heap.objs.size (gL (·.push fZ))).update s.heap.objs.size (gL (·.pop))).get? b=some ob:=
  fun b ob hb e=>(rV _ _ (lH hb)).trans ((rV _ _ (lH hb)).trans e)
 have nS:s.heap.objs.size∉[h1.objs.size,a]:=by
  intro z
  rcases cN.mp z with z | z
  ·rw[z1] at z; exact absurd z (cZ (xG _))
  ·exact absurd (dX.mp z) (mQ aS)
 have few:=S.fine.few
 refine aT ⟨tO Cg _,Ao ((Nk (by simp[hh]) h1.objs.size a ne S2 hnd).toS) (by rw[nM]; omega) _ nS _ es.size 0 _ _ _ rfl (fA _) ⟨oth _ _ (by rw[z1]; exact Nat.succ_ne_self _) gr,oth _ _ (cZ aS) S2.get⟩ hS3 (ItemsOf.nil _) fun s' acc' c' hm hS' hacc=>?_⟩
 refine aI (wpAny_load hS' (aT ?_))
 obtain⟨h',g',d',tk',os'⟩:=s'
 obtain rfl:g'=s.gens:=hm.gens
 obtain rfl:d'=s.drawn:=hm.drawn
 obtain rfl:os'=s.os:=hm.os
 have eacc:acc'.toList=(wlk w a ep es).map (·.2):=by
  apply By
  intro j
  rw[fM,nA]
  by_cases hj:j<es.size
  ·have e1:acc'[j]?=some (acc'[j]'(by rw[hacc.1]; exact hj)):=kJ _
   obtain⟨e,he,ev⟩:=hacc.2 j _ e1
   rw[e1,he,ev]
   rfl
  ·rw[NC (by rw[hacc.1]; omega),Bw (by rw[CK]; omega)]
   rfl
 rw[eacc]
 refine q h' tk' hm.toks (cL hS') fun b ob e=>?_
 have hb:=cL e
 refine hm.heap b ob (fun z=>?_) (oth b ob (cZ hb) (k2 _ _ (k1 _ _ e)))
 rcases cN.mp z with z | z
 ·exact absurd z (cZ hb)
 ·have z2:=dX.mp z
  rw[z1] at z2
  exact absurd z2 (cZ (mR hb))
end
section
variable {prog:bS}{w:bB}{A:cE}{E:aE->aG->Prop}{s:aG}{a r T:aD}{o:aY}{es:Array (Int×aE)}{ep:Nat}{t:eB}
theorem Ku {src:Source}{n:Nat}{Q:Nat->aG->Prop}(h0:n≠0)(q : ∀ i d,i<n->Q i { s with drawn:=d }):aN (aR prog w) A (choose src n) Q E s:=fun Γ p hΓ=>by
 unfold choose
 rw[Sem.wp_choose]
 exact⟨h0,q _ _ (tX _ (Nat.pos_of_ne_zero h0))⟩
theorem Ov {α:Type}(n:Nat) : ∀ (xs:List α) {s:aG} {Q:List α->aG->Prop},xs.length=n->(∀ ys d,ys.Perm xs->Q ys { s with drawn:=d })->aN (aR prog w) A (drawOrder n xs) Q E s:=by
 induction n with
 | zero=>
  intro xs s Q h q
  have:=Zw.mp h
  subst this
  unfold drawOrder
  have:=q [] s.drawn (.refl _)
  exact aT this
 | succ n ih=>
  intro xs s Q h q
  cases xs with
  | nil=>simp at h
  | cons x xs=>
   unfold drawOrder
   refine aI (Ku (by simp) fun i d hi=>?_)
   rw[gV hi]
   dsimp only
   refine aI (ih ((x::xs).eraseIdx i) (by rw[Zv hi]; simp at h ⊢; omega) fun ys d' p=>aT ?_)
   exact q _ d' ((p.cons _).trans (Ab hi))
abbrev uR (h:aU)(r T a:aD)(i n ep:Nat):Prop:=h.get? r=some { cls:=.type "set_iterator",dict:=none,data:=.fields #[.ref T,eI i,.ref a,eI n,eI ep],slots:=#[] }
noncomputable def dwl (es:Array (Int×aE))(ps:List Nat):List (Int×aE):=ps.filterMap (es[·]?)
theorem QX {ps:List Nat}(h:ps.Perm (cR es.size)):(dwl es ps).Perm es.toList:=(h.filterMap _).trans (by rw[filterMap_getElem?_range])
theorem Kc {ps:List Nat}(h : ∀ p∈ps,p<es.size) : ∀ {i:Nat} {p:Nat},ps[i]?=some p->(dwl es ps)[i]?=es[p]?:=by
 intro i p hp
 unfold dwl
 rw[LC _ (fun k hk=>by rw[kJ (h k hk)]; rfl),hp]
 rfl
theorem Tu (S:WSet w s.heap a o es ep t){ps:List Nat}(hT : ∃ oT n,s.heap.get? T=some oT/\oT.data = .seq (ps.map fun(i:Nat)=>eI i).toArray n){i:Nat}(hr:uR s.heap r T a i es.size ep){p:Nat}(hp:ps[i]?=some p){e:Int×aE}(he:es[p]?=some e){Q:Option aE->aG->Prop}
  (q : ∀ h',uR h' r T a (i+1) es.size ep->oW r s.heap h'->Q (some e.2) { s with heap:=h' }):aN (aR prog w) A (kY (.ref r)) Q E s:=by
 have ty:s.TypeIs (.ref r) "set_iterator":=⟨_,hr,rfl⟩
 obtain⟨oT,nT,gT,dT⟩:=hT
 unfold kY
 refine aI (AJ (wV ty Abf (kX Abf ty EK ?_ (EJ _))))
 show aN _ _ (fieldsOf (.ref r) >>= _) _ _ s
 refine aI (AI hr rfl ?_)
 refine aI (AE S.get S.data S.fine.fits ?_)
 rw[if_neg (by simp)]
 refine aI (AG gT dT ?_)
 dsimp only
 rw[show((i:Int)).toNat=i from mY i]
 have e1:(ps.map fun(i:Nat)=>eI i).toArray[i]?=some (eI p):=by simp[hp]
 rw[e1]
 show aN _ _ (setNextDrawn a ((p:Int)).toNat ((ep:Int)).toNat >>= _) _ _ s
 rw[mY,mY]
 unfold setNextDrawn
 refine aI (aI (pQ S.get S.data S.fine.fits ?_))
 dsimp only
 rw[if_neg (by simp),he]
 refine aT ?_
 refine aI (AD hr (by simp) fun h1 g1 sb1=>aT ⟨e.2,rfl,aT (q h1 g1 sb1)⟩)
theorem Vv (hh:A.handled=none)(S:WSet w s.heap a o es ep t){ps:List Nat}(hT : ∃ oT n,s.heap.get? T=some oT/\oT.data = .seq (ps.map fun(i:Nat)=>eI i).toArray n)(hl:ps.length=es.size)(hr:uR s.heap r T a es.size es.size ep){Q:Option aE->aG->Prop}
  (q : ∀ h',(∀ b ob,b≠r->s.heap.get? b=some ob->h'.get? b=some ob)->Q none { s with heap:=h' }):aN (aR prog w) A (kY (.ref r)) Q E s:=by
 have ty:s.TypeIs (.ref r) "set_iterator":=⟨_,hr,rfl⟩
 obtain⟨oT,nT,gT,dT⟩:=hT
 unfold kY
 refine aI (AJ (wV ty Abf (kX Abf ty EK ?_ (EJ _))))
 show aN _ _ (fieldsOf (.ref r) >>= _) _ _ s
 refine aI (AI hr rfl ?_)
 refine aI (AE S.get S.data S.fine.fits ?_)
 rw[if_neg (by simp)]
 refine aI (AG gT dT ?_)
 dsimp only
 rw[show((es.size:Int)).toNat=es.size from mY _]
 have e1:(ps.map fun(i:Nat)=>eI i).toArray[es.size]?=none:=by simp[hl]
 rw[e1]
 refine aI (AD hr (by simp) fun h0 g0 sb0=>?_)
 refine aI (AD g0 (by simp) fun h1 g1 sb1=>?_)
 refine aI ?_
 simp only[newExc,newTuple]
 refine aI (jQ ?_ (by size_fits))
 refine aI (LV (by first | rfl | (simp only[firstArgMember]; rfl)) ?_)
 refine jQ ?_ (by size_fits)
 simp only[raiseNew]
 refine aI (wpAny_handled ?_)
 first | rw[show A.in1.handled=none from hh] | rw[hh]
 refine aI (aT (wpAny_throw ?_))
 refine aI (AH ⟨_,eP _ rfl,rfl⟩ isSubtype_stop ?_)
 exact aT (q _ fun b ob ne e=>cP _ (cP _ ((sb1.2 b ne).trans ((sb0.2 b ne).trans e))))
theorem Vb {i n:Nat}{Q:aE->aG->Prop}(hr:uR s.heap r T a i n ep)(q:Q (.ref r) s):aN (aR prog w) A (oP (.ref r)) Q E s:=by
 have ty:s.TypeIs (.ref r) "set_iterator":=⟨_,hr,rfl⟩
 refine FD ty EH (kX EH ty XM ?_ (XF _))
 exact aT ⟨_,rfl,"set_iterator",_,ty,Abf.lookup,q⟩
noncomputable abbrev pP (ps:List Nat):aY:={ cls:=.type "tuple",data:=.seq (ps.map fun(i:Nat)=>eI i).toArray }
theorem Ya (S:WSet w s.heap a o es ep t)(hb:fF w=false)(hd:(!t.plain&&decide (es.size > 1))=true){Q:aE->aG->Prop}
  (q : ∀ ps d,ps.Perm (cR es.size)->Q (.ref (s.heap.objs.size+1)) { s with heap:=(s.heap.push (pP ps)).push { cls:=.type "set_iterator",data:=.fields #[.ref s.heap.objs.size,eI (0:Nat),.ref a,eI (es.size:Nat),eI (ep:Nat)] },drawn:=d }):aN (aR prog w) A (oP (.ref a)) Q E s:=by
 have ty:s.TypeIs (.ref a) "set":=⟨_,S.get,S.exact.1⟩
 refine FD ty MT (kX MT ty XI ?_ (F.args_set_iter_1 _))
 show aN _ _ (NA a >>= _) _ _ s
 unfold NA
 refine aI (aI (AE S.get S.data S.fine.fits (aT ?_)))
 refine aI ?_
 unfold setDrawn
 refine aI (pQ S.get S.data S.fine.fits ?_)
 dsimp only
 unfold setsByText
 refine aI (aI (AK (aT ?_)))
 refine aT ?_
 have hb':w.params.followText "set-order" = false:=hb
 refine pR (fun _=>?_) (fun z=>absurd (show(!(w.params.followText "set-order")&&(!t.plain&&decide (es.size > 1)))=true by rw[hb',hd]; rfl) z)
 have few:=S.fine.few
 refine aI (Ov es.size (cR es.size) (by simp) fun ps d hp=>?_)
 have hz:(ps.map fun(i:Nat)=>eI i).toArray.size≤sizeLine:=by
  have:=hp.length_eq
  rw[nM]
  simp at this ⊢
  omega
 refine aI ?_
 simp only[newTuple]
 refine jQ ?_ hz
 have S1:WSet w (s.heap.push (pP ps)) a o es ep t:=⟨cP _ S.get,S.exact,S.data,S.fine,S.led⟩
 refine aI (wpAny_setEpoch_of (s:={ s with heap:=s.heap.push (pP ps),drawn:=d }) S1.get S.data S.fine.fits ?_)
 refine aI (jQ (aT ⟨_,rfl,"set_iterator",_,⟨_,eP _ rfl,rfl⟩,Abf.lookup,?_⟩) (by size_fits))
 have z1:(s.heap.push (pP ps)).objs.size=s.heap.objs.size+1:=BG _ _
 have:=q ps d hp
 rw[← z1] at this
 exact this
end
section
variable {prog:bS}{w:bB}{A:cE}{E:aE->aG->Prop}{s:aG}
theorem Mc {es:Array (Int×aE)}{ps:List Nat}(h:ps.Perm (cR es.size)):(dwl es ps).length=es.size:=by
 rw[(QX h).length_eq,gW]
theorem Wq {o:aY}{es:Array (Int×aE)}{ep:Nat}{t:eB}(hh:A.handled=none)(r T a:aD)(ne:a≠r)(nT:T≠r){h0:aU}(S:WSet w h0 a o es ep t){ps:List Nat}(hp:ps.Perm (cR es.size)) :
  Walks prog w A r [r,a,T] [r] es.size (fun i v=>∃ e,(dwl es ps)[i]?=some e/\v=e.2) (fun i h=>uR h r T a i es.size ep/\h.get? a=some o/\h.get? T=some (pP ps)) where
 sub:=fun b hb=>by rw[dX.mp hb]; exact bQ
 frame:=fun _ _ _ st hk=>⟨hk r bQ _ st.1,hk a (cA _ bQ) _ st.2.1,hk T (cA _ (cA _ bQ)) _ st.2.2⟩
 item:=fun i s Q E hi st hQ=>by
  have S':WSet w s.heap a o es ep t:=⟨st.2.1,S.exact,S.data,S.fine,S.led⟩
  have hl:ps.length=es.size:=by simpa using hp.length_eq
  have hx:ps[i]?=some (ps[i]'(by omega)):=gV _
  have hlt : ∀ p∈ps,p<es.size:=fun p m=>iG.mp (hp.mem_iff.mp m)
  have hy:es[ps[i]'(by omega)]?=some (es[ps[i]'(by omega)]'(hlt _ (GB _))):=kJ _
  exact Tu S' ⟨_,_,st.2.2,rfl⟩ st.1 hx hy fun h' st' sb=>hQ _ h' s.toks ⟨_,(Kc hlt hx).trans hy,rfl⟩ ⟨st',(sb.2 a ne).trans st.2.1,(sb.2 T nT).trans st.2.2⟩ fun b o hb e=>(sb.2 b (fun z=>hb (dX.mpr z))).trans e
 done:=fun s Q E st hQ=>by
  have S':WSet w s.heap a o es ep t:=⟨st.2.1,S.exact,S.data,S.fine,S.led⟩
  exact Vv hh S' ⟨_,_,st.2.2,rfl⟩ (by simpa using hp.length_eq) st.1 fun h' he=>hQ h' s.toks fun b ob hb e=>he b ob (fun z=>hb (dX.mpr z)) e
 self:=fun _ _ _ _ st hQ=>Vb st.1 hQ
set_option maxHeartbeats 4000000 in
theorem Ro {a:aD}{o:aY}{es:Array (Int×aE)}{ep:Nat}{t:eB}(hh:A.handled=none)(S:WSet w s.heap a o es ep t)(hb:fF w=false)(hd:(!t.plain&&decide (es.size > 1))=true){Q:List aE->aG->Prop}
  (q : ∀ h' tk d ps,ps.Perm (cR es.size)->s.toks≤tk->s.heap.objs.size<h'.objs.size->(∀ b ob,s.heap.get? b=some ob->h'.get? b=some ob)->Q ((dwl es ps).map (·.2)) { s with heap:=h',toks:=tk,drawn:=d }):aN (aR prog w) A (collect (.ref a)) Q E s:=by
 have aS:a<s.heap.objs.size:=cL S.get
 unfold collect
 refine aI (LS (oQ F.entry_proto_collect ?_))
 rw[rY F.plain_proto_collect _]
 refine aI (show aN _ A.in1 (newList []) _ _ s from jQ ?_)
 refine aT ⟨tO MU _,oQ F.entry_list_iadd ?_⟩
 rw[rY MU _]
 generalize hh1:s.heap.push { cls:=.type "list",data:=.seq ([]:List aE).toArray }=h1
 have k1 : ∀ b ob,s.heap.get? b=some ob->h1.get? b=some ob:=fun b ob e=>by rw[← hh1]; exact cP _ e
 have z1:h1.objs.size=s.heap.objs.size+1:=by rw[← hh1]; exact BG _ _
 have g1:h1.get? s.heap.objs.size=some { cls:=.type "list",data:=.seq ([]:List aE).toArray }:=by rw[← hh1]; exact eP _ rfl
 have S1:WSet w h1 a o es ep t:=⟨k1 _ _ S.get,S.exact,S.data,S.fine,S.led⟩
 show aN _ A.in1 (rX (.ref s.heap.objs.size) (.ref a) (.ref s.heap.objs.size)) _ _ _
 unfold rX
 refine aI (tM (T:="set") ⟨_,S1.get,S1.exact.1⟩ ?_)
 have n1:xP (.ref s.heap.objs.size) (.ref a)=false:=by simp[xP,mQ aS]
 rw[if_neg (by rw[n1]; decide)]
 refine aI (Ya (s:={ s with heap:=h1 }) S1 hb hd fun ps d hps=>?_)
 show aN _ _ _ _ _ { s with heap:=(h1.push (pP ps)).push _,drawn:=d }
 generalize hh2:(h1.push (pP ps)).push { cls:=.type "set_iterator",data:=.fields #[.ref h1.objs.size,eI (0:Nat),.ref a,eI (es.size:Nat),eI (ep:Nat)] }=h2
 have k2 : ∀ b ob,h1.get? b=some ob->h2.get? b=some ob:=fun b ob e=>by rw[← hh2]; exact cP _ (cP _ e)
 have z2:(h1.push (pP ps)).objs.size=h1.objs.size+1:=BG _ _
 have gr:uR h2 (h1.objs.size+1) h1.objs.size a 0 es.size ep:=by rw[← hh2,← z2]; exact eP _ rfl
 have gT:h2.get? h1.objs.size=some (pP ps):=by rw[← hh2]; exact cP _ (eP _ rfl)
 have hpl:ps.length=es.size:=by simpa using hps.length_eq
 have S2:WSet w h2 a o es ep t:=⟨k2 _ _ S1.get,S.exact,S.data,S.fine,S.led⟩
 have ne:a≠h1.objs.size+1:=by rw[z1]; exact cZ (mR (mR aS))
 show aN _ _ (rJ [.ref (h1.objs.size+1)] (MZ (.ref a)) >>= _) _ _ _
 refine aI (jR (RX ⟨_,S2.get,S2.exact.1⟩ ?_))
 refine pR (fun _=>?_) (fun z=>absurd (by decide +kernel) z)
 refine aI (wpAny_rule ?_)
 refine aI (show aN _ A.in1 (wX s.heap.objs.size (·.push .none) >>= fun _=>wX s.heap.objs.size (·.pop)) _ _ _ from ?_)
 refine aI (wR (k2 _ _ g1) rfl ?_)
 have hS2:=pY (gL (·.push fZ)) (k2 _ _ g1) rfl
 refine wR hS2 rfl ?_
 have hS3:=pY (gL (·.pop)) hS2 rfl
 have oth : ∀ b ob,b≠s.heap.objs.size->h2.get? b=some ob->((h2.update s.heap.objs.size (gL (·.push fZ))).update s.heap.objs.size (gL (·.pop))).get? b=some ob:=
  fun b ob hb e=>(rV _ _ (lH hb)).trans ((rV _ _ (lH hb)).trans e)
 have nS:s.heap.objs.size∉[h1.objs.size+1,a,h1.objs.size]:=by
  intro z
  rcases cN.mp z with z | z
  ·rw[z1] at z; exact absurd z (cZ (mR (xG _)))
  ·rcases cN.mp z with z | z
   ·exact absurd z (mQ aS)
   ·have z3:=dX.mp z
    rw[z1] at z3
    exact absurd z3 (cZ (xG _))
 have few:=S.fine.few
 refine aT ⟨tO Cg _,Ao ((Wq (A:=A.in1) (by simp[hh]) (h1.objs.size+1) h1.objs.size a ne (cZ (xG _)) S2 hps).toS) (by rw[nM]; omega) _ nS _ es.size 0 _ _ _ rfl (fA _) ⟨oth _ _ (by rw[z1]; exact mQ (mR (xG _))) gr,oth _ _ (cZ aS) S2.get,oth _ _ (by rw[z1]; exact Nat.succ_ne_self _) gT⟩ hS3 (ItemsOf.nil _) fun s' acc' c' hm hS' hacc=>?_⟩
 show aN _ A (load s.heap.objs.size >>= _) _ _ s'
 refine aI (wpAny_load hS' (aT ?_))
 obtain⟨h',g',d',tk',os'⟩:=s'
 obtain rfl:g'=s.gens:=hm.gens
 obtain rfl:d'=d:=hm.drawn
 obtain rfl:os'=s.os:=hm.os
 have eacc:acc'.toList=(dwl es ps).map (·.2):=by
  apply By
  intro j
  rw[fM,nA]
  by_cases hj:j<es.size
  ·have e1:acc'[j]?=some (acc'[j]'(by rw[hacc.1]; exact hj)):=kJ _
   obtain⟨e,he,ev⟩:=hacc.2 j _ e1
   rw[e1,he,ev]
   rfl
  ·rw[NC (by rw[hacc.1]; omega),Bw (by rw[Mc hps]; omega)]
   rfl
 rw[eacc]
 refine q h' tk' d' ps hps hm.toks (cL hS') fun b ob e=>?_
 have hbb:b<s.heap.objs.size:=cL e
 refine hm.heap b ob (fun z=>?_) (oth b ob (cZ hbb) (k2 _ _ (k1 _ _ e)))
 rcases cN.mp z with z | z
 ·exact absurd z (cZ hbb)
 ·have z2:=dX.mp z
  rw[z1] at z2
  exact absurd z2 (cZ (mR (mR hbb)))
theorem Ql {a:aD}{o:aY}{es:Array (Int×aE)}{ep:Nat}{t:eB}(hh:A.handled=none)(S:WSet w s.heap a o es ep t){Q:List aE->aG->Prop}
  (q : ∀ h' tk d (es':List (Int×aE)),es'.Perm es.toList->s.toks≤tk->s.heap.objs.size<h'.objs.size->(∀ b ob,s.heap.get? b=some ob->h'.get? b=some ob)->Q (es'.map (·.2)) { s with heap:=h',toks:=tk,drawn:=d }):aN (aR prog w) A (collect (.ref a)) Q E s:=by
 by_cases c:fF w=false/\(!t.plain&&decide (es.size > 1))=true
 ·exact Ro hh S c.1 c.2 fun h' tk d ps hp h1 h2 h3=>q h' tk d _ (QX hp) h1 h2 h3
 ·refine Qp hh S (fun hb=>?_) fun h' tk h1 h2 h3=>q h' tk s.drawn _ (RK w a ep es) h1 h2 h3
  cases hz:(!t.plain&&decide (es.size > 1)) with
  | false=>rfl
  | true=>exact absurd ⟨hb,hz⟩ c
end
open PySem PySem.Spec PySem.W PyProof.Rows PySem.SetTable
theorem IT {α:Type}(xs:List α)(d:α):(cR xs.length).map (fun i=>xs.getD i d)=xs:=by
 apply List.ext_getElem
 ·simp
 ·intro i h1 h2
  simp at h1
  simp[h1]
section
variable {prog:bS}{w:bB}{A:cE}{E:aE->aG->Prop}{s:aG}
theorem Wi {h0:aU}{a:aD}{n:Nat}{vs:List aE}{kss:List (List aA)}{P:PySem.Fin->aG->Prop}(ho:s.heap.get? a=some (nN "list" vs.toArray n))(ht:Ajc h0 vs kss)(kp : ∀ b o,h0.get? b=some o->(kR s.heap a vs).get? b=some o)(ok:okT kss=true)(h64:vs.length<64)
  (h : ∀ p:List Nat,p.Perm (cR vs.length)->p.map (fun i=>kss.getD i [])=kN kss->P (.done (.ret .none)) { s with heap:=sortedHeap s.heap a vs (lJ (p.map fun i=>vs.getD i fZ)) }) :
  aN (aR prog w) A (Builtin.«list.sort» ⟨[.ref a],[]⟩) P E s:=by
 have ln:=pU ht
 by_cases h2:vs.length<2
 ·refine Wk ho h2 ?_
  have:=h (cR vs.length) (List.Perm.refl _) (by
   rw[ln,IT kss]
   refine JD ok (List.Perm.refl _) ?_
   match kss,ln with
   | [],_=>exact .nil
   | [k],_=>simp
   | _::_::_,ln=>simp at ln; omega)
  rw[IT vs] at this
  exact this
 ·have hs:sameAll kss=true/\(kss.all fun k=>(lR k).isSome)=true:=by
   have h2' : ¬ kss.length<2:=by omega
   have:(sameAll kss&&kss.all fun k=>(lR k).isSome)=true:=by simpa [okT,h2'] using ok
   exact qB.mp this
  obtain⟨k0,m0⟩ : ∃ k0,k0∈kss:=by
   cases hk:kss with
   | nil=>rw[hk] at ln; exact absurd ln (by simp; intro e; rw[e] at h2; simp at h2)
   | cons k r=>exact⟨k,bQ⟩
  obtain⟨T,hT⟩:=Bk.mp (dZ.mp hs.2 k0 m0)
  have sm : ∀ k∈kss,∀ k'∈kss,jF k k'=true:=fun k m k' m'=>dZ.mp (dZ.mp hs.1 k m) k' m'
  have ht':=ht.keep kp
  refine Kt (κ:=tuples' (iD T != iD "tuple")) (Hg kss) ho (by omega) h64 (fun R q=>?_) (fun i j C hi hj q=>?_) fun p hp ha=>?_
  ·obtain⟨fs,f1,f2,f3⟩:=TX (M:=aR prog w) ht' fun k m=>(same_kind (sm k m k0 m0)).trans hT
   exact kat_kind f1 (by omega) f3 (by rcases Lc hT with rfl | rfl <;> decide) q
  ·obtain⟨b,e1,⟨_,_,as,r1⟩,m1⟩:=ht'.get i hi
   obtain⟨b',e2,⟨_,_,as',r2⟩,m2⟩:=ht'.get j hj
   rw[e1,e2]
   obtain⟨_,o,xs,n,z,ho,_,hd,hr⟩:=qY r1
   cases z
   obtain⟨_,o',xs',n',z,ho',_,hd',hr'⟩:=qY r2
   cases z
   have hsm:=sm _ m1 _ m2
   have l1:=JB hr
   have l2:=JB hr'
   have ll:=JN hsm
   have:decide (xs.size<xs'.size)=false:=decide_eq_false (by simp only[gW] at l1 l2; omega)
   refine kat_lt (s:={ s with heap:=kR s.heap a vs }) ho hd ho' hd' ?_
   rw[this]
   exact LN _ _ 0 hsm hr hr' q
  ·have hp':p.toList.Perm (cR vs.length):=by simpa using Array.perm_iff_toList_perm.mp hp
   have pl:p.toList.length=vs.length:=by rw[hp'.length_eq,List.length_range]
   refine h p.toList hp' (JD ok ?_ ?_)
   ·have:=hp'.map (fun i=>kss.getD i [])
    rw[ln,IT kss] at this
    exact this
   ·rw[xH,Zt]
    intro i j hi hj hij
    refine Akw.mpr ?_
    have:=ha i j (tY hij) (by omega)
    have e1:at' p i=p.toList[i]:=by simp at hi; simp[at',hi]
    have e2:at' p j=p.toList[j]:=by simp at hj; simp[at',hj]
    rw[e1,e2] at this
    exact of_decide_eq_false this
theorem Tw {kss qs:List (List aA)}(p:qs.Perm kss)(h:okT kss=true):okT qs=true:=by
 unfold okT at h ⊢
 rw[p.length_eq]
 by_cases h2:kss.length<2
 ·simp[h2]
 ·have h':(sameAll kss&&kss.all fun k=>(lR k).isSome)=true:=by simpa [h2] using h
  obtain⟨h3,h4⟩:=qB.mp h'
  have h5:sameAll qs=true:=dZ.mpr fun k m=>dZ.mpr fun k' m'=>dZ.mp (dZ.mp h3 k (p.mem_iff.mp m)) k' (p.mem_iff.mp m')
  have h6:(qs.all fun k=>(lR k).isSome)=true:=dZ.mpr fun k m=>dZ.mp h4 k (p.mem_iff.mp m)
  rw[h5,h6]
  simp
theorem Ph {kss qs:List (List aA)}(p:qs.Perm kss)(h:okT kss=true):kN qs=kN kss:=JD h ((tD qs).trans p) (WM qs)
theorem YY {α β:Type}{R:α->β->Prop}{as:List α}{bs:List β}(h:eR R as bs)(x:α)(y:β) : ∀ p:List Nat,(∀ i∈p,i<as.length)->eR R (p.map fun i=>as.getD i x) (p.map fun i=>bs.getD i y)
 | [],_=>.nil
 | i::p,hi=>by
  refine .cons ?_ (YY h x y p fun j m=>hi j (cA _ m))
  have hlt:=hi i bQ
  obtain⟨b,hb,r⟩:=uW h (gV hlt)
  have e1:as.getD i x=as[i]:=by simp[hlt]
  have e2:bs.getD i y=b:=by simp[hb]
  show R (as.getD i x) (bs.getD i y)
  rw[e1,e2]
  exact r
set_option maxHeartbeats 4000000 in
theorem Qq {B:List aA->aD->Prop}{a:aD}{kss:List (List aA)}{Q:aE->aG->Prop}(hh:A.handled=none)(S:SetT w B s.heap a kss)(ok:okT kss=true)(h64:kss.length<64)
  (q : ∀ h' tk d l e (out:List aE),s.toks≤tk->(∀ b ob,s.heap.get? b=some ob->h'.get? b=some ob)->s.heap.objs.size≤l->eR (fun v k=>∃ b,v=fQ b/\B k b) out (kN kss)->h'.get? l=some (nN "list" out.toArray e)->Q (.ref l) { s with heap:=h',toks:=tk,drawn:=d }) :
  aN (aR prog w) A (call (.builtin "sorted") [.ref a]) Q E s:=by
 obtain⟨o,es,ep,t,ks,S,pm⟩:=S
 have W:WSet w s.heap a o es ep t:=⟨S.get,S.exact,S.data,S.fine,S.led⟩
 refine Calls.call_function_entry kind_sorted plain_sorted entry_sorted (args_sorted1 _) ?_
 unfold Builtin.«sorted»
 have hes:es.size=kss.length:=by
  have:=pU S.els
  rw[gW] at this
  rw[this,pm.length_eq]
 refine aI (aT (aI (Ql (by simp[hh]) W fun h1 tk d es' pe htk hsz k1=>aI (wpAny_newList ?_ (by rw[nM,cX,pe.length_eq,gW]; omega)))))
 obtain⟨ks2,p2,pm2⟩:=HS pe S.els
 have pk:=pm2.trans pm
 have tv:eR (fun v k=>∃ b,v=fQ b/\Adx s.heap k b/\B k b) (es'.map (·.2)) ks2:=by
  clear pe pm2 pk
  induction p2 with
  | nil=>exact .nil
  | cons h t ih=>
   obtain⟨b,e1,_,e3,e4⟩:=h
   exact .cons ⟨b,e1,e3,e4⟩ ih
 have hlen:(es'.map (·.2)).length<64:=by rw[cX,pe.length_eq,gW]; omega
 generalize es'.map (·.2)=vs at tv hlen
 have hoL:(h1.push (nN "list" vs.toArray 0)).get? h1.objs.size=some (nN "list" vs.toArray 0):=eP _ rfl
 refine aI (jR (kX slot_list_sort ⟨_,hoL,rfl⟩ entry_list_sort (Wi hoL (pI (fun v k ⟨b,e1,e2,_⟩=>⟨b,e1,e2⟩) tv) (fun b ob eb=>?_) (Tw pk ok) hlen fun p hp hs=>⟨_,rfl,?_⟩) (args_list_sort _)))
 ·have hb:=cL (k1 b ob eb)
  exact Ma b ob (cZ hb) (cP _ (k1 b ob eb))
 refine aT ⟨_,rfl,?_⟩
 obtain⟨e,he⟩:=sortedHeap_at hoL
 refine q _ tk d h1.objs.size e (p.map fun i=>vs.getD i fZ) htk (fun b ob eb=>?_) (tY hsz) ?_ he
 ·have hb:=cL (k1 b ob eb)
  rw[sortedHeap_old (cZ hb) (by rw[size_push']; exact mR hb),Heap.get?_push_ne _ _ _ (cZ hb)]
  exact k1 b ob eb
 ·have:=YY tv fZ [] p fun i m=>iG.mp (hp.mem_iff.mp m)
  rw[hs,Ph pk ok] at this
  exact pI (fun v k ⟨b,e1,_,e3⟩=>⟨b,e1,e3⟩) this
end
def InL (kss:List (List aA))(ys:List V)(k:List aA)(b:aD):Prop:=∃ i:Nat,kss[i]?=some k/\ys[i]?=some (V.ref b)
def OQ (w:bB)(kss:List (List aA))(ys:List V)(o:aY)(ls:List (List aA)):Prop:=∃ es ep t ks,o.ExactSet/\o.data = .set es ep t/\Fine t es/\t.led=(!fF w)/\eR (fun(e:Int×aE) k=>∃ b,e.2 = .ref b/\e.1=dF w (.tuple k)/\InL kss ys k b) es.toList ks/\ks.Nodup/\ks.Perm ls
theorem Wv {X:Cx}{pins:List (aD×aY)}{σ:List (Option V)}{H:Hp}{s:aG}{d:Drawn}(I:Inv X pins σ H s):Inv X pins σ H { s with drawn:=d }:=⟨I.ok,I.os,I.bare,I.base,I.loc,I.cell,I.free,I.freeC,I.pin,I.hok,I.len⟩
section
variable {X:Cx}
theorem Pd (hc:X.calm=true)(hu:X.A.units+40<cLine):Aeq X (.type "set") (fun xs H Q=>∃ p ys kss,xs=[.ref p]/\SqL X.K H p ys/\Refs H ys kss/\(dQ kss).length≤4900 /\ ∀ a o,H a=none->OQ X.w kss ys o (dQ kss)->Q (.ref a) (upd H a (isO a o))):=by
 intro pins s σ H xs us Q I r h
 obtain⟨p,ys,kss,rfl,hp,rf,hl,q⟩:=h
 obtain⟨u,rfl,ru⟩:=vals1 r
 cases ru
 obtain⟨its,rv,pl,_⟩:=I.list hp
 have e1:=rv.length
 have e2:=pU rf
 refine Zd (B:=InL kss ys) (kss:=kss) (I.ok.hd hc) hu pl.isList (fun j v ev=>?_) hl (by rw[eF]; omega) fun h' tk ht S' hk=>?_
 ·have ev':its[j]?=some v:=by simpa using ev
  obtain⟨y,hy,ry⟩:=CM rv ev'
  obtain⟨k,hk,b,rfl,tk⟩:=uW rf hy
  cases ry
  exact⟨b,k,rfl,hk,vB I.hok tk,j,hk,hy⟩
 ·obtain⟨o,es,ep,t,ks',Z,pm⟩:=S'
  have I':=I.laid (t':=tk) (h':=h') (o:=isO s.heap.objs.size o) (fun b u e=>hk b u (cL e) e) (bU _) (show Ac4 X.prog X.w _ _ _ (.ext _) from⟨Z.get,⟨o,Z.get⟩,fun _ _ e k=>k _ e⟩)
  exact⟨.ref s.heap.objs.size,_,I',rfl,q _ o I.fresh ⟨es,ep,t,ks',Z.exact,Z.data,Z.fine,Z.led,pI (fun e k ⟨b,q1,q2,_,q4⟩=>⟨b,q1,q2,q4⟩) Z.els,Z.nod,pm⟩⟩
theorem Qd (hc:X.calm=true):Aeq X (.builtin "sorted") (fun xs H Q=>∃ a o ys kss ls,xs=[.ref a]/\H a=some (isO a o)/\OQ X.w kss ys o ls/\Refs H ys kss/\okT ls=true/\ls.length<64 /\
  ∀ l zs,H l=none->eR (fun z k=>∃ b,z=V.ref b/\InL kss ys k b) zs (kN ls)->Q (.ref l) (upd H l (.lst zs))):=by
 intro pins s σ H xs us Q I r h
 obtain⟨a,o,ys,kss,ls,rfl,ha,⟨es,ep,t,ks,hx,hd,hf,hl,he,hn,pm⟩,rf,ok,h64,q⟩:=h
 obtain⟨u,rfl,ru⟩:=vals1 r
 cases ru
 obtain⟨g,_,_⟩:=(show Ac4 X.prog X.w H s.heap a (.ext _) from I.hok a _ ha)
 have deep : ∀ k b,InL kss ys k b->Adx s.heap k b:=fun k b gh=>by
  obtain⟨i,h1,h2⟩:=gh
  obtain⟨k',hk',b',eb,tk⟩:=uW rf h2
  rw[h1] at hk'
  cases hk'
  cases eb
  exact vB I.hok tk
 refine Qq (I.ok.hd hc) ⟨o,es,ep,t,ks,⟨g,hx,hd,hf,hl,pI (fun e k ⟨b,q1,q2,q3⟩=>⟨b,q1,q2,deep k b q3,q3⟩) he,hn⟩,pm⟩ ok h64 fun h' tk d l e out htk kept hle pr hlst=>?_
 have hnl:=I.hok.fresh hle
 let zs:List V:=out.map fun v=>match v with | .ref b=>V.ref b | _=>V.non
 have pz:eR (fun z k=>∃ b,z=V.ref b/\InL kss ys k b) zs (kN ls)/\Vals zs out:=by
  generalize kN ls=qs at pr
  clear hlst
  induction pr with
  | nil=>exact⟨.nil,.nil⟩
  | cons h t ih=>
   obtain⟨b,rfl,hb⟩:=h
   exact⟨.cons ⟨b,rfl,hb⟩ ih.1,.cons rfl ih.2⟩
 have lz:zs.length≤sizeLine:=by
  have h1:=pU pz.1
  rw[h1,(tD ls).length_eq,nM]
  omega
 exact⟨.ref l,_,Wv (I.laid (t':=tk) (o:=.lst zs) (fun b ob g=>kept b ob g) hle ⟨lz,out,e,pz.2,hlst⟩),rfl,q _ zs hnl pz.1⟩
noncomputable def TC:List aA->Option aA
 | [.list ds]=>(qF ds).bind fun kss=>if (dQ kss).length<64/\okT (dQ kss)=true then some (.list ((kN (dQ kss)).map fR)) else none
 | _=>none
theorem PY : ∀ {ds:List aA} {kss:List (List aA)},qF ds=some kss->ds=kss.map fR /\ ∀ k∈kss,cG k=true/\dJ k≤6
 | [],kss,e=>by cases e; exact⟨rfl,by simp⟩
 | d::ds,kss,e=>by
  cases d with
  | tuple ks=>
   have e:(if cG ks=true/\dJ ks≤6 then(qF ds).bind fun kss=>some (ks::kss) else none)=some kss:=e
   by_cases hk:cG ks=true/\dJ ks≤6
   case neg=>rw[if_neg hk] at e; cases e
   rw[if_pos hk] at e
   obtain⟨kss',e1,e2⟩:=XBs e
   cases e2
   obtain⟨h1,h2⟩:=PY e1
   refine⟨by rw[h1]; rfl,fun k m=>?_⟩
   rcases cN.mp m with rfl | m
   ·exact hk
   ·exact h2 k m
  | _=>cases e
theorem ZY {K:aK}{H:Hp}{kss:List (List aA)}{ys:List V}(r:Aaw K H (kss.map fR) ys) : ∀ {zs:List V} {qs:List (List aA)},eR (fun z k=>∃ b,z=V.ref b/\InL kss ys k b) zs qs->Aaw K H (qs.map fR) zs
 | _,_,.nil=>Aax.mpr rfl
 | _,k::_,.cons ⟨b,e,i,h1,h2⟩ t=>by
  refine Aao.mpr ⟨_,_,rfl,?_,ZY r t⟩
  have h3:(kss.map fR)[i]?=some (.tuple k):=by rw[fM,h1]; rfl
  obtain⟨v,hv,rv⟩:=r.get h3
  rw[h2] at hv
  cases hv
  rw[e]
  exact rv
theorem Qf {e:aW}{fe:EF}{p1 p2 pos1 pos2:cC}(hc:X.calm=true)(hu:X.A.units+40<cLine)(g1:Gl X "sorted")(m1:X.mg "sorted" = none)(g2:Gl X "set")(m2:X.mg "set" = none)(he:DE X e fe)
  (hs1:bI [Expr.Call (.Name "set" p2) [e] [] pos2] X.env=[(false,bZ (Expr.Call (.Name "set" p2) [e] [] pos2) X.env)]:=by rfl) (hs2:bI [e] X.env=[(false,bZ e X.env)]:=by rfl) :
  DF 1 X (.Call (.Name "sorted" p1) [.Call (.Name "set" p2) [e] [] pos2] [] pos1) (aL TC (aF fe aJ)):=by
 have h1:PE X (.Call (.Name "set" p2) [e] [] pos2) _:=JR (Pd hc hu) g2 m2 rfl (kS he lX hs2) (by decide) (by decide) hs2 rfl
 have h2:PE X (.Call (.Name "sorted" p1) [.Call (.Name "set" p2) [e] [] pos2] [] pos1) _:=CQ (Qd hc) g1 m1 PyProof.Rows.boot_sorted (kS h1 lX hs1) (by decide) (by decide) hs1 rfl
 refine PE.imp h2 fun σ H Q gh=>?_
 obtain⟨P,ρ,d,hP,rs,ef,k⟩:=gh
 obtain⟨ds0,e0,ef⟩:=XBs ef
 obtain⟨d1,e1,e0⟩:=XBs e0
 have e0:[d1]=ds0:=by simpa [aJ] using e0
 subst e0
 cases d1 with
 | list ds=>
  obtain⟨kss,e2,ef⟩:=XBs (show((qF ds).bind fun kss=>if (dQ kss).length<64/\okT (dQ kss)=true then some (rM ((kN (dQ kss)).map fR)) else none)=some d from ef)
  obtain⟨⟨hl,ok⟩,rfl⟩:=dS ef
  obtain⟨rfl,hk⟩:=PY e2
  refine⟨P,ρ,.list (kss.map fR),hP,rs,e1,dB fun v H1 x1 r1=>?_⟩
  obtain⟨q,ys,rfl,hq,rr⟩:=Abp.mp r1
  have rf:Refs H1 ys kss:=Refs.le (fun c zs e=>Abd _ _ e) (Ai hk rr)
  refine⟨q,ys,kss,rfl,Abd.sqL hq,rf,by omega,fun a o hn S=>⟨a,o,ys,kss,dQ kss,rfl,kC,S,Refs.le (fun c zs e=>(Ext.new hn) _ _ e) rf,ok,hl,fun l zs hnl pz=>?_⟩⟩
  exact(k.mono (x1.trans (Ext.new hn))).lst (hP.ext (x1.trans (Ext.new hn))) hnl (ZY (rr.ext (cW (Ext.new hn))) pz)
 | _=>cases ef
end
section
variable {X:Cx}{a b:aW}{fa fb:EF}{pos:cC}
noncomputable def HA:List aA->Option aA
 | [.int i]=>if i.natAbs.log2<1920/\cD (.str (toString i))=true then some (.str (toString i)) else none
 | _=>none
theorem Oi {K:aK}:CallD K 0 (fun xs H Q=>∃ i,xs=[.int i]/\i.natAbs.log2<1920/\Q (.str (toString i)) H) HA:=fun P H xs ds d Q hP r e k=>by
 unfold HA at e
 split at e
 ·obtain⟨hc,rfl⟩:=dS e
  obtain⟨v,rfl,r'⟩:=jH r
  exact⟨_,by rw[Aau.mp r'],hc.1,k.zero Ext.refl (Aap.mpr ⟨rfl,hc.2⟩)⟩
 ·cases e
end
noncomputable def CXR (base:aU)(P:bS)(w:bB):CXT:=fun outer H s E e s'=>∃ (ea:aD) (cls a0:aE) (H':Hp) (B:aU),e = .ref ea/\s'.os=s.os/\qC s'.gens/\Un (frs outer) [] H H' s.heap s'.heap/\HOk P w H' s'.heap /\
 base.StaysIn B/\(∀ b u,s.heap.get? b=some u->b∉frs outer -> ∃ u',B.get? b=some u')/\(∀ b o,H' b=some o -> ∃ u,B.get? b=some u)/\Heap.FlyingW B outer ea cls a0 s'.heap/\E cls none H'
noncomputable def EC (K:aK)(c:aB)(H:Hp):XK:=fun cls _ H'=>iJ K c=some cls/\Ext H H'
theorem CXR.imp {base:aU}{P:bS}{w:bB}{outer:List eT}{H:Hp}{s s':aG}{E E':XK}{e:aE}(h:CXR base P w outer H s E e s')(k : ∀ cls H',E cls none H'->E' cls none H'):CXR base P w outer H s E' e s':=by
 obtain⟨ea,cls,a0,H',B,h1,h2,h3,h4,h5,h6,h7,h8,h9,q⟩:=h
 exact⟨ea,cls,a0,H',B,h1,h2,h3,h4,h5,h6,h7,h8,h9,k _ _ q⟩
structure XOk (X:Cx)(H:Hp)(c:aB):Prop where
 pass:Passes (CXR X.base X.prog X.w) X (EC X.K c H)
 made : ∀ {cls:aE} {pins:List (aD×aY)} {σ:St} {H1:Hp} {s1:aG} {h':aU} {e:aD} {args:List aE},iJ X.K c=some cls->Inv X pins σ H1 s1->Ext H H1->Heap.MadeExcOf s1.heap h' e cls args->X.xe (.ref e) { s1 with heap:=h' }
theorem Ac4.here {P:bS}{w:bB}{H:Hp}{h:aU}{a:aD}{o:HO}(x:Ac4 P w H h a o) : ∃ u,h.get? a=some u:=by
 cases o with
 | lst xs=>obtain⟨_,_,_,_,e⟩:=x; exact⟨_,e⟩
 | tup xs=>obtain⟨_,_,_,_,ob,e,_⟩:=x; exact⟨ob,e⟩
 | dK ep kvs=>obtain⟨_,_,_,_,o,_,e,_⟩:=x; exact⟨_,e⟩
 | dT ep kvs=>obtain⟨_,_,_,_,o,_,e,_⟩:=x; exact⟨_,e⟩
 | set S n=>obtain⟨o,_,_,_,e,_⟩:=x; exact⟨_,e⟩
 | ins C dx fs=>obtain⟨_,_,_,e,_⟩:=x; exact⟨_,e⟩
 | own y=>exact x
 | xd fs=>obtain⟨_,⟨_,_,_,e,_⟩,_⟩:=x; exact⟨_,e⟩
 | rng lo hi=>obtain⟨_,_,_,e⟩:=x; exact⟨_,e⟩
 | frz ob u=>obtain⟨e,_⟩:=x; exact⟨_,e⟩
 | tbl ps=>exact⟨_,show h.get? a=some _ from x⟩
 | met f y=>exact⟨_,show h.get? a=some _ from x⟩
 | ext φ=>obtain⟨_,e,_⟩:=x; exact e
theorem DB {B h:aU}{b:aD}{u u':aY}(k:B.StaysIn h)(e:B.get? b=some u')(q:h.get? b=some u):u'=u:=gU ((k b u' e).symm.trans q)
section
variable {P:bS}{w:bB}{K:aK}{mg:aB->Option aE}{base:aU}{N:List aB}{qual:aB}{scope:iP}{f:aD}{cd:aE}{A:cE}{outer:List eT}{s:aG}{H:Hp}{E:XK}
theorem YM {pins:List (aD×aY)}{σ:St}{H':Hp}{s':aG}{h'' B:aU}{ea:aD}{cls a0:aE}
  (I:Inv (jV (CXR base P w) P w K mg base N qual scope f cd A outer s H E) pins σ H' s') (hin : ∀ b u,s.heap.get? b=some u->b∉frs outer -> ∃ u',B.get? b=some u') (hT : ∀ b o,H' b=some o -> ∃ u,B.get? b=some u)
  (f1:B.StaysIn s'.heap) (f2:Heap.FlyingW B outer ea cls a0 h'') (up:s'.heap.UpToSlots h'') (hb:base.StaysIn B) (q:E cls none H'):CXR base P w outer H s E (.ref ea) { s' with heap:=h'' }:=by
 have f3:=f2.1
 have U:Un (frs outer) [] H H' s.heap s'.heap:=I.base
 have fr : ∀ b∈frs outer,∃ o,s'.heap.get? b=some o /\ ∀ vs,o.data ≠ .fields vs:=fun b m=>(I.funs.mem m).2
 refine⟨ea,cls,a0,H',B,rfl,I.os,I.bare,⟨fun b o e n hb he=>?_,fun b o e n hb he=>?_,U.free,fun b o e he=>?_,U.tups,U.frzs,U.tbls⟩,fun a o e=>?_,hb,hin,hT,f2,q⟩
 ·have z:=U.keep b o e n hb he
  obtain⟨u',z2⟩:=hin b o e hb
  exact f3 b o (DB f1 z2 z ▸ z2)
 ·obtain⟨sl,z⟩:=U.slot b o e n hb he
  obtain⟨o2,z2,nf⟩:=fr b hb
  obtain⟨sl2,z3⟩:=up b o2 z2 nf
  have:o2 = { o with slots:=sl }:=gU (z2.symm.trans z)
  exact⟨sl2,by rw[z3,this]⟩
 ·by_cases hb:b∈frs outer
  ·obtain⟨o2,z2,nf⟩:=fr b hb
   obtain⟨sl2,z3⟩:=up b o2 z2 nf
   exact⟨_,z3⟩
  ·obtain⟨u',z2⟩:=hin b o e hb
   exact⟨u',f3 b u' z2⟩
 ·refine(I.hok a o e).stay (fun b u hb q=>?_) (fun _ q=>q) fun _ _ q=>q
  have ht : ∃ o2,H' b=some o2:=by
   rcases hb with rfl | hb
   ·exact⟨o,e⟩
   ·exact⟨_,hb⟩
  obtain⟨o2,ht⟩:=ht
  obtain⟨u',z2⟩:=hT b o2 ht
  exact f3 b u (DB f1 z2 q ▸ z2)
theorem WO {X:Cx}{pins:List (aD×aY)}{σ:St}{H1:Hp}{s1:aG}(I:Inv X pins σ H1 s1){b:aD}{u:aY}(e:X.s₀.heap.get? b=some u)(n:b∉X.fs):b∉frs X.stack:=fun m=>by
 rcases cN.mp (I.stkSub b m) with z | z
 ·exact absurd (iQ (cL e) I.ok.above) (by rw[z]; exact mS _)
 ·exact n z
theorem Wm:Passes (CXR base P w) (jV (CXR base P w) P w K mg base N qual scope f cd A outer s H E) E:=fun pins σ H1 s1 e s' I h=>by
 obtain⟨ea,cls,a0,H',B,rfl,os,bare,un,hok,hb,hB,hT,fl,q⟩:=h
 have I':=I.call' (ch:=[]) os un hok bare (fun _ z=>nomatch z)
 refine wpAny_leaves_onW (base:=B) (env:=jA qual scope s.heap.objs.size f cd) (outer:=outer) (L:=s.heap.objs.size) I.ok.frames rfl fl fun h'' fl'' up=>?_
 refine YM I' (fun b u e n=>?_) hT fl.1 fl'' up hb q
 obtain⟨o',z⟩:=I.base.there b u e (by show b∉[]; simp)
 exact hB b o' z (WO I e n)
theorem Wj {cls:aE}{pins:List (aD×aY)}{σ:St}{H1:Hp}{s1:aG}{h':aU}{e:aD}{args:List aE}(I:Inv (jV (CXR base P w) P w K mg base N qual scope f cd A outer s H E) pins σ H1 s1)(m:Heap.MadeExcOf s1.heap h' e cls args)(q:E cls none H1) :
  (jV (CXR base P w) P w K mg base N qual scope f cd A outer s H E).xe (.ref e) { s1 with heap:=h' }:=by
 have I':=I.kept (t':=s1.toks) m.keeps
 have hin : ∀ env∈(jA qual scope s.heap.objs.size f cd::outer),∀ b,env.frame=some b->b∈frs (jA qual scope s.heap.objs.size f cd::outer):=fun env he b hb=>xI.mpr ⟨env,he,hb⟩
 have hl:s1.heap.FunFrames base (jA qual scope s.heap.objs.size f cd::outer):=I.stack
 refine wpAny_leaves_madeW (base:=PySem.W.hideAll s1.heap (frs (jA qual scope s.heap.objs.size f cd::outer))) (h:=s1.heap) (env:=jA qual scope s.heap.objs.size f cd) (outer:=outer) (L:=s.heap.objs.size) I.ok.frames rfl (fun b o q=>Ar _ q) (PySem.W.funFrames_hide hl hin) m fun h'' t fl tup hnt up=>?_
 refine YM I' (fun b u e n=>?_) (fun b o e=>?_) (fun b o e=>m.keeps b o (Ar _ e)) fl up (fun b o e=>?_) q
 ·obtain⟨o',z⟩:=I.base.there b u e (by show b∉[]; simp)
  exact⟨o',MB _ z (WO I e n)⟩
 ·have hn:b∉frs (jA qual scope s.heap.objs.size f cd::outer):=fun z=>by
   have:=I.stkFree b z
   rw[e] at this
   cases this
  obtain⟨u,hg⟩:=(I.hok b o e).here
  exact⟨u,MB _ hg hn⟩
 ·refine MB _ (I.bk b o e) fun z=>?_
  have:=(hl.mem z).1
  rw[e] at this
  cases this
theorem Kq {c:aB}(q : ∀ cls H',iJ K c=some cls->Ext H H'->E cls none H'):XOk (jV (CXR base P w) P w K mg base N qual scope f cd A outer s H E) H c:=
 ⟨fun pins σ H1 s1 e s' I h=>Wm pins σ H1 s1 e s' I (h.imp fun cls H' z=>q cls H' z.1 z.2),fun hc I x m=>Wj I m (q _ _ hc x)⟩
end
abbrev FX:=Option aB->List aA->Option aA
noncomputable def spX (K:aK)(n0:Nat)(F:FX):Sp:=fun vs H Q E=>∃ P ds d z,Hid P H/\Aaw K (hid H P) ds vs/\F z ds=some d/\Res K P n0 d H Q /\ ∀ c,z=some c -> ∀ cls H',iJ K c=some cls->Ext H H'->E cls none H'
noncomputable def rsD (c:aB):aA:=.dict [(.none,.str c),(.none,.bool true)]
structure DefX (P:bS)(w:bB)(K:aK)(mg:aB->Option aE)(base:aU)(x:aB)(k:Nat)(ps:List aB)(sp:Sp):Prop where
 ex : ∃ f fd,FnOk P w K mg base (CXR base P w) k f fd ps sp/\mg x=some (.ref f)/\rL K (.ref f)=true/\Binds K fd ps []
section
variable {P:bS}{w:bB}{K:aK}{mg:aB->Option aE}{base:aU}
theorem Fun.okX {CX:CXT}{x qual:aB}{st:bR}{f:aD}{fd:gD}{N ps:List aB}{k:Nat}{sp:Sp}(F:Fun K x qual st f fd)(S:FnScope N ps (bJ st))(len : ∀ vs H Q E,sp vs H Q E->vs.length=ps.length)
  (hb : ∀ (cdv:aE) (A:cE) (outer:List eT) (s:aG) (H:Hp) (vs:List V) (Q:VK) (E:XK),Room k (A.deeper (jA qual (bJ st) s.heap.objs.size f cdv))->sp vs H Q E ->
   ∃ t,PSs (jV CX P w K mg base N qual (bJ st) f cdv A outer s H E) (jG st) t/\t { nx:=fun _ H'=>Q .non H',rt:=Q } (start N vs) H):FnOk P w K mg base CX (k+1) f fd ps sp:=by
 obtain⟨oc,od,kV,doc,pm,an,cdv,ct,osl,rfl,lk,hcd⟩:=F.ex
 exact ON lk hcd S len fun A outer s H vs Q E hr hsp=>hb cdv A outer s H vs Q E hr hsp
theorem Ld {N:List aB}{np n0:Nat}{body:SF}{H:Hp}{P0:aD->Prop}{vs:List V}{ds:List aA}{d:aA}{Q:VK}(hP:Hid P0 H)(r:Aaw K (hid H P0) ds vs)(ef:fnD np N.length body ds=some d)(k:Res K P0 n0 d H Q) :
  tS K H P0 n0 body { nx:=fun _ H'=>Q .non H',rt:=Q } (start N vs) H:=by
 unfold fnD at ef
 by_cases hl:ds.length=np
 case neg=>rw[if_neg hl] at ef; cases ef
 rw[if_pos hl] at ef
 rw[← hl] at ef
 have hlen:=r.length
 have eH:Hd P0 (fun _=>[])=P0:=by
  funext a
  simp[Hd]
 have S0:Sta K H P0 (hid H P0) (ds.map (fun d=>some (0,d))++mU (N.length - ds.length) none) (start N vs) H (fun _=>[]):=by
  refine⟨by simp[start,hlen],fun _=>.nil,fun i j a h=>by simp at h,fun i a h=>by simp at h,Ext.refl,hP,by rw[eH]; exact Ext.refl,fun i n' d' e=>?_⟩
  rw[eH]
  by_cases hi:i<ds.length
  ·rw[rR (by simpa using hi),fM] at e
   cases q:ds[i]? with
   | none=>rw[q] at e; simp at e
   | some d2=>
    rw[q] at e
    have e':0=n'/\d2=d':=by simpa using e
    obtain⟨rfl,rfl⟩:=e'
    obtain⟨v,h1,h2⟩:=r.get q
    refine⟨v,?_,rfl,h2⟩
    unfold start
    rw[rR (by rw[cX,hlen]; exact hi),fM,h1]
    rfl
  ·rw[xN (by simpa using hi)] at e
   have:=iH e
   simp at this
 cases eb:body (ds.map (fun d=>some (0,d))++mU (N.length - ds.length) none) with
 | none=>rw[eb] at ef; cases ef
 | some o=>
  rw[eb] at ef
  refine⟨_,_,_,o,S0,eb,?_⟩
  cases o with
  | rt d'=>
   cases ef
   exact fun v H' ⟨Fr,h1,h2,h3,h4⟩=>k v H' Fr h1 h2 h3 h4
  | nx ρ'=>
   cases ef
   intro σ' H' fp' S'
   refine k .non H' [] S'.ext .nil (fun a m=>by simp at m) ?_
   cases n0 with
   | zero=>exact⟨rfl,Abw.mpr rfl⟩
   | succ n=>
    unfold Ajb
    split
    ·exact .inl ⟨rfl,rfl,rfl⟩
    ·exact⟨rfl,Abw.mpr rfl⟩
  | bk _=>cases ef
  | ct _=>cases ef
theorem OZ {x qual:aB}{st:bR}{f:aD}{fd:gD}{N ps:List aB}{k n0 np:Nat}{body:Option aB->SF}(F:Fun K x qual st f fd)(S:FnScope N ps (bJ st))(hnp:np=ps.length)(hN:ps.length≤N.length)
  (hb : ∀ (cdv:aE) (A:cE) (outer:List eT) (s:aG) (H:Hp) (E:XK) (P0:aD->Prop) (z:Option aB),Room k (A.deeper (jA qual (bJ st) s.heap.objs.size f cdv))->(∀ c,z=some c->XOk (jV (CXR base P w) P w K mg base N qual (bJ st) f cdv A outer s H E) H c) ->
   DSs (jV (CXR base P w) P w K mg base N qual (bJ st) f cdv A outer s H E) H P0 n0 (jG st) (body z)) :
  FnOk P w K mg base (CXR base P w) (k+1) f fd ps (spX K n0 fun z=>fnD np N.length (body z)):=by
 refine F.okX S (fun vs H Q E h=>?_) (fun cdv A outer s H vs Q E hr h=>?_)
 ·obtain⟨P,ds,d,z,_,r,ef,_⟩:=h
  have ef:fnD np N.length (body z) ds=some d:=ef
  unfold fnD at ef
  by_cases hl:ds.length=np
  ·rw[r.length,hl,hnp]
  ·rw[if_neg hl] at ef; cases ef
 ·obtain⟨P0,ds,d,z,hP,r,ef,k,kx⟩:=h
  exact⟨_,hb cdv A outer s H E P0 z hr fun c hc=>Kq (kx c hc),Ld hP r ef k⟩
variable {X:Cx}{x:aB}{k n0 np:Nat}{ps:List aB}{F:FX}{e:aW}{es:List aW}{fa:AF}{p pos:cC}
theorem ZU {sp:Sp}{E:XK}{t:TA}(D:DefX X.prog X.w X.K X.mg X.base x k ps sp)(hr:Room k X.A)(hg:Gl X x)(hx:Passes (CXR X.base X.prog X.w) X E)(ha:PA X (e::es) t)(hdb:(x == ("__debug__" : aB))=false:=by decide)(he:bI (e::es) X.env=(false,bZ e X.env)::bI es X.env:=by rfl)
  (hpl:(eM pos (bI es X.env)).any (·.1)=false:=by rfl):PE X (.Call (.Name x p) (e::es) [] pos) (HB sp [] E t):=by
 obtain⟨f,fd,F,hm,hk,hb⟩:=D.ex
 exact ZK F hr hg hm hk hb .nil hx ha hdb he hpl
theorem ZZ (D:DefX X.prog X.w X.K X.mg X.base x k ps (spX X.K n0 F))(hr:Room k X.A)(hg:Gl X x)(ha:DA X (e::es) fa)(hdb:(x == ("__debug__" : aB))=false:=by decide)(he:bI (e::es) X.env=(false,bZ e X.env)::bI es X.env:=by rfl)
  (hpl:(eM pos (bI es X.env)).any (·.1)=false:=by rfl):DF n0 X (.Call (.Name x p) (e::es) [] pos) (aL (F none) fa):=
 PE.imp (ZU (E:=fun _ _ _=>False) D hr hg (fun _ _ _ _ _ _ _ h=>by obtain⟨_,_,_,_,_,_,_,_,_,_,_,_,_,_,q⟩:=h; exact q.elim) ha hdb he hpl) fun σ H Q gh=>by
  obtain⟨P,ρ,d,hP,rs,ef,k⟩:=gh
  obtain⟨ds,e1,ef⟩:=XBs ef
  refine⟨P,ρ,ds,hP,rs,e1,fun vs H1 x1 r1=>?_⟩
  show spX X.K n0 F (vs++[]) H1 Q _
  rw[rS]
  exact⟨P,ds,d,none,hP.ext x1,r1,ef,k.mono x1,fun c z=>by cases z⟩
end
theorem Ad {k:aO}(e:PyData.none=kD k):False:=by cases k <;> cases e
theorem Gk {K:aK}{B H:Hp}{n:Nat}{c:aB}{v:V}{F:List aD} : ¬ Ajb K B H n (rsD c) v F:=fun h=>by
 have hD : ¬ Ab4 K B (rsD c) v:=fun r=>by
  obtain⟨a,e,⟨kvs,_,r⟩ | ⟨ts,_,r⟩ | ⟨xs,h,r⟩ | r⟩:=Acd.mp r
  ·obtain⟨k',_,_,_,ek,_⟩:=Abn.mp r
   cases k' <;> cases ek
  ·obtain⟨_,_,_,_,⟨z,_⟩,_⟩:=Ac0.mp (Ael.mp r).2
   cases z
  ·obtain⟨es,z,_⟩:=yU r
   cases z
  ·rcases r with⟨_,_,z,_⟩ | ⟨_,z,_⟩ <;> cases z
 unfold Ajb at h
 split at h
 ·rcases h with⟨z,_⟩ | ⟨kds,p,ts,z,_⟩ <;> cases z
 ·cases n with
  | zero=>exact hD h.2
  | succ n=>
   obtain⟨p,xs,Fs,e,hp,_,q⟩:=h
   obtain⟨_,xs⟩:=xs
   replace q:All3 _ _ xs Fs:=q
   cases q with
   | cons h _=>
    exact Ad h.1
section
variable {X:Cx}{H0:Hp}{P0:aD->Prop}{x:aB}{k n0 n np:Nat}{ps:List aB}{F:FX}{e:aW}{es:List aW}{fa:AF}{p pos:cC}{z:Option aB}
theorem evX (m:Md)(hz : ∀ c,z=some c->XOk X H0 c)(D:DefX X.prog X.w X.K X.mg X.base x k ps (spX X.K n F))(hr:Room k X.A)(hg:Gl X x)(ha:DA X (e::es) fa)(hdb:(x == ("__debug__" : aB))=false:=by decide)(he:bI (e::es) X.env=(false,bZ e X.env)::bI es X.env:=by rfl)
  (hpl:(eM pos (bI es X.env)).any (·.1)=false:=by rfl):PE X (.Call (.Name x p) (e::es) [] pos) (tE X.K H0 P0 n m (aL (F z) fa)):=by
 cases z with
 | none=>exact ev m (ZZ D hr hg ha hdb he hpl)
 | some c=>
  refine PE.imp (ZU (E:=EC X.K c H0) D hr hg (hz c rfl).pass ha hdb he hpl) fun σ H Q h=>?_
  obtain⟨B0,ρ0,fp,d0,S,_,_⟩:=id h
  obtain⟨P,ρ,d,hP,rs,ef,k⟩:=BR m σ H Q h
  obtain⟨ds,e1,ef⟩:=XBs ef
  refine⟨P,ρ,ds,hP,rs,e1,fun vs H1 x1 r1=>?_⟩
  show spX X.K n F (vs++[]) H1 Q _
  rw[rS]
  exact⟨P,ds,d,some c,hP.ext x1,r1,ef,k.mono x1,fun c' hc cls H' e2 x2=>by cases hc; exact⟨e2,S.ext.trans (x1.trans x2)⟩⟩
theorem Kd {f:EF}(m:Md)(he:PE X e (tE X.K H0 P0 n0 m f)):DS X H0 P0 n0 (.Return (some e) pos) (bY n0 m f):=PS.imp (LO he) fun D σ H gh=>by
 obtain⟨B0,ρ,fp,o,S,ef,k⟩:=gh
 obtain⟨d,e1,ef⟩:=XBs ef
 cases ef
 exact⟨B0,ρ,fp,d,S,e1,fun v H' t=>k v H' t.ret⟩
end
def NL (K:aK)(c:aB):Prop:=∃ C,dE K cK c=some (some (.ref C))/\MC K C [.type "ValueError",.type "Exception",.type "BaseException",.type "object"] "ValueError.__new__" = true
theorem Jn {K:aK}{h:aU}{C:aD}{bmB:List aE}{newId:String}(X:K.In h)(q:MC K C bmB newId=true) :
  ∃ bm N nm q bs hdct sn sub ab col dd k0 k1 k2 k3 k5 mN,h.get? C=some (excClassObj nm q C N bs bm hdct sn sub ab col dd k0 k1 k2 k3 k5 newId)/\h.Ns N mN/\mN "__init__" = none/\OwnTail h bmB bm:=by
 unfold MC at q
 split at q
 ·rename_i dd cd sl ho
  split at q
  ·rename_i C' bm k0 k1 k2 k3 n k5 hm hs
   simp only[jI,beq_iff_eq,Bool.not_eq_true'] at q
   obtain⟨⟨⟨⟨⟨rfl,rfl⟩,hdel⟩,ht⟩,hok⟩,hni⟩:=q
   obtain⟨nm,bs,mro,ns,qn,hd,sn,sub,ab,col,del⟩:=cd
   dsimp only at hm hdel hok hni
   subst hm hdel
   have hsl:sl = #[k0,k1,k2,k3,some (.builtin n),k5]:=by
    obtain⟨l⟩:=sl
    simp only at hs
    rw[hs]
   subst hsl
   exact⟨bm,ns,nm,qn,bs,hd,sn,sub,ab,col,dd,k0,k1,k2,k3,k5,_,X _ _ ho,.of_isNs (PySem.W.isNs_of_in X hok),PySem.W.nsMap_none_of_in X hok hni,PySem.W.tail_of_in X ht⟩
  ·cases q
 ·cases q
noncomputable def YB (z:Option aB)(c:aB):SF:=fun _=>if z=some c then some (.rt (rsD c)) else none
section
variable {X:Cx}{H0:Hp}{P0:aD->Prop}{n0:Nat}{z:Option aB}{c t:aB}{np tp cpos pos:cC}{j:Nat}
theorem Va (hz : ∀ c,z=some c->XOk X H0 c)(V:NL X.K c)(hc:X.calm=true)(hg:Gl X c)(hd:(c == ("__debug__" : aB))=false:=by decide):DS X H0 P0 n0 (.Raise (some (.Call (.Name c np) [.Constant (.str t) j tp] [] cpos)) none pos) (YB z c):=by
 intro pins s σ H D I ⟨B0,ρ,fp,o,S,ef,k⟩
 obtain⟨he,_⟩:=dS ef
 obtain⟨C,hC,hx⟩:=V
 have hm:=lE I.mod.kin I.mod.glob hC
 have hcv:iJ X.K c=some (.ref C):=by unfold iJ; rw[hC]; rfl
 obtain⟨tl,N,nm,q,bs,hdct,sn,sub,ab,col,dd,k0,k1,k2,k3,k5,mN,oC,oN,hni,T⟩:=Jn I.mod.kin hx
 refine wpAny_Raise_call_subT (C:=C) (nm:=nm) (q:=q) (N:=N) (bs:=bs) (bm:=tl) (hdct:=hdct) (sn:=sn) (sub:=sub) (ab:=ab) (col:=col) (dd:=dd) (k0:=k0) (k1:=k1) (k2:=k2) (k3:=k3) (k5:=k5)
  Zq (mN:=mN) (T.hasType Zq.hasBase) (I.ok.hd hc) rfl hni (vN I hg hm ⟨rfl,?_⟩ hd)
 refine Calls.evalArgs_plain ?_
 refine thn ((kS PL lX) cpos pins s σ H (fun vs H1=>vs.length=1/\H1=H) I ⟨rfl,rfl⟩) fun vs s2 gh=>?_
 obtain⟨vv,H1,I1,r,hl,e1⟩:=gh
 subst e1
 have hl2:vs.length=1:=by rw[← r.length]; exact hl
 exact⟨rfl,by show vs.length≤sizeLine; rw[hl2]; decide,I1.bk _ _ oC,oN.keeps I1.bk,T.keeps I1.bk,fun h' e m=>(hz c he).made hcv I1 S.ext m⟩
end
theorem XX {l:List eT}{H H':Hp}{h h1 h2 B:aU}(un:Un (frs l) [] H H' h h1)(hB : ∀ b u,h.get? b=some u->b∉frs l -> ∃ u',B.get? b=some u')(f1:B.StaysIn h1)(f2:B.StaysIn h2)(up:h1.UpToSlots h2)
  (fr : ∀ b∈frs l,∃ o,h1.get? b=some o /\ ∀ vs,o.data ≠ .fields vs):Un (frs l) [] H H' h h2:=by
 refine⟨fun b o e n hb he=>?_,fun b o e n hb he=>?_,un.free,fun b o e he=>?_,un.tups,un.frzs,un.tbls⟩
 ·obtain⟨u',z2⟩:=hB b o e hb
  exact f2 b o (DB f1 z2 (un.keep b o e n hb he) ▸ z2)
 ·obtain⟨sl,z⟩:=un.slot b o e n hb he
  obtain⟨o2,z2,nf⟩:=fr b hb
  obtain⟨sl2,z3⟩:=up b o2 z2 nf
  have:o2 = { o with slots:=sl }:=gU (z2.symm.trans z)
  exact⟨sl2,by rw[z3,this]⟩
 ·by_cases hb:b∈frs l
  ·obtain⟨o2,z2,nf⟩:=fr b hb
   obtain⟨sl2,z3⟩:=up b o2 z2 nf
   exact⟨_,z3⟩
  ·obtain⟨u',z2⟩:=hB b o e hb
   exact⟨u',f2 b u' z2⟩
theorem ZM {P:bS}{w:bB}{H':Hp}{h1 h2 B:aU}(hok:HOk P w H' h1)(hT : ∀ b o,H' b=some o -> ∃ u,B.get? b=some u)(f1:B.StaysIn h1)(f2:B.StaysIn h2):HOk P w H' h2:=fun a o e=>by
 refine(hok a o e).stay (fun b u hb q=>?_) (fun _ q=>q) fun _ _ q=>q
 have ht : ∃ o2,H' b=some o2:=by
  rcases hb with rfl | hb
  ·exact⟨o,e⟩
  ·exact⟨_,hb⟩
 obtain⟨o2,ht⟩:=ht
 obtain⟨u',z2⟩:=hT b o2 ht
 exact f2 b u (DB f1 z2 q ▸ z2)
noncomputable abbrev Cx.held (X:Cx)(e:aD):Cx:={ X with A:=X.A.mark (some (.ref e)),calm:=false,xe:=fun _ _=>False }
noncomputable abbrev Cx.tries (X:Cx)(pins:List (aD×aY))(E:aE->aG->Prop):Cx:={ X with xe:=E,pn:=X.pn++pins }
section
variable {X:Cx}{pins pins':List (aD×aY)}{σ:St}{H H1:Hp}{s s1:aG}{e:aD}{E:aE->aG->Prop}
theorem Inv.held (I:Inv X pins σ H s)(e:aD):Inv (X.held e) pins σ H s:=⟨⟨I.ok.mod,I.ok.kind,I.ok.glob,I.ok.blt,I.ok.above,I.ok.inj,I.ok.has,I.ok.cab,fun h=>Bool.noConfusion h,I.ok.frames,I.ok.stk,I.ok.exf,I.ok.bs,I.ok.bsz,I.ok.noex,I.ok.exfs,I.ok.funs,I.ok.frf⟩,I.os,I.bare,I.base,I.loc,I.cell,I.free,I.freeC,I.pin,I.hok,I.len⟩
theorem Inv.unheld (ok:X.Ok)(I:Inv (X.held e) pins σ H s):Inv X pins σ H s:=⟨ok,I.os,I.bare,I.base,I.loc,I.cell,I.free,I.freeC,I.pin,I.hok,I.len⟩
theorem Cx.Ok.tries (ok:X.Ok):(X.tries pins E).Ok:=⟨ok.mod,ok.kind,ok.glob,ok.blt,ok.above,ok.inj,ok.has,ok.cab,ok.hd,ok.frames,ok.stk,ok.exf,ok.bs,ok.bsz,ok.noex,ok.exfs,ok.funs,ok.frf⟩
theorem Inv.tries (I:Inv X pins σ H s):Inv (X.tries pins E) [] σ H s:=⟨I.ok.tries,I.os,I.bare,I.base,I.loc,I.cell,I.free,I.freeC,fun p hp=>I.pin p (by simpa using hp),I.hok,I.len⟩
theorem Inv.untries (ok:X.Ok)(I:Inv (X.tries pins E) pins' σ H s):Inv X pins σ H s:=⟨ok,I.os,I.bare,I.base,I.loc,I.cell,I.free,I.freeC,fun p hp=>I.pin p (tZ _ hp),I.hok,I.len⟩
def GM (X:Cx)(nm:Option aB)(pos:cC)(Q:Flow->aG->Prop)(E:aE->aG->Prop):Result->aG->Prop:=fun r s₂=>match r with
 | .ok f=>(match nm with
  | none=>Q f s₂
  | some n=>aN (aR X.prog X.w) X.A (do bindName X.env n .none; unbindBehindTheSuite X.env n pos) (fun _ s₃=>Q f s₃) E s₂)
 | .error x=>cameBackBy (aR X.prog X.w) X.A X.env E x s₂
theorem caught {C:XK}{T:aB}{CT:aE}{v:aE}{s':aG}{np pos:cC}{b₀:bR}{suite:List bR}{rest:List ExceptHandler}{nm:Option aB}{Q:Flow->aG->Prop}
  (I:Inv X pins σ H1 s1) (hst:X.stack=X.env::X.outer) (hfr:X.env.frame=some X.env.locals) (h:CXR X.base X.prog X.w X.stack H1 s1 C v s') (hg:Gl X T) (hm:X.mg T=some CT) (hd:(T == ("__debug__" : aB))=false)
  (hex : ∀ cls H',C cls none H'->FQ X.K cls CT=some true)
  (k : ∀ ea cls H' h5,C cls none H'->H' ea=none->s1.heap.get? ea=none ->
   (∀ {A':cE} {Q':Unit->aG->Prop} {E':aE->aG->Prop},(∀ h6,Inv (X.held ea) pins σ H' { s' with heap:=h6 }->BP ea cls h6->Q' () { s' with heap:=h6 })->aN (aR X.prog X.w) A' (setFlight (.ref ea) none) Q' E' { s' with heap:=h5 }) ->
   mD (aR X.prog X.w) (X.A.mark (some (.ref ea))) (.handlers (.ref ea) [.ExceptHandler none nm (b₀::suite) pos] X.env) (GM X nm pos Q E) { s' with heap:=h5 }) :
  aN (aR X.prog X.w) X.A (noteFrame v X.env) (fun _ s₂=>aN (aR X.prog X.w) X.A (setFlight v none) (fun _ s₃=>
   aN (aR X.prog X.w) X.A (handleBy v X.env (.ExceptHandler (some (.Name T np)) nm (b₀::suite) pos::rest)) Q E s₃) E s₂) E s':=by
 obtain⟨ea,cls,a0,H',B,rfl,os,bare,un,hok,hb,hB,hT,fl,q⟩:=h
 have fr : ∀ b∈frs X.stack,∃ o,s'.heap.get? b=some o /\ ∀ vs,o.data ≠ .fields vs:=fun b m=>(fl.2.2.1.mem m).2
 have fl':Heap.FlyingW B (X.env::X.outer) ea cls a0 s'.heap:=hst ▸ fl
 refine wpAny_looks_onW (base:=B) (env:=X.env) (outer:=X.outer) (L:=X.env.locals) (by rw[I.ok.frames,hst]) hfr fl' fun h4 held4 sm4=>?_
 refine wpAny_landsW held4 fun h5 fl5 sm5=>?_
 have I5:Inv X pins σ H' { s' with heap:=h5 }:=I.call' (ch:=[]) os (XX un hB fl.1 fl5.1 (sm4.trans sm5) fr) (ZM hok hT fl.1 fl5.1) bare (fun _ z=>nomatch z)
 refine wpAny_handleBy_cons (codeAny_handlers_test (vN (X:=X.held ea) (I5.held ea) hg hm ?_ hd)) (by intro q; cases q)
 obtain⟨ob,hob,hoc⟩:=fl5.there
 have LT:PySem.W.Looks (aR X.prog X.w) h5 (typeOf (.ref ea)) cls:=by
  subst hoc
  exact(PySem.W.Looks.ld hob).andThen .now
 refine(PySem.W.exm_one I5.kIn LT (hex cls H' q)).here ?_
 have hH:H' ea=none:=by
  cases z:H' ea with
  | none=>rfl
  | some o=>
   obtain⟨u,z2⟩:=hT ea o z
   rw[fl.2.1] at z2
   cases z2
 have hs1:s1.heap.get? ea=none:=by
  cases z:s1.heap.get? ea with
  | none=>rfl
  | some o=>
   by_cases m:ea∈frs X.stack
   ·obtain⟨o2,z2,nf⟩:=fr ea m
    obtain⟨oe,ws,hoe,hoec,hoed,_⟩:=fl.first
    rw[z2] at hoe
    cases hoe
    exact absurd hoed (nf ws)
   ·obtain⟨u,z2⟩:=hB ea o z m
    rw[fl.2.1] at z2
    cases z2
 refine k ea cls H' h5 q hH hs1 fun {A' Q' E'} kk=>?_
 refine lands_againW fl5 fun h6 fl6 sm6=>kk h6 ?_ ?_
 ·exact(I.call' (s':={ s' with heap:=h6 }) (ch:=[]) os (XX un hB fl.1 fl6.1 ((sm4.trans sm5).trans sm6) fr) (ZM hok hT fl.1 fl6.1) bare (fun _ z=>nomatch z)).held ea
 ·obtain⟨oe,ws,hoe,hoec,hoed,_⟩:=fl6.first
  exact⟨oe,hoe,hoec,ws,hoed⟩
end
section
variable {X:Cx}{pins:List (aD×aY)}{σ:St}{H H1:Hp}{s s1:aG}{E:aE->aG->Prop}{D:Ends}{f:Flow}{ea:aD}
theorem Yq (ok:X.Ok)(h:SP (X.held ea) pins D f s):SP X pins D f s:=by
 cases f with
 | next=>obtain⟨σ',H',I,q⟩:=h; exact⟨σ',H',I.unheld ok,q⟩
 | brk=>obtain⟨σ',H',I,q⟩:=h; exact⟨σ',H',I.unheld ok,q⟩
 | cont=>obtain⟨σ',H',I,q⟩:=h; exact⟨σ',H',I.unheld ok,q⟩
 | ret u=>obtain⟨v,σ',H',I,r,q⟩:=h; exact⟨v,σ',H',I.unheld ok,r,q⟩
theorem Pu (ok:X.Ok)(h:SP (X.tries pins E) [] D f s):SP X pins D f s:=by
 cases f with
 | next=>obtain⟨σ',H',I,q⟩:=h; exact⟨σ',H',I.untries ok,q⟩
 | brk=>obtain⟨σ',H',I,q⟩:=h; exact⟨σ',H',I.untries ok,q⟩
 | cont=>obtain⟨σ',H',I,q⟩:=h; exact⟨σ',H',I.untries ok,q⟩
 | ret u=>obtain⟨v,σ',H',I,r,q⟩:=h; exact⟨v,σ',H',I.untries ok,r,q⟩
theorem Kv {x:aB}{k n:Nat}{ps:List aB}{F:FX}{e:aW}{es:List aW}{fa:AF}{p pos:cC}{z:Option aB}{Q:VK}{P:aD->Prop}{ρ:List (Option aA)}{ds:List aA}{d:aA}(D:DefX X.prog X.w X.K X.mg X.base x k ps (spX X.K n F))(hr:Room k X.A)(hg:Gl X x)(ha:DA X (e::es) fa)
  (I:Inv X pins σ H s) (hP:Hid P H) (rs:Alx X.K (hid H P) ρ σ) (e1:fa ρ=some ds) (ef:F z ds=some d) (k':Res X.K P n d H Q)
  (hx : ∀ H1 s1 v s',Inv X pins σ H1 s1->Ext H H1->CXR X.base X.prog X.w X.stack H1 s1 (fun cls _ H'=>(∃ c,z=some c/\iJ X.K c=some cls)/\Ext H1 H') v s'->X.xe v s')
  (hdb:(x == ("__debug__" : aB))=false:=by decide) (he:bI (e::es) X.env=(false,bZ e X.env)::bI es X.env:=by rfl) (hpl:(eM pos (bI es X.env)).any (·.1)=false:=by rfl) :
  aN (aR X.prog X.w) X.A (bZ (.Call (.Name x p) (e::es) [] pos) X.env) (EP X pins σ Q) X.xe s:=by
 obtain⟨f,fd,Fk,hm,hk,hb⟩:=D.ex
 refine FG (vN I hg hm ?_ hdb)
 refine Ba (h₀:=X.base) I.ok.mod.kin hk (thn (ha pos pins s σ H (fun vs H1=>Ext H H1/\spX X.K n F vs H1 Q (fun cls _ H'=>(∃ c,z=some c/\iJ X.K c=some cls)/\Ext H1 H')) I ⟨P,ρ,ds,hP,rs,e1,fun vs H1 x1 r1=>⟨x1,P,ds,d,z,hP.ext x1,r1,ef,k'.mono x1,fun c hc cls H' e2 x2=>⟨⟨c,hc,e2⟩,x2⟩⟩⟩) fun us s1 ⟨vs,H1,I1,r,x1,q⟩=>⟨I1.kIn,?_⟩) he hpl
 have hl:us.length=ps.length:=by rw[← r.length]; exact Fk.len _ _ _ _ q
 have hbs:xQ s1 fd ⟨us,[]⟩ (ps.zip us):=by
  have:=hb s1 us I1.kIn (by simpa using hl)
  simpa using this
 refine wpAny_call (tR (Fk.run X.A X.stack s1 H1 ⟨us,[]⟩ us vs Q _ hr I1.env0 hbs r q) fun r s' hq=>?_)
 cases r with
 | error e=>exact hx H1 s1 e s' I1 x1 hq
 | ok fl=>
  cases fl with
  | ret u=>exact I1.after hq
  | next=>exact mZ hq
  | brk=>exact mZ hq
  | cont=>exact mZ hq
end
noncomputable def sC (c:aB):aA->Bool
 | .dict [(.none,.str c'),(.none,.bool true)]=>decide (c'=c)
 | _=>false
theorem Mz {c:aB}{d:aA}(h:sC c d=true):d=rsD c:=by
 unfold sC at h
 split at h
 ·rw[of_decide_eq_true h]; rfl
 ·cases h
theorem Kz (c:aB):sC c (rsD c)=true:=by simp[sC,rsD]
noncomputable def sD (c:aB)(F:FX)(fa:AF)(V:aA->SF)(G:SF):SF:=fun ρ=>(fa (vS ρ)).bind fun ds=>(F (some c) ds).bind fun d=>if sC c d=true then G ρ else(F none ds).bind fun d=>V d ρ
theorem Mw {c:aB}{F:FX}{fa:AF}{V:aA->SF}{G:SF}{ρ:bE}{ds:List aA}{d d2:aA}(h:fa (vS ρ)=some ds)(h1:F (some c) ds=some d)(hr:sC c d=false)(h2:F none ds=some d2):sD c F fa V G ρ=V d2 ρ:=by
 unfold sD
 rw[h,cH,h1,cH,if_neg (by rw[hr]; decide),h2,cH]
theorem Ht {c:aB}{F:FX}{fa:AF}{V:aA->SF}{G:SF}{ρ:bE}{ds:List aA}(h:fa (vS ρ)=some ds)(h1:F (some c) ds=some (rsD c)):sD c F fa V G ρ=G ρ:=by
 unfold sD
 rw[h,cH,h1,cH,if_pos (Kz c)]
section
variable {X:Cx}{H0:Hp}{P0:aD->Prop}{n0 k n:Nat}{x c T:aB}{ps:List aB}{F:FX}{e:aW}{es:List aW}{fa:AF}{p cpos np hpos pos:cC}{CT:aE}{st b₀:bR}{suite:List bR}{V:aA->SF}{G:SF}{nm:Option aB}{W:TE->TS}
structure TryC (X:Cx)(c T:aB)(CT:aE):Prop where
 st:X.stack=X.env::X.outer
 fr:X.env.frame=some X.env.locals
 ex:X.ex=[]
 gl:Gl X T
 mt:X.mg T=some CT
 db:(T == ("__debug__" : aB))=false
 mc : ∀ cls,iJ X.K c=some cls->FQ X.K cls CT=some true
def CallAt (X:Cx)(ce:aW)(n:Nat)(F:FX)(fa:AF):Prop:=∀ {pins:List (aD×aY)} {σ:St} {H:Hp} {s:aG} {z:Option aB} {Q:VK} {P:aD->Prop} {ρ:List (Option aA)} {ds:List aA} {d:aA},Inv X pins σ H s->Hid P H->Alx X.K (hid H P) ρ σ->fa ρ=some ds->F z ds=some d->Res X.K P n d H Q ->
  (∀ H1 s1 v s',Inv X pins σ H1 s1->Ext H H1->CXR X.base X.prog X.w X.stack H1 s1 (fun cls _ H'=>(∃ c,z=some c/\iJ X.K c=some cls)/\Ext H1 H') v s'->X.xe v s') ->
  aN (aR X.prog X.w) X.A (bZ ce X.env) (EP X pins σ Q) X.xe s
theorem Pq (D:DefX X.prog X.w X.K X.mg X.base x k ps (spX X.K n F))(hr:Room k X.A)(hg:Gl X x)(ha : ∀ pins E,DA (X.tries pins E) (e::es) fa)
  (hdb:(x == ("__debug__" : aB))=false:=by decide) (he:bI (e::es) X.env=(false,bZ e X.env)::bI es X.env:=by rfl) (hpl:(eM cpos (bI es X.env)).any (·.1)=false:=by rfl) : ∀ pins E,CallAt (X.tries pins E) (.Call (.Name x p) (e::es) [] cpos) n F fa:=by
 intro pins E pins' σ H s z Q P ρ ds d I hP rs e1 ef k' hx
 exact Kv (X:=X.tries pins E) D hr hg (ha pins E) I hP rs e1 ef k' hx hdb he hpl
theorem Uu {ce:aW}(t:TryC X c T CT)(hcall : ∀ pins E,CallAt (X.tries pins E) ce n F fa)
  (hW : ∀ (pins:List (aD×aY)) (E:aE->aG->Prop) (te:TE),PE (X.tries pins E) ce te->PS (X.tries pins E) st (W te))
  (hV : ∀ {B0 ρ fp o D σ H d},Sta X.K H0 P0 B0 ρ σ H fp->V d ρ=some o->EW X.K H0 P0 B0 n0 D o -> ∀ te:TE,(∀ Q,(∀ v H',Tmp X.K H0 P0 B0 ρ σ n d v H'->Q v H')->te σ H Q)->W te D σ H)
  (hW2 : ∀ te:TE,∀ D σ H,(∀ Q,te σ H Q)->W te D σ H)
  (hs : ∀ (pins:List (aD×aY)) (s1:aG) (σ:St) (H1:Hp) (ea:aD) (cls:aE) (H':Hp) (h5:aU) (s':aG) (D:Ends) (B0:Hp) (ρ:bE) (fp:Nat->List aD) (o:Out),Inv X pins σ H1 s1->iJ X.K c=some cls->Ext H1 H'->H' ea=none->s1.heap.get? ea=none ->
   (∀ {A':cE} {Q':Unit->aG->Prop} {E':aE->aG->Prop},(∀ h6,Inv (X.held ea) pins σ H' { s' with heap:=h6 }->BP ea cls h6->Q' () { s' with heap:=h6 })->aN (aR X.prog X.w) A' (setFlight (.ref ea) none) Q' E' { s' with heap:=h5 }) ->
   Sta X.K H0 P0 B0 ρ σ H1 fp->G ρ=some o->EW X.K H0 P0 B0 n0 D o ->
   mD (aR X.prog X.w) (X.A.mark (some (.ref ea))) (.handlers (.ref ea) [.ExceptHandler none nm (b₀::suite) hpos] X.env) (GM X nm hpos (SP X pins D) X.xe) { s' with heap:=h5 }) :
  DS X H0 P0 n0 (.Try [st] [.ExceptHandler (some (.Name T np)) nm (b₀::suite) hpos] [] [] pos) (sD c F fa V G):=by
 intro pins s σ H D' I ⟨B0,ρ,fp,o,S,ef,k'⟩
 obtain⟨ds,e1,ef⟩:=XBs ef
 obtain⟨d,e2,ef⟩:=XBs ef
 refine wpAny_Try_except ?_
 have fin : ∀ Ex:aE->aG->Prop,(∀ te:TE,(∀ Q,te σ H Q = ∀ pins' s',Inv (X.tries pins Ex) pins' σ H s'->aN (aR X.prog X.w) X.A (bZ ce X.env) (EP (X.tries pins Ex) pins' σ Q) Ex s')->W te D' σ H) ->
   aN (aR X.prog X.w) X.A (execs [st] X.env) (fun f s₁=>match f with | .next=>aN (aR X.prog X.w) X.A (execs [] X.env) (SP X pins D') X.xe s₁ | f=>SP X pins D' f s₁) Ex s:=fun Ex w=>by
  have hp:=ZF (hW pins Ex (fun σ' H' Q'=>∀ pins' s',Inv (X.tries pins Ex) pins' σ' H' s'->aN (aR X.prog X.w) X.A (bZ ce X.env) (EP (X.tries pins Ex) pins' σ' Q') Ex s') (fun pins' s' σ' H' Q' I' h=>h pins' s' I')) [] s σ H D' I.tries (w _ fun _=>rfl)
  refine thn hp fun f s₁ h=>?_
  have h2:=Pu I.ok h
  cases f with
  | next=>
   obtain⟨σ',H',I',q⟩:=h2
   exact ZJ pins s₁ σ' H' D' I' q
  | brk=>exact h2
  | cont=>exact h2
  | ret u=>exact h2
 by_cases hR:sC c d=true
 ·rw[if_pos hR] at ef
  have hd:=Mz hR
  subst hd
  refine fin _ fun te hte=>hW2 te _ _ _ fun Q=>?_
  rw[hte]
  intro pins' s' I'
  refine hcall pins _ I' S.hid S.viewS e1 e2 (fun v H' Fr _ _ _ r=>(Gk r).elim) (fun H1 s1 v s'' I1 x1 hc=>?_)
  refine caught (X:=X) (I1.untries I.ok) t.st t.fr hc t.gl t.mt t.db (fun cls H' z=>?_) fun ea cls H' h5 z hH hs1 ld=>?_
  ·obtain⟨⟨c',z1,z2⟩,_⟩:=z
   cases z1
   exact t.mc cls z2
  ·obtain⟨⟨c',z1,z2⟩,z3⟩:=z
   cases z1
   exact hs pins s1 σ H1 ea cls H' h5 s'' D' B0 ρ fp o (I1.untries I.ok) z2 z3 hH hs1 ld (S.grow x1) ef k'
 ·rw[if_neg hR] at ef
  obtain⟨d2,e3,ef⟩:=XBs ef
  refine fin _ fun te hte=>hV S ef k' te fun Q hQ=>?_
  rw[hte]
  intro pins' s' I'
  have efv:eV n .s (aL (F none) fa) ρ=some d2:=by
   show(fa (vS ρ)).bind (fun ds=>F none ds)=some d2
   rw[e1]
   exact e3
  obtain⟨P,ρ',d',hP,rs,ef2,kk⟩:=BR .s σ H Q ⟨B0,ρ,fp,d2,S,efv,hQ⟩
  obtain⟨ds2,g1,g2⟩:=XBs ef2
  exact hcall pins _ (z:=none) I' hP rs g1 g2 kk (fun H1 s1 v s'' I1 x1 hc=>by
   obtain⟨_,_,_,_,_,_,_,_,_,_,_,_,_,_,⟨c',z,_⟩,_⟩:=hc
   cases z)
variable {y:aB}{py apos:cC}{i:Nat}
noncomputable def NO (i n:Nat):aA->SF:=fun d ρ=>if i<ρ.length then some (.nx (ρ.set i (some (n,d)))) else none
theorem Jh (hG : ∀ ea,DSs (X.held ea) H0 P0 n0 (b₀::suite) G) : ∀ (pins:List (aD×aY)) (s1:aG) (σ:St) (H1:Hp) (ea:aD) (cls:aE) (H':Hp) (h5:aU) (s':aG) (D:Ends) (B0:Hp) (ρ:bE) (fp:Nat->List aD) (o:Out),Inv X pins σ H1 s1->iJ X.K c=some cls->Ext H1 H'->H' ea=none->s1.heap.get? ea=none ->
   (∀ {A':cE} {Q':Unit->aG->Prop} {E':aE->aG->Prop},(∀ h6,Inv (X.held ea) pins σ H' { s' with heap:=h6 }->BP ea cls h6->Q' () { s' with heap:=h6 })->aN (aR X.prog X.w) A' (setFlight (.ref ea) none) Q' E' { s' with heap:=h5 }) ->
   Sta X.K H0 P0 B0 ρ σ H1 fp->G ρ=some o->EW X.K H0 P0 B0 n0 D o ->
   mD (aR X.prog X.w) (X.A.mark (some (.ref ea))) (.handlers (.ref ea) [.ExceptHandler none none (b₀::suite) hpos] X.env) (GM X none hpos (SP X pins D) X.xe) { s' with heap:=h5 }:=fun pins s1 σ H1 ea cls H' h5 s' D B0 ρ fp o I hc x hH hs1 ld S ef k=>
 codeAny_handlers_suite (ld fun h6 I6 x6=>kW (hG ea pins _ σ H' D I6 ⟨B0,ρ,fp,o,S.grow x,ef,k⟩) (fun f s2 h=>Yq I.ok h) (fun _ _ z=>z.elim))
theorem Yw (t:TryC X c T CT)(D:DefX X.prog X.w X.K X.mg X.base x k ps (spX X.K n F))(hr:Room k X.A)(hg:Gl X x)(ha : ∀ pins E,DA (X.tries pins E) (e::es) fa)(hN:X.N.Nodup)(hi:X.N[i]?=some y)(hx:nV X.env.scope y)(hG : ∀ ea,DSs (X.held ea) H0 P0 n0 (b₀::suite) G)
  (hsw:pT (.Call (.Name x p) (e::es) [] cpos) (some (.Name y py)) apos.line X.env=pure false:=by rfl) (hf:X.fn y=true \/ X.env.scope.names.lookup y=some .local:=by first | exact .inl rfl | exact .inr rfl | assumption)
  (hdb:(x == ("__debug__" : aB))=false:=by decide) (he:bI (e::es) X.env=(false,bZ e X.env)::bI es X.env:=by rfl) (hpl:(eM cpos (bI es X.env)).any (·.1)=false:=by rfl) :
  DS X H0 P0 n0 (.Try [.Assign [.Name y py] (.Call (.Name x p) (e::es) [] cpos) apos] [.ExceptHandler (some (.Name T np)) none (b₀::suite) hpos] [] [] pos) (sD c F fa (NO i n) G):=
 Uu (W:=fun te=>BS te (EX i)) t (Pq D hr hg ha hdb he hpl) (fun pins E te h=>PQ (X:=X.tries pins E) hN hi hx h hsw hf) (fun {B0 ρ fp o D σ H d} S ef k te hq=>hq _ fun v H' tm=>by
  obtain⟨hl,rfl⟩:=dS ef
  obtain⟨fp',S'⟩:=tm.set hl
  exact k _ _ fp' S') (fun te D σ H h=>h _) (Jh hG)
end
open PySem PySem.Spec PySem.Calls PyProof.Rows PySem.W PySem.Builtin PySem.Builtin.ObjectAttr PySem.Builtin.Getset_descriptor
section
variable {prog:bS}{w:bB}{A:cE}{E:aE->aG->Prop}{h:aU}{g:Array xO}{d:Drawn}{t:Nat}{os:OsState}{K:Frag}{x C:aD}{ox:aY}{vs:Array aE}
structure XCls (K:Frag)(C:aD):Prop where
 ga:findIn K (.ref C) "__getattribute__" = some (some (.builtin "BaseException.__getattribute__"))
 gh:findIn K (.ref C) "__getattr__" = some none
 cl:findIn K (.ref C) "__class__" = some (some (.builtin "object.__class__"))
 mo:mroIn K C (.type "object")=some true
 mb:mroIn K C (.type "BaseException")=some true
 ic:hasDictIn K C=true
end
def ExM (K:aK)(mg:aB->Option aE)(c T:aB):Prop:=∃ C D,dE K cK c=some (some (.ref C))/\mg T=some (.ref D)/\FQ K (.ref C) (.ref D)=some true
theorem QD {K:aK}{c:aB}{v:aE}(h:dE K cK c=some (some v)):iJ K c=some v:=by unfold iJ; rw[h]; rfl
section
variable {X:Cx}{c T:aB}
theorem Dt (m:ExM X.K X.mg c T)(st:X.stack=X.env::X.outer)(fr:X.env.frame=some X.env.locals)(ex:X.ex=[])(gl:Gl X T)(db:(T == ("__debug__" : aB))=false):TryC X c T ((X.mg T).getD .none):=by
 obtain⟨C,D,h1,h2,h3⟩:=id m
 refine⟨st,fr,ex,gl,?_,db,fun cls hc=>?_⟩
 ·show X.mg T=some ((X.mg T).getD .none)
  rw[h2]; rfl
 ·rw[QD h1] at hc
  cases hc
  show FQ X.K (.ref C) ((X.mg T).getD .none)=some true
  rw[h2]; exact h3
variable {e:aW}{f:EF}{p p2 pos:cC}{b:Bool}
end
noncomputable def fnV (c:aB):aA:=.dict [(.none,.str c),(.none,.bool false)]
def zX (K:aK)(c:aB):Prop:=∃ f,dE K cK c=some (some (.ref f))
theorem Ge {K:aK}{H:Hp}{v:V}{c:aB}(h:Ab4 K H (fnV c) v) : ∃ a,v = .ref a/\iJ K c=some (.ref a):=by
 obtain⟨a,e,⟨kvs,_,r⟩ | ⟨ts,_,r⟩ | ⟨xs,h,r⟩ | r⟩:=Acd.mp h
 ·obtain⟨k',_,_,_,ek,_⟩:=Abn.mp r
  exact(Ad ek).elim
 ·obtain⟨_,_,_,_,⟨z,_⟩,_⟩:=Ac0.mp (Ael.mp r).2
  cases z
 ·obtain⟨es,z,_⟩:=yU r
  cases z
 ·rcases r with⟨c',cls,z,h1,h2⟩ | ⟨c',z,h1⟩
  ·cases z
  ·cases z
   exact⟨a,e,h1⟩
theorem My {K:aK}{c:aB}{v:aE}(h:iJ K c=some v):dE K cK c=some (some v):=by
 unfold iJ at h
 cases e:dE K cK c with
 | none=>rw[e] at h; cases h
 | some o=>rw[e] at h; exact congrArg some h
noncomputable def isFn (i:Nat)(c:aB)(ρ:List (Option aA)):Bool:=match aC i ρ with
 | some (.dict [(.none,.str c'),(.none,.bool false)])=>decide (c'=c)
 | _=>false
theorem Mx {i:Nat}{c:aB}{ρ:List (Option aA)}(h:isFn i c ρ=true):ρ[i]?=some (some (fnV c)):=by
 unfold isFn at h
 split at h
 ·rename_i c' e
  rw[JU e,of_decide_eq_true h]; rfl
 ·cases h
noncomputable def aFn (i:Nat)(c:aB)(fa:AF):AF:=fun ρ=>if isFn i c ρ=true then fa ρ else none
section
variable {X:Cx}{c y:aB}{p pos:cC}{i n:Nat}{e:aW}{es:List aW}{fa:AF}{k n0:Nat}{ps:List aB}
theorem HJ (h:zX X.K c)(hg:Gl X c)(hd:(c == ("__debug__" : aB))=false:=by decide):DE X (.Name c p) (eC (fnV c)):=by
 obtain⟨f,h⟩:=h
 intro pins s σ H Q I ⟨P,ρ,d,hP,rs,ef,k⟩
 cases ef
 exact vN I hg (lE I.mod.kin I.mod.glob h) ⟨.ref f,H,I,rfl,k.zero Ext.refl (Acd.mpr ⟨f,rfl,.inr (.inr (.inr (.inr ⟨c,rfl,QD h⟩)))⟩)⟩ hd
theorem Ee {pins:List (aD×aY)}{σ:St}{H:Hp}{s:aG}{P:aD->Prop}{ρ:List (Option aA)}{f:aD}{Q:aE->aG->Prop}(hN:X.N[i]?=some y)(hv:nU X.env.scope y)(hd:(y == ("__debug__" : aB))=false)(hcd:(y == ("__classdict__" : aB))=false)(hm:X.mg c=some (.ref f))
  (I:Inv X pins σ H s) (rs:Alx X.K (hid H P) ρ σ) (e:ρ[i]?=some (some (fnV c))) (q : ∀ s',Inv X pins σ H s'->Q (.ref f) s'):aN (aR X.prog X.w) X.A (bZ (.Name y p) X.env) Q X.xe s:=by
 obtain⟨v,h1,h2⟩:=rs i _ e
 obtain⟨a,rfl,h3⟩:=Ge h2
 have hf:a=f:=by
  have:=lE I.mod.kin I.mod.glob (My h3)
  rw[hm] at this
  cases this
  rfl
 subst hf
 exact thn (sN (pos:=p) hN hv hd hcd pins s σ H (fun v H'=>v = .ref a/\H'=H) I ⟨_,h1,rfl,rfl⟩) fun u s' gh=>by
  obtain⟨v,H',I',r,e1,e2⟩:=gh
  subst e1; subst e2
  cases r
  exact q s' I'
theorem HZ {F:List aA->Option aA}(hN:X.N[i]?=some y)(hv:nU X.env.scope y)(D:Def X.prog X.w X.K X.mg X.base c k ps (spF X.K n0 F))(hr:Room k X.A)(ha:DA X (e::es) fa)(hd:(y == ("__debug__" : aB))=false:=by decide)(hcd:(y == ("__classdict__" : aB))=false:=by decide)(he:bI (e::es) X.env=(false,bZ e X.env)::bI es X.env:=by rfl)
  (hpl:(eM pos (bI es X.env)).any (·.1)=false:=by rfl):DF n0 X (.Call (.Name y p) (e::es) [] pos) (aL F (aFn i c fa)):=by
 intro pins s σ H Q I ⟨P,ρ,d,hP,rs,ef,kk⟩
 obtain⟨ds,e1,ef⟩:=XBs ef
 obtain⟨hi,e1⟩:=ZA e1
 obtain⟨f,fd,Fk,hm,hk,hb⟩:=D.ex
 refine FG (Ee hN hv hd hcd hm I rs (Mx hi) fun s' I'=>?_)
 refine Ba (h₀:=X.base) I.ok.mod.kin hk (thn (ha pos pins s' σ H (fun vs H1=>spF X.K n0 F (vs++[]) H1 Q E0) I' ⟨P,ρ,ds,hP,rs,e1,fun vs H1 x1 r1=>?_⟩) fun us s1 ⟨vs,H1,I1,r,q⟩=>⟨I1.kIn,?_⟩) he hpl
 ·show spF X.K n0 F (vs++[]) H1 Q E0
  rw[rS]
  exact⟨P,ds,d,hP.ext x1,r1,ef,kk.mono x1⟩
 ·exact YG Fk hr hb .nil OC I1 r q
end
section
variable {X:Cx}{a e:aW}{f g:EF}{apos cpos:cC}
theorem Nl:MtR X "str.startswith" (fun x vs H Q=>∃ z y,x = .str z/\vs=[.str y]/\Q (.bl (LZ z y)) H):=by
 intro pins s σ H x xs v us Q I rx rv h
 obtain⟨z,y,rfl,rfl,q⟩:=h
 obtain⟨t,rfl⟩:=rx
 obtain⟨u,rfl,t',rfl⟩:=vals1 rv
 exact SC.startswith ⟨.bl _,H,I,rfl,q⟩
theorem WJ : ∀ l:List (aB×Tok),Vals ((l.map (·.1)).map V.str) (strValues l)
 | []=>.nil
 | (x,t)::l=>.cons ⟨t,rfl⟩ (WJ l)
theorem Uh:MtR X "str.split" (fun x vs H Q=>∃ z y,x = .str z/\vs=[.str y]/\(y.length == 0)=false/\z.length+2≤sizeLine /\ ∀ l,H l=none->Q (.ref l) (upd H l (.lst ((lC z y).map V.str)))):=by
 intro pins s σ H x xs v us Q I rx rv h
 obtain⟨x,y,rfl,rfl,hy,hsz,q⟩:=h
 obtain⟨t,rfl⟩:=rx
 obtain⟨_,rfl,u,rfl⟩:=vals1 rv
 have hn:(Ck x (iS x y 0 x.length (x.length+1)) y.length).length≤sizeLine:=by
  have e1:=StrLaws.occ_length_le x y 0 x.length (x.length+1)
  rw[length_partsBetween]; omega
 have fin : ∀ (l:List (aB×Tok)) (k:Nat),l.map (·.1)=lC x y->l.length≤sizeLine->EP X pins σ Q (.ref s.heap.objs.size) { s with toks:=k,heap:=s.heap.push { cls:=.type "list",data:=.seq (strValues l).toArray } }:=fun l k e hl=>
  ⟨.ref s.heap.objs.size,_,I.laid (t':=k) (fun b o hb=>cP _ hb) (bU _) (show Ac4 X.prog X.w _ _ _ (.lst ((lC x y).map V.str)) from⟨by rw[← e]; simpa using hl,strValues l,0,by rw[← e]; exact WJ l,eP _ rfl⟩),rfl,q _ (I.hok.fresh (bU _))⟩
 cases h1:(decide (x.length<y.length)||decide (MX x<MX y))
 ·cases hf:(iS x y 0 x.length (x.length+1)).isEmpty
  ·refine FM Cf (wY _ _ _) Ci (Cj _ _) (meets_str_split_sep x y t u h1 hy hf (by omega) hn) ?_
   show wants _ _ _ { s with toks:=_,heap:=s.heap.push { cls:=.type "list",data:=.seq (strsFrom s.toks (Ck x (iS x y 0 x.length (x.length+1)) y.length)).toArray } }
   rw[strsFrom_eq]
   have ht:=numbered_texts s.toks (Ck x (iS x y 0 x.length (x.length+1)) y.length)
   refine fin (numbered s.toks _) _ (ht.trans ((if_neg (ne_true_of_eq_false h1)).trans (if_neg (ne_true_of_eq_false hf))).symm) ?_
   have:=congrArg xK ht
   rw[cX] at this
   rw[this]
   exact hn
  ·exact FM Cf (wY _ _ _) Ci (Cj _ _) (meets_str_split_not_found x y t u h1 hy hf)
    (fin [(x,t)] s.toks ((if_neg (ne_true_of_eq_false h1)).trans (if_pos hf)).symm (by show 1≤sizeLine; decide))
 ·exact FM Cf (wY _ _ _) Ci (Cj _ _) (meets_str_split_cannot_occur x y t u h1)
   (fin [(x,t)] s.toks (if_pos h1).symm (by show 1≤sizeLine; decide))
theorem TM {sep:aB} : ∀ {ys:List aB},cD (.str (cU sep ys))=true -> ∀ b∈ys,cD (.str b)=true
 | [],_,b,m=>by cases m
 | [x],h,b,m=>by
  have e:cU sep [x]=x:=by simp[cU]
  rw[e] at h
  rcases cN.mp m with rfl | m
  ·exact h
  ·cases m
 | x::y::r,h,b,m=>by
  have e:cU sep (x::y::r)=x++sep++cU sep (y::r):=by
   rw[cU]
   intro z; cases z
  rw[e] at h
  have e2:(x++sep++cU sep (y::r)).cps=x.cps++sep.cps++(cU sep (y::r)).cps:=rfl
  simp only[cD,tV] at h
  rw[e2,Cs,Cs] at h
  simp only[jI] at h
  rcases cN.mp m with rfl | m
  ·exact h.1.1
  ·exact TM (sep:=sep) h.2 b m
theorem Yb {x sep:aB}(h:cD (.str x)=true) : ∀ b∈lC x sep,cD (.str b)=true:=
 TM (sep:=sep) (by rw[Aq]; exact h)
noncomputable def CG:aA->aA->Option aA
 | .str x,.str y=>some (.bool (LZ x y))
 | _,_=>none
theorem Wx (ho:DE X a f)(he:DE X e g)(hbase:xF a "startswith" X.env (bZ a X.env)=bZ a X.env:=by rfl)
  (hfew:((eM cpos (bI (e::[]) X.env)).all (fun x=>!x.1)&&(xE cpos (xB [] X.env)).all (fun x=>x.1.isSome)
   && decide ((e::[]).length+([]:List mF).length+(if ([]:List mF).isEmpty then 0 else 1)<30))=true:=by rfl)
  (hline:(apos.endLine == cpos.line)=true:=by rfl) (hs:bI (e::[]) X.env=(false,bZ e X.env)::bI [] X.env:=by rfl) (hplain:(eM cpos (bI [] X.env)).any (·.1)=false:=by rfl):DE X (.Call (.Attribute a "startswith" apos) [e] [] cpos) (eOp CG f g):=
 PE.imp (uP MD PySem.F.slot_str_startswith PySem.F.type_str_startswith Nl ho (kS he lX hs) hbase hfew hline hs hplain) fun σ H Q gh=>by
  obtain⟨P,ρ,d,hP,rs,ef,k⟩:=gh
  obtain⟨d1,e1,ef2⟩:=XBs ef
  obtain⟨d2,e2,ef3⟩:=XBs ef2
  clear ef ef2
  unfold CG at ef3
  split at ef3
  ·cases ef3
   refine⟨P,ρ,_,hP,rs,e1,dB fun v H1 x1 r1=>⟨by rw[(Aap.mp r1).1]; rfl,P,ρ,_,hP.ext x1,rs.ext (cW x1),e2,dB fun u H2 x2 r2=>?_⟩⟩
   exact⟨_,_,(Aap.mp r1).1,by rw[(Aap.mp r2).1],k.zero (x1.trans x2) (Aas.mpr rfl)⟩
  ·cases ef3
noncomputable def jM:aA->aA->Option aA
 | .str x,.str y=>if (y.length == 0)=false/\x.length+2≤sizeLine then some (.list ((lC x y).map .str)) else none
 | _,_=>none
theorem JT {K:aK}{H:Hp} : ∀ {ys:List aB},(∀ b∈ys,cD (.str b)=true)->Aaw K H (ys.map .str) (ys.map V.str)
 | [],_=>Aax.mpr rfl
 | y::r,h=>Aao.mpr ⟨_,_,rfl,Aap.mpr ⟨rfl,h y bQ⟩,JT fun b m=>h b (cA _ m)⟩
theorem CW (ho:DE X a f)(he:DE X e g)(hbase:xF a "split" X.env (bZ a X.env)=bZ a X.env:=by rfl)
  (hfew:((eM cpos (bI (e::[]) X.env)).all (fun x=>!x.1)&&(xE cpos (xB [] X.env)).all (fun x=>x.1.isSome)
   && decide ((e::[]).length+([]:List mF).length+(if ([]:List mF).isEmpty then 0 else 1)<30))=true:=by rfl)
  (hline:(apos.endLine == cpos.line)=true:=by rfl) (hs:bI (e::[]) X.env=(false,bZ e X.env)::bI [] X.env:=by rfl) (hplain:(eM cpos (bI [] X.env)).any (·.1)=false:=by rfl):DF 1 X (.Call (.Attribute a "split" apos) [e] [] cpos) (eOp jM f g):=
 PE.imp (uP MD PySem.F.slot_str_split PySem.F.type_str_split Uh ho (kS he lX hs) hbase hfew hline hs hplain) fun σ H Q gh=>by
  obtain⟨P,ρ,d,hP,rs,ef,k⟩:=gh
  obtain⟨d1,e1,ef2⟩:=XBs ef
  obtain⟨d2,e2,ef3⟩:=XBs ef2
  clear ef ef2
  unfold jM at ef3
  split at ef3
  ·obtain⟨hc,rfl⟩:=dS ef3
   refine⟨P,ρ,_,hP,rs,e1,dB fun v H1 x1 r1=>⟨by rw[(Aap.mp r1).1]; rfl,P,ρ,_,hP.ext x1,rs.ext (cW x1),e2,dB fun u H2 x2 r2=>?_⟩⟩
   exact⟨_,_,(Aap.mp r1).1,by rw[(Aap.mp r2).1],hc.1,hc.2,fun l hl=>(k.mono (x1.trans x2)).lst (hP.ext (x1.trans x2)) hl (JT (Yb (Aap.mp r1).2))⟩
  ·cases ef3
theorem Xm:Aeq X (.type "int") (fun xs H Q=>∃ x n,xs=[.str x]/\FP x=some n/\x.length≤640/\Q (.int n) H):=by
 intro pins s σ H xs us Q I r h
 obtain⟨x,n,rfl,hn,hl,q⟩:=h
 obtain⟨u,rfl,t,rfl⟩:=vals1 r
 exact PySem.W.KIN.call_text hn hl ⟨.int n,H,I.tok _,⟨_,rfl⟩,q⟩
noncomputable def GZ:List aA->Option aA
 | [.str x]=>if x.length≤640 then(FP x).map .int else none
 | _=>none
theorem Pp {K:aK}:CallD K 0 (fun xs H Q=>∃ x n,xs=[.str x]/\FP x=some n/\x.length≤640/\Q (.int n) H) GZ:=fun P H xs ds d Q hP r e k=>by
 unfold GZ at e
 split at e
 ·obtain⟨hc,e⟩:=ZA e
  obtain⟨n,hn,rfl⟩:=lG.mp e
  obtain⟨v,rfl,r'⟩:=jH r
  exact⟨_,_,by rw[(Aap.mp r').1],hn,hc,k.zero Ext.refl (Aau.mpr rfl)⟩
 ·cases e
end
section
variable {X:Cx}{a e e2:aW}{f g h:EF}{apos cpos:cC}
theorem Wz:Aeq X (.type "str") (fun xs H Q=>(∃ i,xs=[.int i]/\i.natAbs.log2<1920/\Q (.str (toString i)) H) \/ ∃ x,xs=[.str x]/\Q (.str x) H):=by
 intro pins s σ H xs us Q I r h
 rcases h with h | ⟨x,rfl,q⟩
 ·exact Rt pins s σ H xs us Q I r h
 ·obtain⟨u,rfl,t,rfl⟩:=vals1 r
  exact PySem.P.str_of_str ⟨.str x,H,I,⟨_,rfl⟩,q⟩
noncomputable def AA:List aA->Option aA
 | [.str x]=>some (.str x)
 | ds=>HA ds
theorem On {K:aK}:CallD K 0 (fun xs H Q=>(∃ i,xs=[.int i]/\i.natAbs.log2<1920/\Q (.str (toString i)) H) \/ ∃ x,xs=[.str x]/\Q (.str x) H) AA:=fun P H xs ds d Q hP r e k=>by
 unfold AA at e
 split at e
 ·cases e
  obtain⟨v,rfl,r'⟩:=jH r
  obtain⟨rfl,hl⟩:=Aap.mp r'
  exact .inr ⟨_,rfl,k.zero Ext.refl r'⟩
 ·exact .inl (Oi P H xs ds d Q hP r e k)
end
section
variable {X:Cx}{a e:aW}{f g:EF}{apos cpos:cC}
noncomputable abbrev part3 (z y:aB):List aB:=[(nO z y).1,(nO z y).2.1,(nO z y).2.2]
theorem Lf:MtR X "str.partition" (fun x vs H Q=>∃ z y,x = .str z/\vs=[.str y]/\(y.length == 0)=false/\z.length≤sizeLine /\ ∀ l,H l=none->Q (.ref l) (upd H l (.tup ((part3 z y).map V.str)))):=by
 intro pins s σ H x xs v us Q I rx rv h
 obtain⟨x,y,rfl,rfl,hy,hsz,q⟩:=h
 obtain⟨t,rfl⟩:=rx
 obtain⟨_,rfl,u,rfl⟩:=vals1 rv
 have fin : ∀ (ta tb tc:Tok) (k:Nat),EP X pins σ Q (.ref s.heap.objs.size) { s with toks:=k,heap:=s.heap.push { cls:=.type "tuple",data:=.seq [.str (nO x y).1 ta,.str (nO x y).2.1 tb,.str (nO x y).2.2 tc].toArray } }:=fun ta tb tc k=>
  ⟨.ref s.heap.objs.size,_,I.laid (t':=k) (fun b o hb=>cP _ hb) (bU _) (show Ac4 X.prog X.w _ _ _ (.tup ((part3 x y).map V.str)) from⟨by show 3≤sizeLine; decide,_,.cons ⟨ta,rfl⟩ (.cons ⟨tb,rfl⟩ (.cons ⟨tc,rfl⟩ .nil)),Bcr.new _ _⟩),rfl,q _ (I.hok.fresh (bU _))⟩
 refine FM F.slot_str_partition (wY _ _ _) F.entry_str_partition (F.args_str_partition_2 _ _) (meets_str_partition x y t u hy hsz) ?_
 have h':=fin
 unfold nO at h'
 revert h'
 cases iS x y 0 x.length 1 with
 | nil=>intro h'; exact h' _ _ _ _
 | cons i r=>intro h'; exact h' _ _ _ _
theorem ZN {x:aB}(h:cD (.str x)=true)(i j:Nat):cD (.str (rW x i j))=true:=by
 simp only[cD,tV] at h ⊢
 show(x.cps.extract i j).all _=true
 rw[Cr] at h ⊢
 intro c m
 refine h c ?_
 rw[Array.mem_def] at m ⊢
 rw[Array.toList_extract] at m
 simp only[List.extract] at m
 exact MM (FZ m)
theorem Ua {x y:aB}(hx:cD (.str x)=true)(hy:cD (.str y)=true) : ∀ b∈part3 x y,cD (.str b)=true:=fun b m=>by
 have he:cD (.str Str.empty)=true:=by decide +kernel
 unfold part3 nO at m
 split at m
 ·simp only[cN,Bq,or_false] at m
  rcases m with rfl | rfl | rfl
  ·exact ZN hx _ _
  ·exact hy
  ·exact ZN hx _ _
 ·simp only[cN,Bq,or_false] at m
  rcases m with rfl | rfl | rfl
  ·exact hx
  ·exact he
  ·exact he
noncomputable def AC:aA->aA->Option aA
 | .str x,.str y=>if (y.length == 0)=false/\x.length≤sizeLine then some (.tuple ((part3 x y).map .str)) else none
 | _,_=>none
theorem Lv (ho:DE X a f)(he:DE X e g)(hbase:xF a "partition" X.env (bZ a X.env)=bZ a X.env:=by rfl)
  (hfew:((eM cpos (bI (e::[]) X.env)).all (fun x=>!x.1)&&(xE cpos (xB [] X.env)).all (fun x=>x.1.isSome)
   && decide ((e::[]).length+([]:List mF).length+(if ([]:List mF).isEmpty then 0 else 1)<30))=true:=by rfl)
  (hline:(apos.endLine == cpos.line)=true:=by rfl) (hs:bI (e::[]) X.env=(false,bZ e X.env)::bI [] X.env:=by rfl) (hplain:(eM cpos (bI [] X.env)).any (·.1)=false:=by rfl):DE X (.Call (.Attribute a "partition" apos) [e] [] cpos) (eOp AC f g):=
 PE.imp (uP MD PySem.F.slot_str_partition PySem.F.type_str_partition Lf ho (kS he lX hs) hbase hfew hline hs hplain) fun σ H Q gh=>by
  obtain⟨P,ρ,d,hP,rs,ef,k⟩:=gh
  obtain⟨d1,e1,ef2⟩:=XBs ef
  obtain⟨d2,e2,ef3⟩:=XBs ef2
  clear ef ef2
  unfold AC at ef3
  split at ef3
  ·obtain⟨hc,rfl⟩:=dS ef3
   refine⟨P,ρ,_,hP,rs,e1,dB fun v H1 x1 r1=>⟨by rw[(Aap.mp r1).1]; rfl,P,ρ,_,hP.ext x1,rs.ext (cW x1),e2,dB fun u H2 x2 r2=>?_⟩⟩
   exact⟨_,_,(Aap.mp r1).1,by rw[(Aap.mp r2).1],hc.1,hc.2,fun l hl=>(k.mono (x1.trans x2)).tup (hP.ext (x1.trans x2)) hl (JT (Ua (Aap.mp r1).2 (Aap.mp r2).2))⟩
  ·cases ef3
end
section
variable {X:Cx}{H0:Hp}{P0:aD->Prop}{a b e:aW}{f g:EF}{x:aB}{px pos kpos:cC}{i:Nat}
noncomputable def ix2 (c:Int):aA->Option aA
 | .tuple [.list a,.list b]=>if c=0 then some (.list a) else if c=1 then some (.list b) else none
 | _=>none
end
section
variable {X:Cx}
theorem Mk:OpR X (iC .IsNot) (fun x y H Q=>∃ a b,x = .bl a/\y = .bl b/\Q (.bl (!decide (a=b))) H):=by
 intro pins s σ H x y v u Q I rx ry h
 obtain⟨a,b,rfl,rfl,q⟩:=h
 cases rx
 cases ry
 refine wpAny_isNot_plain rfl (BW I q ?_)
 cases a <;> cases b <;> rfl
noncomputable def HE:aA->aA->Option aA
 | .bool a,.bool b=>some (.bool (!decide (a=b)))
 | _,_=>none
theorem Ve {K:aK}:OpD K 0 (fun x y H Q=>∃ a b,x = .bl a/\y = .bl b/\Q (.bl (!decide (a=b))) H) HE:=fun P H x y a b d Q hP ra rb e k=>by
 unfold HE at e
 split at e
 ·cases e
  exact⟨_,_,Aas.mp ra,Aas.mp rb,k.zero Ext.refl (Aas.mpr rfl)⟩
 ·cases e
end
end L2
namespace Aw
open PySem L2
noncomputable def top (i:Nat):bR:=PySem.Challenge.pw_askwithin_k66_whole_texts_tell_one_quest.main.body.getD i (.Pass ⟨0,0,0,0⟩)
noncomputable abbrev KB:bR:=top 11
noncomputable abbrev Og:List aB:=["thing"]
noncomputable abbrev zC:List aB:=["thing"]
theorem Ami:FnScope Og zC (bJ KB):=⟨rfl,rfl,rfl,by decide +kernel,rfl,by decide +kernel,by decide +kernel⟩
noncomputable abbrev KJ:bR:=top 12
noncomputable abbrev Qz:List aB:=["thing"]
noncomputable abbrev zJ:List aB:=["thing"]
theorem Ak2:FnScope Qz zJ (bJ KJ):=⟨rfl,rfl,rfl,by decide +kernel,rfl,by decide +kernel,by decide +kernel⟩
noncomputable abbrev DM:bR:=top 13
noncomputable abbrev TH:List aB:=["thing"]
noncomputable abbrev vR:List aB:=["thing"]
theorem Ao3:FnScope TH vR (bJ DM):=⟨rfl,rfl,rfl,by decide +kernel,rfl,by decide +kernel,by decide +kernel⟩
noncomputable abbrev JF:bR:=top 14
noncomputable abbrev Yf:List aB:=["thing"]
noncomputable abbrev yS:List aB:=["thing"]
theorem Aoo:FnScope Yf yS (bJ JF):=⟨rfl,rfl,rfl,by decide +kernel,rfl,by decide +kernel,by decide +kernel⟩
noncomputable abbrev JS:bR:=top 15
noncomputable abbrev Xc:List aB:=["thing"]
noncomputable abbrev vW:List aB:=["thing"]
theorem Apo:FnScope Xc vW (bJ JS):=⟨rfl,rfl,rfl,by decide +kernel,rfl,by decide +kernel,by decide +kernel⟩
noncomputable abbrev DY:bR:=top 16
noncomputable abbrev WZ:List aB:=["thing","fewest","most"]
noncomputable abbrev wJ:List aB:=["thing","fewest","most"]
theorem Ak9:FnScope WZ wJ (bJ DY):=⟨rfl,rfl,rfl,by decide +kernel,rfl,by decide +kernel,by decide +kernel⟩
noncomputable abbrev JE:bR:=top 17
noncomputable abbrev Ys:List aB:=["thing"]
noncomputable abbrev yT:List aB:=["thing"]
theorem Apg:FnScope Ys yT (bJ JE):=⟨rfl,rfl,rfl,by decide +kernel,rfl,by decide +kernel,by decide +kernel⟩
noncomputable abbrev EA:bR:=top 18
noncomputable abbrev XA:List aB:=["thing"]
noncomputable abbrev zH:List aB:=["thing"]
theorem Akz:FnScope XA zH (bJ EA):=⟨rfl,rfl,rfl,by decide +kernel,rfl,by decide +kernel,by decide +kernel⟩
noncomputable abbrev EM:bR:=top 19
noncomputable abbrev XR:List aB:=["things"]
noncomputable abbrev zQ:List aB:=["things"]
theorem Ahs:FnScope XR zQ (bJ EM):=⟨rfl,rfl,rfl,by decide +kernel,rfl,by decide +kernel,by decide +kernel⟩
noncomputable abbrev EL:bR:=top 20
noncomputable abbrev XJ:List aB:=["lines","widths"]
noncomputable abbrev wO:List aB:=["lines"]
theorem Ah3:FnScope XJ wO (bJ EL):=⟨rfl,rfl,rfl,by decide +kernel,rfl,by decide +kernel,by decide +kernel⟩
noncomputable abbrev EB:bR:=top 21
noncomputable abbrev WU:List aB:=["head","lines","names"]
noncomputable abbrev zA:List aB:=["head","lines"]
theorem Ald:FnScope WU zA (bJ EB):=⟨rfl,rfl,rfl,by decide +kernel,rfl,by decide +kernel,by decide +kernel⟩
noncomputable abbrev KY:bR:=top 22
noncomputable abbrev Tj:List aB:=["thing"]
noncomputable abbrev zU:List aB:=["thing"]
theorem Agr:FnScope Tj zU (bJ KY):=⟨rfl,rfl,rfl,by decide +kernel,rfl,by decide +kernel,by decide +kernel⟩
noncomputable abbrev zL:bR:=top 23
noncomputable abbrev KQ:List aB:=["thing","lines","alternative"]
noncomputable abbrev wK:List aB:=["thing"]
theorem Aim:FnScope KQ wK (bJ zL):=⟨rfl,rfl,rfl,by decide +kernel,rfl,by decide +kernel,by decide +kernel⟩
noncomputable abbrev KA:bR:=top 24
noncomputable abbrev Pi:List aB:=["lines","names","line","term"]
noncomputable abbrev yW:List aB:=["lines"]
theorem Amb:FnScope Pi yW (bJ KA):=⟨rfl,rfl,rfl,by decide +kernel,rfl,by decide +kernel,by decide +kernel⟩
noncomputable abbrev DZ:bR:=top 25
noncomputable abbrev WT:List aB:=["lines"]
noncomputable abbrev zB:List aB:=["lines"]
theorem Ak8:FnScope WT zB (bJ DZ):=⟨rfl,rfl,rfl,by decide +kernel,rfl,by decide +kernel,by decide +kernel⟩
noncomputable abbrev EE:bR:=top 28
noncomputable abbrev XB:List aB:=["words"]
noncomputable abbrev wG:List aB:=["words"]
theorem Ajy:FnScope XB wG (bJ EE):=⟨rfl,rfl,rfl,by decide +kernel,rfl,by decide +kernel,by decide +kernel⟩
noncomputable abbrev KM:bR:=top 29
noncomputable abbrev Qu:List aB:=["line"]
noncomputable abbrev zK:List aB:=["line"]
theorem Ak0:FnScope Qu zK (bJ KM):=⟨rfl,rfl,rfl,by decide +kernel,rfl,by decide +kernel,by decide +kernel⟩
noncomputable abbrev EO:bR:=top 30
noncomputable abbrev XU:List aB:=["alternative","head"]
noncomputable abbrev zW:List aB:=["alternative"]
theorem Af6:FnScope XU zW (bJ EO):=⟨rfl,rfl,rfl,by decide +kernel,rfl,by decide +kernel,by decide +kernel⟩
noncomputable abbrev EN:bR:=top 31
noncomputable abbrev XQ:List aB:=["question"]
noncomputable abbrev tL:List aB:=["question"]
theorem Ahn:FnScope XQ tL (bJ EN):=⟨rfl,rfl,rfl,by decide +kernel,rfl,by decide +kernel,by decide +kernel⟩
noncomputable abbrev DU:bR:=top 32
noncomputable abbrev WD:List aB:=["word","figures"]
noncomputable abbrev yX:List aB:=["word"]
theorem Anv:FnScope WD yX (bJ DU):=⟨rfl,rfl,rfl,by decide +kernel,rfl,by decide +kernel,by decide +kernel⟩
noncomputable abbrev JW:bR:=top 33
noncomputable abbrev Zo:List aB:=["word","number"]
noncomputable abbrev yV:List aB:=["word"]
theorem Aoc:FnScope Zo yV (bJ JW):=⟨rfl,rfl,rfl,by decide +kernel,rfl,by decide +kernel,by decide +kernel⟩
noncomputable abbrev DR:bR:=top 34
noncomputable abbrev WI:List aB:=["words"]
noncomputable abbrev vZ:List aB:=["words"]
theorem Ane:FnScope WI vZ (bJ DR):=⟨rfl,rfl,rfl,by decide +kernel,rfl,by decide +kernel,by decide +kernel⟩
noncomputable abbrev JV:bR:=top 35
noncomputable abbrev Yk:List aB:=["text","words"]
noncomputable abbrev yR:List aB:=["text"]
theorem Aom:FnScope Yk yR (bJ JV):=⟨rfl,rfl,rfl,by decide +kernel,rfl,by decide +kernel,by decide +kernel⟩
noncomputable abbrev ER:bR:=top 36
noncomputable abbrev XS:List aB:=["text","parts","head"]
noncomputable abbrev zV:List aB:=["text"]
theorem Ag1:FnScope XS zV (bJ ER):=⟨rfl,rfl,rfl,by decide +kernel,rfl,by decide +kernel,by decide +kernel⟩
noncomputable abbrev EI:bR:=top 37
noncomputable abbrev XE:List aB:=["text"]
noncomputable abbrev zM:List aB:=["text"]
theorem Ais:FnScope XE zM (bJ EI):=⟨rfl,rfl,rfl,by decide +kernel,rfl,by decide +kernel,by decide +kernel⟩
noncomputable abbrev JQ:bR:=top 38
noncomputable abbrev Xr:List aB:=["text","thing_of","is_one","show","thing"]
noncomputable abbrev yP:List aB:=["text","thing_of","is_one","show"]
theorem Ao7:FnScope Xr yP (bJ JQ):=⟨rfl,rfl,rfl,by decide +kernel,rfl,by decide +kernel,by decide +kernel⟩
noncomputable abbrev LA:bR:=top 39
noncomputable abbrev Ss:List aB:=["text"]
noncomputable abbrev wN:List aB:=["text"]
theorem Aht:FnScope Ss wN (bJ LA):=⟨rfl,rfl,rfl,by decide +kernel,rfl,by decide +kernel,by decide +kernel⟩
noncomputable abbrev KL:bR:=top 41
noncomputable abbrev Qj:List aB:=["_law_script","_law_k","_law_number"]
noncomputable abbrev sZ:List aB:=["_law_script","_law_k"]
theorem Ak5:FnScope Qj sZ (bJ KL):=⟨rfl,rfl,rfl,by decide +kernel,rfl,by decide +kernel,by decide +kernel⟩
noncomputable abbrev KD:bR:=top 42
noncomputable abbrev Oa:List aB:=["_law_cell_here","_law_k","_law_number"]
noncomputable abbrev nJ:List aB:=["_law_cell_here","_law_k"]
theorem Ans:FnScope Oa nJ (bJ KD):=⟨rfl,rfl,rfl,by decide +kernel,rfl,by decide +kernel,by decide +kernel⟩
noncomputable abbrev wD:bR:=top 43
noncomputable abbrev EG:List aB:=["_law_cell_here","_law_count","_law_signs","_law_size","_law_base","_law_at","_law_found","_law_k"]
noncomputable abbrev wC:List aB:=["_law_cell_here","_law_count"]
theorem Ajr:FnScope EG wC (bJ wD):=⟨rfl,rfl,rfl,by decide +kernel,rfl,by decide +kernel,by decide +kernel⟩
noncomputable abbrev KR:bR:=top 44
noncomputable abbrev Sg:List aB:=["_law_cell_here","_law_count","_law_found","_law_name"]
noncomputable abbrev zO:List aB:=["_law_cell_here","_law_count"]
theorem Ain:FnScope Sg zO (bJ KR):=⟨rfl,rfl,rfl,by decide +kernel,rfl,by decide +kernel,by decide +kernel⟩
noncomputable abbrev KO:bR:=top 45
noncomputable abbrev Rj:List aB:=["_law_cell_here","_law_names_here","_law_number"]
noncomputable abbrev zI:List aB:=["_law_cell_here","_law_names_here"]
theorem Alc:FnScope Rj zI (bJ KO):=⟨rfl,rfl,rfl,by decide +kernel,rfl,by decide +kernel,by decide +kernel⟩
noncomputable abbrev zF:bR:=top 46
noncomputable abbrev KS:List aB:=["_law_script","_law_start","_law_tables_here","_law_names_here","_law_count","_law_lines_here","_law_at","_law_k","_law_number","_law_table","_law_terms"]
noncomputable abbrev zE:List aB:=["_law_script","_law_start","_law_tables_here","_law_names_here","_law_count"]
theorem Aj4:FnScope KS zE (bJ zF):=⟨rfl,rfl,rfl,by decide +kernel,rfl,by decide +kernel,by decide +kernel⟩
noncomputable abbrev zS:bR:=top 47
noncomputable abbrev KZ:List aB:=["_law_script","_law_start","_law_first","_law_names_here","_law_tables_here","_law_size","_law_question_here","_law_k","_law_cell_here","_law_lines_here","_law_flat","_law_line","_law_head"]
noncomputable abbrev zP:List aB:=["_law_script","_law_start"]
theorem Aho:FnScope KZ zP (bJ zS):=⟨rfl,rfl,rfl,by decide +kernel,rfl,by decide +kernel,by decide +kernel⟩
noncomputable abbrev KW:bR:=top 48
noncomputable abbrev Su:List aB:=["_law_text","_law_other","_law_cell_here","_law_way","_law_at","_law_sign","_law_pair","_law_far"]
noncomputable abbrev zT:List aB:=["_law_text","_law_other","_law_cell_here"]
theorem Ah6:FnScope Su zT (bJ KW):=⟨rfl,rfl,rfl,by decide +kernel,rfl,by decide +kernel,by decide +kernel⟩
noncomputable abbrev KU:bR:=top 49
noncomputable abbrev Rz:List aB:=["_law_text","_law_found"]
noncomputable abbrev zD:List aB:=["_law_text"]
theorem Aj3:FnScope Rz zD (bJ KU):=⟨rfl,rfl,rfl,by decide +kernel,rfl,by decide +kernel,by decide +kernel⟩
noncomputable abbrev sI:bR:=top 50
noncomputable abbrev Ed:List aB:=["_law_script","_law_one","_law_other","_law_texts","_law_cell_here","_law_which"]
noncomputable abbrev OH:List aB:=["_law_script"]
theorem Bao:FnScope Ed OH (bJ sI):=⟨rfl,rfl,rfl,by decide +kernel,rfl,by decide +kernel,by decide +kernel⟩
structure Blt (mg:aB->Option aE):Prop where
 «isinstance» : mg "isinstance" = none
 «int» : mg "int" = none
 «bool» : mg "bool" = none
 «abs» : mg "abs" = none
 «range» : mg "range" = none
 «len» : mg "len" = none
 «str» : mg "str" = none
 «all» : mg "all" = none
 «any» : mg "any" = none
 «list» : mg "list" = none
 «tuple» : mg "tuple" = none
 «dict» : mg "dict" = none
 «set» : mg "set" = none
 «sorted» : mg "sorted" = none
 «sum» : mg "sum" = none
 «min» : mg "min" = none
 «max» : mg "max" = none
 «enumerate» : mg "enumerate" = none
 «zip» : mg "zip" = none
 «reversed» : mg "reversed" = none
 «ValueError» : mg "ValueError" = none
structure Cst (mg:aB->Option aE):Prop where
 LETTERS : ∃ t,mg "LETTERS" = some (.str "abcdefghijklmnopqrstuvwxyz" t)
 FIGURES : ∃ t,mg "FIGURES" = some (.str "0123456789" t)
 MOST_SIGNS : ∃ t,mg "MOST_SIGNS" = some (.int 12 t)
 MOST_TERMS : ∃ t,mg "MOST_TERMS" = some (.int 6 t)
 MOST_HEAD_TERMS : ∃ t,mg "MOST_HEAD_TERMS" = some (.int 4 t)
 MOST_LINES : ∃ t,mg "MOST_LINES" = some (.int 5 t)
 MOST_ALTERNATIVES : ∃ t,mg "MOST_ALTERNATIVES" = some (.int 3 t)
 MOST_FIGURES : ∃ t,mg "MOST_FIGURES" = some (.int 70 t)
structure Xcs (K:aK)(mg:aB->Option aE):Prop where
 r_NoText:NL K "NoText"
 f_show_question:zX K "show_question"
 f_is_question:zX K "is_question"
 f_question_of:zX K "question_of"
 t_NoText:ExM K mg "NoText" "NoText"
set_option maxHeartbeats 4000000
variable {P:bS}{w:bB}{K:aK}{mg:aB->Option aE}{base:aU}{f:aD}{fd:gD}
noncomputable def Pj:SF:=(bY 0 .s (mH (eUn (gF "int") (aC 0)) (NN (eUn (gF "bool") (aC 0)))))
noncomputable def vX:List aA->Option aA:=fnD 1 1 Pj
theorem Qi (F:Fun K "is_whole" "is_whole" KB f fd)(B:Blt mg)(C:Cst mg)(V:Xcs K mg):FnOk P w K mg base CX0 1 f fd zC (spF K 0 vX):=by
 have nd:=Ami.nd
 exact dY F Ami rfl (by decide) fun cdv A outer s H E P0 hr=>by
  have hu:=dN hr
  have hv:=dM hr
  exact(bO (cJ .s (pH (oA (T:="int") rfl B.isinstance rfl B.int Bj (by decide) (aH 0)) (pC (Fn (oA (T:="bool") rfl B.isinstance rfl B.bool PyProof.Rows.boot_bool (by decide) (aH 0)))))))
noncomputable def Xo:SF:=(bC (sIf .s (bOr (eK (bOf (eUn (gF "str") (aC 0)))) (eK (bOf (iX gLe gLe (eC (.int 1)) (aL cI (aF (aC 0) aJ)) (eC (.int 12)))))) (bY 0 .s (eC (.bool false))) dI)
 (bY 0 .s (mH (eOp (gIn false) (eOp gIx (aC 0) (eC (.int 0))) (eC (.str "abcdefghijklmnopqrstuvwxyz"))) (aL lO (aF (eLC [none] (iIt (aC 0)) (gB 0) cQ (eOp (gIn false) (aC 0) (eOp cB (eC (.str "abcdefghijklmnopqrstuvwxyz")) (eC (.str "0123456789"))))) aJ)))))
noncomputable def kU:List aA->Option aA:=fnD 1 1 Xo
theorem Nu (F:Fun K "is_name" "is_name" DM f fd)(B:Blt mg)(C:Cst mg)(V:Xcs K mg):FnOk P w K mg base CX0 1 f fd vR (spF K 0 kU):=by
 obtain⟨_,h_FIGURES⟩:=C.FIGURES
 obtain⟨_,h_LETTERS⟩:=C.LETTERS
 obtain⟨_,h_MOST_SIGNS⟩:=C.MOST_SIGNS
 have nd:=Ao3.nd
 exact dY F Ao3 rfl (by decide) fun cdv A outer s H E P0 hr=>by
  have hu:=dN hr
  have hv:=dM hr
  exact(bL (eU .s (rF (sF (lY (jY (oA (T:="str") rfl B.isinstance rfl B.str FR (by decide) (aH 0)))) (vE (lY (II (Atz.or sX) (Atz.or sX) sM sM aP (eZ gR gQ rfl B.len iE (aM (aH 0) aQ)) (vO (i:=12) rfl h_MOST_SIGNS ⟨_,rfl⟩)))))) (bO (cJ .s mK)) eW)
   (bO (cJ .s (pH (lU (CP hu) CB (cT hv (aH 0) aP (fun _ _=>rfl)) (CU (i:="abcdefghijklmnopqrstuvwxyz") rfl h_LETTERS ⟨_,rfl⟩) (by with_unfolding_all rfl)) (pC (eZ (vT rfl) vP rfl B.all boot_all (aM (dW (n:=1) (hE rfl (fY (N:=["sign"]) (cap:=[none]) (out:=(bJ DM).names) (XN:=TH) rfl rfl (by decide +kernel) rfl) fT (gJ (aH 0)) (fun cl C s₀ H₀ ex=>⟨fW (j:=0) (show(["sign"]:List aB).Nodup by decide +kernel) rfl (aX rfl),gK,(lU (CP hu) CB (aH 0) (dC (CU (i:="abcdefghijklmnopqrstuvwxyz") rfl h_LETTERS ⟨_,rfl⟩) (CU (i:="0123456789") rfl h_FIGURES ⟨_,rfl⟩)) (by with_unfolding_all rfl))⟩))) aQ)))))))
noncomputable def Nz:SF:=(bY 0 .s (mH (eUn (gF "tuple") (aC 0)) (eOp gEq (aL cI (aF (aC 0) aJ)) (eC (.int 2)))))
noncomputable def qX:List aA->Option aA:=fnD 1 1 Nz
theorem Pl (F:Fun K "is_pair" "is_pair" JS f fd)(B:Blt mg)(C:Cst mg)(V:Xcs K mg):FnOk P w K mg base CX0 1 f fd vW (spF K 0 qX):=by
 have nd:=Apo.nd
 exact dY F Apo rfl (by decide) fun cdv A outer s H E P0 hr=>by
  have hu:=dN hr
  have hv:=dM hr
  exact(bO (cJ .s (pH (oA (T:="tuple") rfl B.isinstance rfl B.tuple tU (by decide) (aH 0)) (pC (lU (iN hu) iM (eZ gR gQ rfl B.len iE (aM (aH 0) aQ)) aP (eG _))))))
noncomputable def So:SF:=(bY 0 .s (eOp gLe (aL IR (aF (eLC [none] (iIt (aC 0)) (gB 0) cQ (aL cI (aF (aC 0) aJ))) aJ)) (eC (.int 1))))
noncomputable def zR:List aA->Option aA:=fnD 1 1 So
theorem Ti (F:Fun K "of_one_length" "of_one_length" EM f fd)(B:Blt mg)(C:Cst mg)(V:Xcs K mg):FnOk P w K mg base CX0 1 f fd zQ (spF K 0 zR):=by
 have nd:=Ahs.nd
 exact dY F Ahs rfl (by decide) fun cdv A outer s H E P0 hr=>by
  have hu:=dN hr
  have hv:=dM hr
  exact(bO (cJ .s (lU (Atz.or sX) sM (VT rfl rfl B.len rfl B.set (dW (n:=1) (hE rfl (fY (N:=["thing"]) (cap:=[none]) (out:=(bJ EM).names) (XN:=XR) rfl rfl (by decide +kernel) rfl) fT (gJ (aH 0)) (fun cl C s₀ H₀ ex=>⟨fW (j:=0) (show(["thing"]:List aB).Nodup by decide +kernel) rfl (aX rfl),gK,(eZ gR gQ rfl B.len iE (aM (aH 0) aQ))⟩)))) aP (eG _))))
noncomputable def Oo:SF:=(bC (bX 1 1 .s (eC (.dict [])))
 (bC (jC .s (iIt (aC 0)) (gNm 2) (jC .s (iIt (eOp gIx (aC 2) (eC (.int 1)))) (gNm 3) (sIf .s (bOf (eUn (gF "str") (aC 3))) (FA 1 .s (eC (.bool true)) .s (aC 3)) dI)))
 (pM 1 (bY 1 .s (aL LD (aF (aC 1) aJ))))))
noncomputable def wA:List aA->Option aA:=fnD 1 4 Oo
theorem Rf (F:Fun K "names_of" "names_of" KA f fd)(B:Blt mg)(C:Cst mg)(V:Xcs K mg):FnOk P w K mg base CX0 1 f fd yW (spF K 1 wA):=by
 have nd:=Amb.nd
 exact dY F Amb rfl (by decide) fun cdv A outer s H E P0 hr=>by
  have hu:=dN hr
  have hv:=dM hr
  exact(bL (cS (i:=1) 1 .s nd rfl (by first | exact aX rfl | exact bD rfl) Kh)
   (bL (vG rN rfl (gJ (aH 0)) (pJ (i:=2) nd rfl (by first | exact aX rfl | exact bD rfl)) (bO (vG rN rfl (gJ (cT hv (aH 2) aP (fun _ _=>rfl))) (pJ (i:=3) nd rfl (by first | exact aX rfl | exact bD rfl)) (bO (eU .s (jY (oA (T:="str") rfl B.isinstance rfl B.str FR (by decide) (aH 3))) (bO (Kx 1 .s .s hv mK (aH 3))) eW)))))
   (sT 1 (bO (cJ .s (oF (Ow rfl) Qy rfl B.list Bi (aM (aH 1) aQ)))))))
noncomputable def Qt:SF:=(bY 0 .s (aL TC (aF (eLC [none] (iIt (aC 0)) (gB 0) cQ (gX (aF (eOp gIx (aC 0) (eC (.int 0))) (aF (aL cI (aF (eOp gIx (aC 0) (eC (.int 1))) aJ)) aJ)))) aJ)))
noncomputable def wH:List aA->Option aA:=fnD 1 1 Qt
theorem Rr (F:Fun K "tables_of" "tables_of" DZ f fd)(B:Blt mg)(C:Cst mg)(V:Xcs K mg):FnOk P w K mg base CX0 1 f fd zB (spF K 0 wH):=by
 have nd:=Ak8.nd
 exact dY F Ak8 rfl (by decide) fun cdv A outer s H E P0 hr=>by
  have hu:=dN hr
  have hv:=dM hr
  exact(bO (cJ .s (dW (n:=1) (Qf rfl hv rfl B.sorted rfl B.set (dW (n:=1) (hE rfl (fY (N:=["line"]) (cap:=[none]) (out:=(bJ DZ).names) (XN:=WT) rfl rfl (by decide +kernel) rfl) fT (gJ (aH 0)) (fun cl C s₀ H₀ ex=>⟨fW (j:=0) (show(["line"]:List aB).Nodup by decide +kernel) rfl (aX rfl),gK,(nZ (aM (cT hv (aH 0) aP (fun _ _=>rfl)) (aM (eZ gR gQ rfl B.len iE (aM (cT hv (aH 0) aP (fun _ _=>rfl)) aQ)) aQ)))⟩)))))))
noncomputable def Rk:SF:=(bY 0 .s (eOp nC (eC (.str " ")) (eLC [none] (iIt (aC 0)) (gB 0) cQ (aL AA (aF (aC 0) aJ)))))
noncomputable def tH:List aA->Option aA:=fnD 1 1 Rk
theorem Sd (F:Fun K "show_words" "show_words" EE f fd)(B:Blt mg)(C:Cst mg)(V:Xcs K mg):FnOk P w K mg base CX0 1 f fd wG (spF K 0 tH):=by
 have nd:=Ajy.nd
 exact dY F Ajy rfl (by decide) fun cdv A outer s H E P0 hr=>by
  have hu:=dN hr
  have hv:=dM hr
  exact(bO (cJ .s (yF iW (dW (n:=1) (hE rfl (fY (N:=["word"]) (cap:=[none]) (out:=(bJ EE).names) (XN:=XB) rfl rfl (by decide +kernel) rfl) fT (gJ (aH 0)) (fun cl C s₀ H₀ ex=>⟨fW (j:=0) (show(["word"]:List aB).Nodup by decide +kernel) rfl (aX rfl),gK,(oF Wz On rfl B.str FR (aM (aH 0) aQ))⟩))))))
noncomputable def Oz:SF:=(bC (bX 1 0 .s (eIf (bOf (eOp CG (aC 0) (eC (.str "-")))) (eSl (aC 0) (oS (eC (.int 1))) oN) (aC 0)))
 (bC (sIf .s (bOr (eK (bOf (iX gLe gLe (eC (.int 1)) (aL cI (aF (aC 1) aJ)) (eC (.int 70))))) (eK (bOf (aL lO (aF (eLC [none] (iIt (aC 1)) (gB 0) cQ (eOp (gIn false) (aC 0) (eC (.str "0123456789")))) aJ))))) (bY 0 .s (eC .none)) dI)
 (bY 0 .s (aL GZ (aF (aC 0) aJ)))))
noncomputable def vY:List aA->Option aA:=fnD 1 2 Oz
theorem Qe (F:Fun K "whole_of" "whole_of" DU f fd)(B:Blt mg)(C:Cst mg)(V:Xcs K mg):FnOk P w K mg base CX0 1 f fd yX (spF K 0 vY):=by
 obtain⟨_,h_FIGURES⟩:=C.FIGURES
 obtain⟨_,h_MOST_FIGURES⟩:=C.MOST_FIGURES
 have nd:=Anv.nd
 exact dY F Anv rfl (by decide) fun cdv A outer s H E P0 hr=>by
  have hu:=dN hr
  have hv:=dM hr
  exact(bL (cS (i:=1) 0 .s nd rfl (by first | exact aX rfl | exact bD rfl) (RH (jY (Wx (aH 0) iW)) (jX (aH 0) (iA aP) iY) (aH 0)))
   (bL (eU .s (rF (sF (lY (II (Atz.or sX) (Atz.or sX) sM sM aP (eZ gR gQ rfl B.len iE (aM (aH 1) aQ)) (vO (i:=70) rfl h_MOST_FIGURES ⟨_,rfl⟩))) (vE (lY (jY (eZ (vT rfl) vP rfl B.all boot_all (aM (dW (n:=1) (hE rfl (fY (N:=["sign"]) (cap:=[none]) (out:=(bJ DU).names) (XN:=WD) rfl rfl (by decide +kernel) rfl) fT (gJ (aH 1)) (fun cl C s₀ H₀ ex=>⟨fW (j:=0) (show(["sign"]:List aB).Nodup by decide +kernel) rfl (aX rfl),gK,(lU (CP hu) CB (aH 0) (CU (i:="0123456789") rfl h_FIGURES ⟨_,rfl⟩) (by with_unfolding_all rfl))⟩))) aQ))))))) (bO (cJ .s PJ)) eW)
   (bO (cJ .s (oF Xm Pp rfl B.int Bj (aM (aH 0) aQ))))))
noncomputable def ED:SF:=(bC (sIf .s (bOf (eOp gLt (aC 1) (aL cI (aF (aC 0) aJ)))) (bY 0 .s (eOp gIx (aC 0) (aC 1))) dI)
 (bC (bX 2 0 .s (eOp cB (eOp fO (aC 1) (eC (.int 7919))) (eC (.int 5))))
 (bC (sIf .s (bOf (eOp gGt (aL cI (aF (aC 0) aJ)) (eC (.int 0)))) (bX 2 0 .s (eOp bT (eOp cB (eOp fO (eOp gIx (aC 0) (eOp bT (eOp fO (aC 1) (eC (.int 7))) (aL cI (aF (aC 0) aJ)))) (eC (.int 48271))) (eOp fO (aC 1) (eC (.int 7919)))) (eC (.int 2147483647)))) dI)
 (bY 0 .s (eOp bT (eOp fO (aC 2) (aC 2)) (eC (.int 2147483629)))))))
noncomputable def fX:List aA->Option aA:=fnD 2 3 ED
theorem Rp (F:Fun K "_law_cell" "_law_cell" KL f fd)(B:Blt mg)(C:Cst mg)(V:Xcs K mg):FnOk P w K mg base CX0 1 f fd sZ (spF K 0 fX):=by
 have nd:=Ak5.nd
 exact dY F Ak5 rfl (by decide) fun cdv A outer s H E P0 hr=>by
  have hu:=dN hr
  have hv:=dM hr
  exact(bL (eU .s (fV (A7q.or DP) CA (aH 1) (eZ gR gQ rfl B.len iE (aM (aH 0) aQ)) (eG _)) (bO (cJ .s (cT hv (aH 0) (aH 1) (fun _ _=>rfl)))) eW)
   (bL (cS (i:=2) 0 .s nd rfl (by first | exact aX rfl | exact bD rfl) (dC (lT (aH 1) aP) aP))
   (bL (eU .s (fV xZ yE (eZ gR gQ rfl B.len iE (aM (aH 0) aQ)) aP (eG _)) (bO (cS (i:=2) 0 .s nd rfl (by first | exact aX rfl | exact bD rfl) (dU (dC (lT (cT hv (aH 0) (dU (lT (aH 1) aP) (eZ gR gQ rfl B.len iE (aM (aH 0) aQ))) (fun _ _=>rfl)) aP) (lT (aH 1) aP)) aP))) eW)
   (bO (cJ .s (dU (lT (aH 2) (aH 2)) aP))))))
noncomputable def VV:SF:=(bC (bX 2 0 .s (eOp bT (eOp cB (eOp cB (eOp cB (eOp fO (eOp bT (aC 0) (eC (.int 2147483647))) (eC (.int 48271))) (eOp fO (eOp fO (aC 1) (aC 1)) (eC (.int 69621)))) (aC 1)) (eC (.int 11))) (eC (.int 2147483629))))
 (bY 0 .s (eOp bT (eOp fO (aC 2) (aC 2)) (eC (.int 2147483587)))))
noncomputable def dA:List aA->Option aA:=fnD 2 3 VV
theorem Qo (F:Fun K "_law_mix" "_law_mix" KD f fd)(B:Blt mg)(C:Cst mg)(V:Xcs K mg):FnOk P w K mg base CX0 1 f fd nJ (spF K 0 dA):=by
 have nd:=Ans.nd
 exact dY F Ans rfl (by decide) fun cdv A outer s H E P0 hr=>by
  have hu:=dN hr
  have hv:=dM hr
  exact(bL (cS (i:=2) 0 .s nd rfl (by first | exact aX rfl | exact bD rfl) (dU (dC (dC (dC (lT (dU (aH 0) aP) aP) (lT (lT (aH 1) (aH 1)) aP)) (aH 1)) aP) aP))
   (bO (cJ .s (dU (lT (aH 2) (aH 2)) aP))))
noncomputable def Qr:SF:=(bY 0 .s (mH (aL vX (aF (aC 0) aJ)) (eOp gLt (aL GY (aF (aC 0) aJ)) (eOp sA (eC (.int 10)) (eC (.int 60))))))
noncomputable def yZ:List aA->Option aA:=fnD 1 1 Qr
theorem Rv (F:Fun K "is_number" "is_number" KJ f fd)(B:Blt mg)(C:Cst mg)(V:Xcs K mg)(D_is_whole:Def P w K mg base "is_whole" 1 zC (spF K 0 vX)):FnOk P w K mg base CX0 2 f fd zJ (spF K 0 yZ):=by
 have nd:=Ak2.nd
 exact dY F Ak2 rfl (by decide) fun cdv A outer s H E P0 hr=>by
  have hu:=dN hr
  have hv:=dM hr
  exact(bO (cJ .s (pH (bM D_is_whole (hr.mono (by decide)) rfl (aM (aH 0) aQ)) (pC (lU (A7q.or DP) CA (eZ Wn Ws rfl B.abs boot_abs (aM (aH 0) aQ)) (LK aP aP) (eG _))))))
noncomputable def Sx:SF:=(bC (bX 1 0 .s (aL wH (aF (aC 0) aJ)))
 (bY 0 .s (eOp gEq (aL cI (aF (aC 1) aJ)) (aL IR (aF (eLC [none] (iIt (aC 1)) (gB 0) cQ (eOp gIx (aC 0) (eC (.int 0)))) aJ)))))
noncomputable def rD:List aA->Option aA:=fnD 1 2 Sx
theorem Tc (F:Fun K "of_one_width" "of_one_width" EL f fd)(B:Blt mg)(C:Cst mg)(V:Xcs K mg)(D_tables_of:Def P w K mg base "tables_of" 1 zB (spF K 0 wH)):FnOk P w K mg base CX0 2 f fd wO (spF K 0 rD):=by
 have nd:=Ah3.nd
 exact dY F Ah3 rfl (by decide) fun cdv A outer s H E P0 hr=>by
  have hu:=dN hr
  have hv:=dM hr
  exact(bL (cS (i:=1) 0 .s nd rfl (by first | exact aX rfl | exact bD rfl) (bM D_tables_of (hr.mono (by decide)) rfl (aM (aH 0) aQ)))
   (bO (cJ .s (lU (iN hu) iM (eZ gR gQ rfl B.len iE (aM (aH 1) aQ)) (VT rfl rfl B.len rfl B.set (dW (n:=1) (hE rfl (fY (N:=["width"]) (cap:=[none]) (out:=(bJ EL).names) (XN:=XJ) rfl rfl (by decide +kernel) rfl) fT (gJ (aH 1)) (fun cl C s₀ H₀ ex=>⟨fW (j:=0) (show(["width"]:List aB).Nodup by decide +kernel) rfl (aX rfl),gK,(cT hv (aH 0) aP (fun _ _=>rfl))⟩)))) (eG _)))))
noncomputable def Rg:SF:=(bC (bX 2 0 .s (aL wA (aF (aC 1) aJ)))
 (bY 0 .s (aL lO (aF (eLC [none,some 2] (iIt (aC 0)) (gB 0) (bOf (eUn (gF "str") (aC 0))) (eOp (gIn false) (aC 0) (aC 1))) aJ))))
noncomputable def wI:List aA->Option aA:=fnD 2 3 Rg
theorem Sa (F:Fun K "stands_in" "stands_in" EB f fd)(B:Blt mg)(C:Cst mg)(V:Xcs K mg)(D_names_of:Def P w K mg base "names_of" 1 yW (spF K 1 wA)):FnOk P w K mg base CX0 2 f fd zA (spF K 0 wI):=by
 have nd:=Ald.nd
 exact dY F Ald rfl (by decide) fun cdv A outer s H E P0 hr=>by
  have hu:=dN hr
  have hv:=dM hr
  exact(bL (cS (i:=2) 0 .s nd rfl (by first | exact aX rfl | exact bD rfl) (dW (n:=1) (bM D_names_of (hr.mono (by decide)) rfl (aM (aH 1) aQ))))
   (bO (cJ .s (eZ (vT rfl) vP rfl B.all boot_all (aM (dW (n:=1) (hE rfl (fY (N:=["term","names"]) (cap:=[none,some 2]) (out:=(bJ EB).names) (XN:=WU) rfl rfl (by decide +kernel) rfl) fT (gJ (aH 0)) (fun cl C s₀ H₀ ex=>⟨fW (j:=0) (show(["term","names"]:List aB).Nodup by decide +kernel) rfl (aX rfl),Mn (jY (oA (T:="str") rfl B.isinstance rfl B.str FR (by decide) (aH 0))),(lU (CP hu) CB (aH 0) (aH 1) (by with_unfolding_all rfl))⟩))) aQ)))))
noncomputable def Rh:SF:=(bY 0 .s (aL tH (aF (eOp uQ (gX (aF (eOp gIx (aC 0) (eC (.int 0))) aJ)) (eOp gIx (aC 0) (eC (.int 1)))) aJ)))
noncomputable def wB:List aA->Option aA:=fnD 1 1 Rh
theorem Ra (F:Fun K "show_line" "show_line" KM f fd)(B:Blt mg)(C:Cst mg)(V:Xcs K mg)(D_show_words:Def P w K mg base "show_words" 1 wG (spF K 0 tH)):FnOk P w K mg base CX0 2 f fd zK (spF K 0 wB):=by
 have nd:=Ak0.nd
 exact dY F Ak0 rfl (by decide) fun cdv A outer s H E P0 hr=>by
  have hu:=dN hr
  have hv:=dM hr
  exact(bO (cJ .s (bM D_show_words (hr.mono (by decide)) rfl (aM (QH (nZ (aM (cT hv (aH 0) aP (fun _ _=>rfl)) aQ)) (cT hv (aH 0) aP (fun _ _=>rfl))) aQ))))
noncomputable def Xh:SF:=(bC (bX 1 0 .s (aL vY (aF (aC 0) aJ)))
 (bY 0 .s (eIf (bOf (eOp GR (aC 1) (eC .none))) (aC 0) (aC 1))))
noncomputable def qW:List aA->Option aA:=fnD 1 2 Xh
theorem Po (F:Fun K "term_of" "term_of" JW f fd)(B:Blt mg)(C:Cst mg)(V:Xcs K mg)(D_whole_of:Def P w K mg base "whole_of" 1 yX (spF K 0 vY)):FnOk P w K mg base CX0 2 f fd yV (spF K 0 qW):=by
 have nd:=Aoc.nd
 exact dY F Aoc rfl (by decide) fun cdv A outer s H E P0 hr=>by
  have hu:=dN hr
  have hv:=dM hr
  exact(bL (cS (i:=1) 0 .s nd rfl (by first | exact aX rfl | exact bD rfl) (bM D_whole_of (hr.mono (by decide)) rfl (aM (aH 0) aQ)))
   (bO (cJ .s (RH (fV Ib Km (aH 1) PJ (eG _)) (aH 0) (aH 1)))))
noncomputable def Rn:SF:=(bC (bX 2 0 .s (eC (.str "abcdefghijklmnopqrstuvwxyz0123456789")))
 (bC (bX 3 0 .s (eOp cB (eC (.int 1)) (eOp bT (aL dA (aF (aC 0) (aF (eC (.int 1)) aJ))) (eC (.int 12)))))
 (bC (sIf .s (bOf (eOp gEq (eOp bT (aL dA (aF (aC 0) (aF (eC (.int 2)) aJ))) (eC (.int 3))) (eC (.int 0)))) (bX 3 0 .s (eC (.int 12))) dI)
 (bC (bX 4 1 .s (eLC [none,some 2,some 0] (iR1 (aF (aC 3) aJ)) (gB 0) cQ (eOp gIx (aC 1) (eOp bT (aL dA (aF (aC 2) (aF (eOp cB (eC (.int 30)) (aC 0)) aJ))) (eC (.int 36))))))
 (bC (sJ 4 .s (eOp gIx (aC 2) (eOp bT (aL dA (aF (aC 0) (aF (eC (.int 50)) aJ))) (eC (.int 26)))) .s (eC (.int 0)))
 (bC (sIf .s (bOf (eOp gEq (eOp bT (aL dA (aF (aC 0) (aF (eC (.int 2)) aJ))) (eC (.int 3))) (eC (.int 0)))) (bY 1 .a (eLC [none,some 4] (iR1 (aF (aC 1) aJ)) (gB 0) cQ (eOp nC (eC (.str "")) (kL (aC 1) oN (oS (eOp cB (aC 0) (eC (.int 1)))))))) dI)
 (bC (bX 5 0 .s (eOp bT (aL dA (aF (aC 0) (aF (eC (.int 3)) aJ))) (aC 3)))
 (bC (bX 6 1 .s (lN aJ))
 (bC (jC .s (iR1 (aF (aC 1) aJ)) (gNm 7) (bC (sJ 4 .s (eOp gIx (aC 2) (eOp bT (eOp cB (aL dA (aF (aC 0) (aF (eC (.int 4)) aJ))) (aC 7)) (eOp cB (eC (.int 26)) (eOp fO (eC (.int 10)) (aL uJ (aF (eOp gGt (aC 5) (eC (.int 0))) aJ)))))) .s (aC 5))
 (oK 6 .a (eOp nC (eC (.str "")) (aC 4)))))
 (pM 4 (sH 6 1)))))))))))
noncomputable def rB:List aA->Option aA:=fnD 2 8 Rn
theorem Sb (F:Fun K "_law_names" "_law_names" wD f fd)(B:Blt mg)(C:Cst mg)(V:Xcs K mg)(D__law_mix:Def P w K mg base "_law_mix" 1 nJ (spF K 0 dA)):FnOk P w K mg base CX0 2 f fd wC (spF K 1 rB):=by
 have nd:=Ajr.nd
 exact dY F Ajr rfl (by decide) fun cdv A outer s H E P0 hr=>by
  have hu:=dN hr
  have hv:=dM hr
  exact(bL (cS (i:=2) 0 .s nd rfl (by first | exact aX rfl | exact bD rfl) iW)
   (bL (cS (i:=3) 0 .s nd rfl (by first | exact aX rfl | exact bD rfl) (dC aP (dU (bM D__law_mix (hr.mono (by decide)) rfl (aM (aH 0) (aM aP aQ))) aP)))
   (bL (eU .s (fV (iN hu) iM (dU (bM D__law_mix (hr.mono (by decide)) rfl (aM (aH 0) (aM aP aQ))) aP) aP (eG _)) (bO (cS (i:=3) 0 .s nd rfl (by first | exact aX rfl | exact bD rfl) aP)) eW)
   (bL (by first | exact(IZ (i:=4) .s rfl nd rfl (by first | exact aX rfl | exact bD rfl) (fY (N:=["_law_k","_law_signs","_law_cell_here"]) (cap:=[none,some 2,some 0]) (out:=(bJ wD).names) (XN:=EG) rfl rfl (by decide +kernel) rfl) fT (sQ (oE rfl B.range (aM (aH 3) aQ))) (fun cl C s₀ H₀ ex=>⟨fW (j:=0) (show(["_law_k","_law_signs","_law_cell_here"]:List aB).Nodup by decide +kernel) rfl (aX rfl),gK,(cT hv (aH 1) (dU (bM D__law_mix (hr.mono (by decide)) rfl (aM (aH 2) (aM (dC aP (aH 0)) aQ))) aP) (fun _ _=>rfl))⟩)) | exact(cS (i:=4) 1 .s nd rfl (by first | exact aX rfl | exact bD rfl) (hE rfl (fY (N:=["_law_k","_law_signs","_law_cell_here"]) (cap:=[none,some 2,some 0]) (out:=(bJ wD).names) (XN:=EG) rfl rfl (by decide +kernel) rfl) fT (sQ (oE rfl B.range (aM (aH 3) aQ))) (fun cl C s₀ H₀ ex=>⟨fW (j:=0) (show(["_law_k","_law_signs","_law_cell_here"]:List aB).Nodup by decide +kernel) rfl (aX rfl),gK,(cT hv (aH 1) (dU (bM D__law_mix (hr.mono (by decide)) rfl (aM (aH 2) (aM (dC aP (aH 0)) aQ))) aP) (fun _ _=>rfl))⟩))))
   (bL (IB 4 .s .s (cT hv (aH 2) (dU (bM D__law_mix (hr.mono (by decide)) rfl (aM (aH 0) (aM aP aQ))) aP) (fun _ _=>rfl)) aP)
   (bL (eU .s (fV (iN hu) iM (dU (bM D__law_mix (hr.mono (by decide)) rfl (aM (aH 0) (aM aP aQ))) aP) aP (eG _)) (bO (cJ .a (hE rfl (fY (N:=["_law_k","_law_base"]) (cap:=[none,some 4]) (out:=(bJ wD).names) (XN:=EG) rfl rfl (by decide +kernel) rfl) fT (sQ (oE rfl B.range (aM (aH 1) aQ))) (fun cl C s₀ H₀ ex=>⟨fW (j:=0) (show(["_law_k","_law_base"]:List aB).Nodup by decide +kernel) rfl (aX rfl),gK,(yF iW (dW (n:=1) (BX (aH 1) iY (iA (dC (aH 0) aP)))))⟩)))) eW)
   (bL (cS (i:=5) 0 .s nd rfl (by first | exact aX rfl | exact bD rfl) (dU (bM D__law_mix (hr.mono (by decide)) rfl (aM (aH 0) (aM aP aQ))) (aH 3)))
   (bL (cS (i:=6) 1 .s nd rfl (by first | exact aX rfl | exact bD rfl) (pG aQ))
   (bL (HL .s rN rfl (oE rfl B.range (aM (aH 1) aQ)) (pJ (i:=7) nd rfl (by first | exact aX rfl | exact bD rfl)) (bL (IB 4 .s .s (cT hv (aH 2) (dU (dC (bM D__law_mix (hr.mono (by decide)) rfl (aM (aH 0) (aM aP aQ))) (aH 7)) (dC aP (lT aP (oF Zl Yl rfl B.int Bj (aM (lU xZ yE (aH 5) aP (eG _)) aQ))))) (fun _ _=>rfl)) (aH 5))
   (bO (DK 6 .a (yF iW (aH 4))))))
   (sT 4 (bO (yG 6))))))))))))
noncomputable def Qw:SF:=(bC (bX 2 0 .s (aL dA (aF (aC 0) (aF (eC (.int 7)) aJ))))
 (bC (sIf .s (bOf (eOp gLt (eOp bT (aC 2) (eC (.int 4))) (eC (.int 3)))) (bY 0 .s (eOp gIx (aC 1) (eOp bT (eOp jW (aC 2) (eC (.int 4))) (aL cI (aF (aC 1) aJ))))) dI)
 (bC (sIf .s (bOf (eOp gEq (eOp bT (eOp jW (aC 2) (eC (.int 4))) (eC (.int 2))) (eC (.int 0)))) (bY 0 .s (eOp nD (eOp bT (eOp jW (aC 2) (eC (.int 8))) (eC (.int 3))) (eC (.int 1)))) dI)
 (bY 0 .s (eOp nD (eOp bT (aC 0) (eOp nD (eOp fO (eC (.int 2)) (eOp sA (eC (.int 10)) (eC (.int 60)))) (eC (.int 1)))) (eOp nD (eOp sA (eC (.int 10)) (eC (.int 60))) (eC (.int 1))))))))
noncomputable def sY:List aA->Option aA:=fnD 2 3 Qw
theorem Rb (F:Fun K "_law_term" "_law_term" KO f fd)(B:Blt mg)(C:Cst mg)(V:Xcs K mg)(D__law_mix:Def P w K mg base "_law_mix" 1 nJ (spF K 0 dA)):FnOk P w K mg base CX0 2 f fd zI (spF K 0 sY):=by
 have nd:=Alc.nd
 exact dY F Alc rfl (by decide) fun cdv A outer s H E P0 hr=>by
  have hu:=dN hr
  have hv:=dM hr
  exact(bL (cS (i:=2) 0 .s nd rfl (by first | exact aX rfl | exact bD rfl) (bM D__law_mix (hr.mono (by decide)) rfl (aM (aH 0) (aM aP aQ))))
   (bL (eU .s (fV (A7q.or DP) CA (dU (aH 2) aP) aP (eG _)) (bO (cJ .s (cT hv (aH 1) (dU (yJ (aH 2) aP) (eZ gR gQ rfl B.len iE (aM (aH 1) aQ))) (fun _ _=>rfl)))) eW)
   (bL (eU .s (fV (iN hu) iM (dU (yJ (aH 2) aP) aP) aP (eG _)) (bO (cJ .s (uZ (dU (yJ (aH 2) aP) aP) aP))) eW)
   (bO (cJ .s (uZ (dU (aH 0) (uZ (lT aP (LK aP aP)) aP)) (uZ (LK aP aP) aP)))))))
noncomputable def Sy:SF:=(bC (bX 3 0 .s (eOp bT (aL dA (aF (aC 2) (aF (eC (.int 7)) aJ))) (eC (.int 6))))
 (bC (bX 4 0 .s (eOp bT (aL dA (aF (aC 2) (aF (eC (.int 8)) aJ))) (aL cI (aF (aC 0) aJ))))
 (bC (sIf .s (bOf (eOp gEq (aC 3) (eC (.int 0)))) (bY 0 .s (eOp cB (eSl (aC 0) oN (oS (aC 4))) (eSl (aC 0) (oS (eOp cB (aC 4) (eC (.int 1)))) oN))) dI)
 (bC (sIf .s (bOf (eOp gLt (aC 3) (eC (.int 3)))) (bC (bX 5 0 .s (eOp gIx (eC (.str " :,|-0137abnz")) (eOp bT (aL dA (aF (aC 2) (aF (eC (.int 9)) aJ))) (eC (.int 13)))))
 (bY 0 .s (eOp cB (eOp cB (eSl (aC 0) oN (oS (aC 4))) (aC 5)) (eSl (aC 0) (oS (aC 4)) oN)))) dI)
 (bC (sIf .s (bOf (eOp gEq (aC 3) (eC (.int 3)))) (bC (bX 6 0 .s (eSl (aC 0) (oS (aC 4)) (oS (eOp cB (aC 4) (eC (.int 2))))))
 (bY 0 .s (eOp cB (eOp cB (eOp cB (eSl (aC 0) oN (oS (aC 4))) (eSl (aC 6) (oS (eC (.int 1))) oN)) (eSl (aC 6) oN (oS (eC (.int 1))))) (eSl (aC 0) (oS (eOp cB (aC 4) (eC (.int 2)))) oN)))) dI)
 (bC (sIf .s (bOf (eOp gEq (aC 3) (eC (.int 4)))) (bC (bX 7 0 .s (eOp bT (aL dA (aF (aC 2) (aF (eC (.int 10)) aJ))) (eC (.int 9))))
 (bY 0 .s (eOp cB (eSl (aC 0) oN (oS (eOp cB (aC 4) (aC 7)))) (eSl (aC 0) (oS (aC 4)) oN)))) dI)
 (bY 0 .s (eOp cB (eSl (aC 0) oN (oS (aC 4))) (eSl (aC 1) (oS (eOp bT (aL dA (aF (aC 2) (aF (eC (.int 11)) aJ))) (aL cI (aF (aC 1) aJ)))) oN)))))))))
noncomputable def rC:List aA->Option aA:=fnD 3 8 Sy
theorem Sq (F:Fun K "_law_changed" "_law_changed" KW f fd)(B:Blt mg)(C:Cst mg)(V:Xcs K mg)(D__law_mix:Def P w K mg base "_law_mix" 1 nJ (spF K 0 dA)):FnOk P w K mg base CX0 2 f fd zT (spF K 0 rC):=by
 have nd:=Ah6.nd
 exact dY F Ah6 rfl (by decide) fun cdv A outer s H E P0 hr=>by
  have hu:=dN hr
  have hv:=dM hr
  refine bL ?_ ?_
  refine cS (i:=3) 0 .s ?_ ?_ ?_ ?_ ?_ ?_
  exact nd
  rfl
  first | exact aX rfl | exact bD rfl
  refine dU ?_ aP
  refine bM D__law_mix (hr.mono (by decide)) rfl ?_
  refine aM ?_ ?_ ?_
  exact(aH 2)
  refine aM ?_ ?_ ?_
  exact aP
  exact aQ
  rfl
  rfl
  rfl
  first | exact aX rfl | exact bD rfl | assumption
  refine bL ?_ ?_
  refine cS (i:=4) 0 .s ?_ ?_ ?_ ?_ ?_ ?_
  exact nd
  rfl
  first | exact aX rfl | exact bD rfl
  refine dU ?_ ?_
  refine bM D__law_mix (hr.mono (by decide)) rfl ?_
  refine aM ?_ ?_ ?_
  exact(aH 2)
  refine aM ?_ ?_ ?_
  exact aP
  exact aQ
  rfl
  rfl
  refine eZ gR gQ rfl B.len iE ?_
  refine aM ?_ ?_ ?_
  exact(aH 0)
  exact aQ
  rfl
  rfl
  first | exact aX rfl | exact bD rfl | assumption
  refine bL ?_ ?_
  refine eU .s ?_ ?_ eW
  refine fV (iN hu) iM ?_ aP (eG _)
  exact(aH 3)
  refine bO ?_
  refine cJ .s ?_
  refine dC ?_ ?_
  refine jX ?_ iY ?_
  exact(aH 0)
  refine iA ?_
  exact(aH 4)
  refine jX ?_ ?_ iY
  exact(aH 0)
  refine iA ?_
  refine dC ?_ aP
  exact(aH 4)
  refine bL ?_ ?_
  refine eU .s ?_ ?_ eW
  refine fV (A7q.or DP) CA ?_ aP (eG _)
  exact(aH 3)
  refine bL ?_ ?_
  refine cS (i:=5) 0 .s ?_ ?_ ?_ ?_ ?_ ?_
  exact nd
  rfl
  first | exact aX rfl | exact bD rfl
  refine cT hv iW ?_ (fun _ _=>rfl)
  refine dU ?_ aP
  refine bM D__law_mix (hr.mono (by decide)) rfl ?_
  refine aM ?_ ?_ ?_
  exact(aH 2)
  refine aM ?_ ?_ ?_
  exact aP
  exact aQ
  rfl
  rfl
  rfl
  first | exact aX rfl | exact bD rfl | assumption
  refine bO ?_
  refine cJ .s ?_
  refine dC ?_ ?_
  refine dC ?_ ?_
  refine jX ?_ iY ?_
  exact(aH 0)
  refine iA ?_
  exact(aH 4)
  exact(aH 5)
  refine jX ?_ ?_ iY
  exact(aH 0)
  refine iA ?_
  exact(aH 4)
  refine bL ?_ ?_
  refine eU .s ?_ ?_ eW
  refine fV (iN hu) iM ?_ aP (eG _)
  exact(aH 3)
  refine bL ?_ ?_
  refine cS (i:=6) 0 .s ?_ ?_ ?_ ?_ ?_ ?_
  exact nd
  rfl
  first | exact aX rfl | exact bD rfl
  refine jX ?_ ?_ ?_
  exact(aH 0)
  refine iA ?_
  exact(aH 4)
  refine iA ?_
  refine dC ?_ aP
  exact(aH 4)
  rfl
  first | exact aX rfl | exact bD rfl | assumption
  refine bO ?_
  refine cJ .s ?_
  refine dC ?_ ?_
  refine dC ?_ ?_
  refine dC ?_ ?_
  refine jX ?_ iY ?_
  exact(aH 0)
  refine iA ?_
  exact(aH 4)
  refine jX ?_ ?_ iY
  exact(aH 6)
  exact(iA aP)
  refine jX ?_ iY ?_
  exact(aH 6)
  exact(iA aP)
  refine jX ?_ ?_ iY
  exact(aH 0)
  refine iA ?_
  refine dC ?_ aP
  exact(aH 4)
  refine bL ?_ ?_
  refine eU .s ?_ ?_ eW
  refine fV (iN hu) iM ?_ aP (eG _)
  exact(aH 3)
  refine bL ?_ ?_
  refine cS (i:=7) 0 .s ?_ ?_ ?_ ?_ ?_ ?_
  exact nd
  rfl
  first | exact aX rfl | exact bD rfl
  refine dU ?_ aP
  refine bM D__law_mix (hr.mono (by decide)) rfl ?_
  refine aM ?_ ?_ ?_
  exact(aH 2)
  refine aM ?_ ?_ ?_
  exact aP
  exact aQ
  rfl
  rfl
  rfl
  first | exact aX rfl | exact bD rfl | assumption
  refine bO ?_
  refine cJ .s ?_
  refine dC ?_ ?_
  refine jX ?_ iY ?_
  exact(aH 0)
  refine iA ?_
  refine dC ?_ ?_
  exact(aH 4)
  exact(aH 7)
  refine jX ?_ ?_ iY
  exact(aH 0)
  refine iA ?_
  exact(aH 4)
  refine bO ?_
  refine cJ .s ?_
  refine dC ?_ ?_
  refine jX ?_ iY ?_
  exact(aH 0)
  refine iA ?_
  exact(aH 4)
  refine jX ?_ ?_ iY
  exact(aH 1)
  refine iA ?_
  refine dU ?_ ?_
  refine bM D__law_mix (hr.mono (by decide)) rfl ?_
  refine aM ?_ ?_ ?_
  exact(aH 2)
  refine aM ?_ ?_ ?_
  exact aP
  exact aQ
  rfl
  rfl
  refine eZ gR gQ rfl B.len iE ?_
  refine aM ?_ ?_ ?_
  exact(aH 1)
  exact aQ
  rfl
end Aw
namespace Aw
open PySem L2
set_option maxHeartbeats 4000000
variable {P:bS}{w:bB}{K:aK}{mg:aB->Option aE}{base:aU}{f:aD}{fd:gD}
noncomputable def Yj:SF:=(bY 0 .s (eOr (aL kU (aF (aC 0) aJ)) (aL yZ (aF (aC 0) aJ))))
noncomputable def nG:List aA->Option aA:=fnD 1 1 Yj
theorem Pk (F:Fun K "is_term" "is_term" JF f fd)(B:Blt mg)(C:Cst mg)(V:Xcs K mg)(D_is_name:Def P w K mg base "is_name" 1 vR (spF K 0 kU))(D_is_number:Def P w K mg base "is_number" 2 zJ (spF K 0 yZ)):FnOk P w K mg base CX0 3 f fd yS (spF K 0 nG):=by
 have nd:=Aoo.nd
 exact dY F Aoo rfl (by decide) fun cdv A outer s H E P0 hr=>by
  have hu:=dN hr
  have hv:=dM hr
  exact(bO (cJ .s (Ft (bM D_is_name (hr.mono (by decide)) rfl (aM (aH 0) aQ)) (pC (bM D_is_number (hr.mono (by decide)) rfl (aM (aH 0) aQ))))))
noncomputable def Tp:SF:=(bC (bX 1 0 .s (aL tH (aF (eOp uQ (eOp gIx (aC 0) (eC (.int 0))) (gX (aF (eC (.str ":")) aJ))) aJ)))
 (bC (sIf .s (bOf (eOp gEq (aL cI (aF (eOp gIx (aC 0) (eC (.int 1))) aJ)) (eC (.int 0)))) (bY 0 .s (aC 1)) dI)
 (bY 0 .s (eOp cB (eOp cB (aC 1) (eC (.str " "))) (eOp nC (eC (.str ", ")) (eLC [none] (iIt (eOp gIx (aC 0) (eC (.int 1)))) (gB 0) cQ (aL wB (aF (aC 0) aJ))))))))
noncomputable def wQ:List aA->Option aA:=fnD 1 2 Tp
theorem Tq (F:Fun K "show_alternative" "show_alternative" EO f fd)(B:Blt mg)(C:Cst mg)(V:Xcs K mg)(D_show_words:Def P w K mg base "show_words" 1 wG (spF K 0 tH))(D_show_line:Def P w K mg base "show_line" 2 zK (spF K 0 wB)):FnOk P w K mg base CX0 3 f fd zW (spF K 0 wQ):=by
 have nd:=Af6.nd
 exact dY F Af6 rfl (by decide) fun cdv A outer s H E P0 hr=>by
  have hu:=dN hr
  have hv:=dM hr
  exact(bL (cS (i:=1) 0 .s nd rfl (by first | exact aX rfl | exact bD rfl) (bM D_show_words (hr.mono (by decide)) rfl (aM (QH (cT hv (aH 0) aP (fun _ _=>rfl)) (nZ (aM iW aQ))) aQ)))
   (bL (eU .s (fV (iN hu) iM (eZ gR gQ rfl B.len iE (aM (cT hv (aH 0) aP (fun _ _=>rfl)) aQ)) aP (eG _)) (bO (cJ .s (aH 1))) eW)
   (bO (cJ .s (dC (dC (aH 1) iW) (yF iW (dW (n:=1) (hE rfl (fY (N:=["line"]) (cap:=[none]) (out:=(bJ EO).names) (XN:=XU) rfl rfl (by decide +kernel) rfl) fT (gJ (cT hv (aH 0) aP (fun _ _=>rfl))) (fun cl C s₀ H₀ ex=>⟨fW (j:=0) (show(["line"]:List aB).Nodup by decide +kernel) rfl (aX rfl),gK,(bM D_show_line (hr.mono (by decide)) rfl (aM (aH 0) aQ))⟩)))))))))
noncomputable def Qa:SF:=(bY 0 .s (aL pE (aF (eLC [none] (iIt (aC 0)) (gB 0) cQ (aL qW (aF (aC 0) aJ))) aJ)))
noncomputable def qZ:List aA->Option aA:=fnD 1 1 Qa
theorem Qs (F:Fun K "terms_of" "terms_of" DR f fd)(B:Blt mg)(C:Cst mg)(V:Xcs K mg)(D_term_of:Def P w K mg base "term_of" 2 yV (spF K 0 qW)):FnOk P w K mg base CX0 3 f fd vZ (spF K 0 qZ):=by
 have nd:=Ane.nd
 exact dY F Ane rfl (by decide) fun cdv A outer s H E P0 hr=>by
  have hu:=dN hr
  have hv:=dM hr
  exact(bO (cJ .s (oF zN zG rfl B.tuple tU (aM (dW (n:=1) (hE rfl (fY (N:=["word"]) (cap:=[none]) (out:=(bJ DR).names) (XN:=WI) rfl rfl (by decide +kernel) rfl) fT (gJ (aH 0)) (fun cl C s₀ H₀ ex=>⟨fW (j:=0) (show(["word"]:List aB).Nodup by decide +kernel) rfl (aX rfl),gK,(bM D_term_of (hr.mono (by decide)) rfl (aM (aH 0) aQ))⟩))) aQ))))
noncomputable def Sf:SF:=(bC (bX 2 1 .s (lN aJ))
 (bC (jC .s (iIt (aL rB (aF (aC 0) (aF (aC 1) aJ)))) (gNm 3) (oK 2 .a (gX (aF (aC 3) (aF (eOp cB (eC (.int 1)) (eOp bT (aL dA (aF (aC 0) (aF (eOp cB (eC (.int 60)) (aL cI (aF (aC 2) aJ))) aJ))) (eC (.int 6)))) aJ)))))
 (sH 2 1)))
noncomputable def wL:List aA->Option aA:=fnD 2 4 Sf
theorem Sz (F:Fun K "_law_tables" "_law_tables" KR f fd)(B:Blt mg)(C:Cst mg)(V:Xcs K mg)(D__law_mix:Def P w K mg base "_law_mix" 1 nJ (spF K 0 dA))(D__law_names:Def P w K mg base "_law_names" 2 wC (spF K 1 rB)):FnOk P w K mg base CX0 3 f fd zO (spF K 1 wL):=by
 have nd:=Ain.nd
 exact dY F Ain rfl (by decide) fun cdv A outer s H E P0 hr=>by
  have hu:=dN hr
  have hv:=dM hr
  exact(bL (cS (i:=2) 1 .s nd rfl (by first | exact aX rfl | exact bD rfl) (pG aQ))
   (bL (vG rN rfl (gJ (dW (n:=1) (bM D__law_names (hr.mono (by decide)) rfl (aM (aH 0) (aM (aH 1) aQ))))) (pJ (i:=3) nd rfl (by first | exact aX rfl | exact bD rfl)) (bO (DK 2 .a (nZ (aM (aH 3) (aM (dC aP (dU (bM D__law_mix (hr.mono (by decide)) rfl (aM (aH 0) (aM (dC aP (eZ gR gQ rfl B.len iE (aM (aH 2) aQ))) aQ))) aP)) aQ))))))
   (bO (yG 2))))
noncomputable def Rx:SF:=(bC (bX 5 1 .s (lN aJ))
 (bC (bX 6 0 .s (aC 1))
 (bC (jC .s (iR1 (aF (aC 4) aJ)) (gNm 7) (bC (bX 8 0 .s (aL dA (aF (aL fX (aF (aC 0) (aF (aC 6) aJ))) (aF (eC (.int 8)) aJ))))
 (bC (bX 9 0 .s (eOp gIx (aC 2) (eOp bT (aC 8) (aL cI (aF (aC 2) aJ)))))
 (bC (bX 10 1 .s (eLC [none,some 3,some 0,some 6] (iR1 (aF (eOp gIx (aC 9) (eC (.int 1))) aJ)) (gB 0) cQ (aL sY (aF (aL fX (aF (aC 2) (aF (eOp cB (eOp cB (aC 3) (eC (.int 1))) (aC 0)) aJ))) (aF (aC 1) aJ)))))
 (pM 10 (bC (oK 5 .s (gX (aF (eOp gIx (aC 9) (eC (.int 0))) (aF (aL pE (aF (aC 10) aJ)) aJ))))
 (bC (sIf .s (rE (bOf (eOp gGt (aC 7) (eC (.int 0)))) (bOf (eOp gEq (eOp bT (eOp jW (aC 8) (eC (.int 8))) (eC (.int 6))) (eC (.int 0))))) (sJ 5 .a (eOp gIx (aC 5) (eOp bT (eOp jW (aC 8) (eC (.int 64))) (aC 7))) .s (aC 7)) dI)
 (bX 6 0 .s (eOp cB (eOp cB (aC 6) (eC (.int 1))) (eOp gIx (aC 9) (eC (.int 1))))))))))))
 (sH 5 1))))
noncomputable def wF:List aA->Option aA:=fnD 5 11 Rx
theorem Sk (F:Fun K "_law_lines" "_law_lines" zF f fd)(B:Blt mg)(C:Cst mg)(V:Xcs K mg)(D__law_cell:Def P w K mg base "_law_cell" 1 sZ (spF K 0 fX))(D__law_mix:Def P w K mg base "_law_mix" 1 nJ (spF K 0 dA))(D__law_term:Def P w K mg base "_law_term" 2 zI (spF K 0 sY)):FnOk P w K mg base CX0 3 f fd zE (spF K 1 wF):=by
 have nd:=Aj4.nd
 exact dY F Aj4 rfl (by decide) fun cdv A outer s H E P0 hr=>by
  have hu:=dN hr
  have hv:=dM hr
  exact(bL (cS (i:=5) 1 .s nd rfl (by first | exact aX rfl | exact bD rfl) (pG aQ))
   (bL (cS (i:=6) 0 .s nd rfl (by first | exact aX rfl | exact bD rfl) (aH 1))
   (bL (HL .s rN rfl (oE rfl B.range (aM (aH 4) aQ)) (pJ (i:=7) nd rfl (by first | exact aX rfl | exact bD rfl)) (bL (cS (i:=8) 0 .s nd rfl (by first | exact aX rfl | exact bD rfl) (bM D__law_mix (hr.mono (by decide)) rfl (aM (bM D__law_cell (hr.mono (by decide)) rfl (aM (aH 0) (aM (aH 6) aQ))) (aM aP aQ))))
   (bL (cS (i:=9) 0 .s nd rfl (by first | exact aX rfl | exact bD rfl) (cT hv (aH 2) (dU (aH 8) (eZ gR gQ rfl B.len iE (aM (aH 2) aQ))) (fun _ _=>rfl)))
   (bL (by first | exact(IZ (i:=10) .s rfl nd rfl (by first | exact aX rfl | exact bD rfl) (fY (N:=["_law_j","_law_names_here","_law_script","_law_at"]) (cap:=[none,some 3,some 0,some 6]) (out:=(bJ zF).names) (XN:=KS) rfl rfl (by decide +kernel) rfl) fT (sQ (oE rfl B.range (aM (cT hv (aH 9) aP (fun _ _=>rfl)) aQ))) (fun cl C s₀ H₀ ex=>⟨fW (j:=0) (show(["_law_j","_law_names_here","_law_script","_law_at"]:List aB).Nodup by decide +kernel) rfl (aX rfl),gK,(bM D__law_term (hr.mono (by decide)) rfl (aM (bM D__law_cell (hr.mono (by decide)) rfl (aM (aH 2) (aM (dC (dC (aH 3) aP) (aH 0)) aQ))) (aM (aH 1) aQ)))⟩)) | exact(cS (i:=10) 1 .s nd rfl (by first | exact aX rfl | exact bD rfl) (hE rfl (fY (N:=["_law_j","_law_names_here","_law_script","_law_at"]) (cap:=[none,some 3,some 0,some 6]) (out:=(bJ zF).names) (XN:=KS) rfl rfl (by decide +kernel) rfl) fT (sQ (oE rfl B.range (aM (cT hv (aH 9) aP (fun _ _=>rfl)) aQ))) (fun cl C s₀ H₀ ex=>⟨fW (j:=0) (show(["_law_j","_law_names_here","_law_script","_law_at"]:List aB).Nodup by decide +kernel) rfl (aX rfl),gK,(bM D__law_term (hr.mono (by decide)) rfl (aM (bM D__law_cell (hr.mono (by decide)) rfl (aM (aH 2) (aM (dC (dC (aH 3) aP) (aH 0)) aQ))) (aM (aH 1) aQ)))⟩))))
   (sT 10 (bL (DK 5 .s (nZ (aM (cT hv (aH 9) aP (fun _ _=>rfl)) (aM (oF zN zG rfl B.tuple tU (aM (aH 10) aQ)) aQ))))
   (bL (eU .s (rF (OW (fV xZ yE (aH 7) aP (eG _)) (Ah (fV (iN hu) iM (dU (yJ (aH 8) aP) aP) aP (eG _))))) (bO (IB 5 .a .s (cT hv (aH 5) (dU (yJ (aH 8) aP) (aH 7)) (fun _ _=>rfl)) (aH 7))) eW)
   (bO (cS (i:=6) 0 .s nd rfl (by first | exact aX rfl | exact bD rfl) (dC (dC (aH 6) aP) (cT hv (aH 9) aP (fun _ _=>rfl))))))))))))
   (bO (yG 5)))))
noncomputable def Qv:SF:=(bC (sIf .s (bOr (eK (bOf (eUn (gF "tuple") (aC 0)))) (eK (bOf (iX gLe gLe (aC 1) (aL cI (aF (aC 0) aJ)) (aC 2))))) (bY 0 .s (eC (.bool false))) dI)
 (bY 0 .s (aL lO (aF (eLC [none] (iIt (aC 0)) (gB 0) cQ (aL nG (aF (aC 0) aJ))) aJ))))
noncomputable def kT:List aA->Option aA:=fnD 3 3 Qv
theorem Ru (F:Fun K "are_terms" "are_terms" DY f fd)(B:Blt mg)(C:Cst mg)(V:Xcs K mg)(D_is_term:Def P w K mg base "is_term" 3 yS (spF K 0 nG)):FnOk P w K mg base CX0 4 f fd wJ (spF K 0 kT):=by
 have nd:=Ak9.nd
 exact dY F Ak9 rfl (by decide) fun cdv A outer s H E P0 hr=>by
  have hu:=dN hr
  have hv:=dM hr
  exact(bL (eU .s (rF (sF (lY (jY (oA (T:="tuple") rfl B.isinstance rfl B.tuple tU (by decide) (aH 0)))) (vE (lY (II (Atz.or sX) (Atz.or sX) sM sM (aH 1) (eZ gR gQ rfl B.len iE (aM (aH 0) aQ)) (aH 2)))))) (bO (cJ .s mK)) eW)
   (bO (cJ .s (eZ (vT rfl) vP rfl B.all boot_all (aM (dW (n:=1) (hE rfl (fY (N:=["term"]) (cap:=[none]) (out:=(bJ DY).names) (XN:=WZ) rfl rfl (by decide +kernel) rfl) fT (gJ (aH 0)) (fun cl C s₀ H₀ ex=>⟨fW (j:=0) (show(["term"]:List aB).Nodup by decide +kernel) rfl (aX rfl),gK,(bM D_is_term (hr.mono (by decide)) rfl (aM (aH 0) aQ))⟩))) aQ)))))
noncomputable def Ta:SF:=(bC (sIf .s (bOf (eOp gEq (aL cI (aF (aC 0) aJ)) (eC (.int 0)))) (bY 0 .s (eC (.str "none"))) dI)
 (bY 0 .s (eOp nC (eC (.str " | ")) (eLC [none] (iIt (aC 0)) (gB 0) cQ (aL wQ (aF (aC 0) aJ))))))
noncomputable def mM:List aA->Option aA:=fnD 1 1 Ta
theorem Tg (F:Fun K "show_question" "show_question" EN f fd)(B:Blt mg)(C:Cst mg)(V:Xcs K mg)(D_show_alternative:Def P w K mg base "show_alternative" 3 zW (spF K 0 wQ)):FnOk P w K mg base CX0 4 f fd tL (spF K 0 mM):=by
 have nd:=Ahn.nd
 exact dY F Ahn rfl (by decide) fun cdv A outer s H E P0 hr=>by
  have hu:=dN hr
  have hv:=dM hr
  exact(bL (eU .s (fV (iN hu) iM (eZ gR gQ rfl B.len iE (aM (aH 0) aQ)) aP (eG _)) (bO (cJ .s iW)) eW)
   (bO (cJ .s (yF iW (dW (n:=1) (hE rfl (fY (N:=["alternative"]) (cap:=[none]) (out:=(bJ EN).names) (XN:=XQ) rfl rfl (by decide +kernel) rfl) fT (gJ (aH 0)) (fun cl C s₀ H₀ ex=>⟨fW (j:=0) (show(["alternative"]:List aB).Nodup by decide +kernel) rfl (aX rfl),gK,(bM D_show_alternative (hr.mono (by decide)) rfl (aM (aH 0) aQ))⟩)))))))
noncomputable def Za:SF:=(bC (bX 1 0 .s (eOp jM (aC 0) (eC (.str " "))))
 (bY 0 .s (gX (aF (eOp gIx (aC 1) (eC (.int 0))) (aF (aL qZ (aF (kL (aC 1) (oS (eC (.int 1))) oN) aJ)) aJ)))))
noncomputable def nH:List aA->Option aA:=fnD 1 2 Za
theorem Ox (F:Fun K "line_of" "line_of" JV f fd)(B:Blt mg)(C:Cst mg)(V:Xcs K mg)(D_terms_of:Def P w K mg base "terms_of" 3 vZ (spF K 0 qZ)):FnOk P w K mg base CX0 4 f fd yR (spF K 0 nH):=by
 have nd:=Aom.nd
 exact dY F Aom rfl (by decide) fun cdv A outer s H E P0 hr=>by
  have hu:=dN hr
  have hv:=dM hr
  exact(bL (cS (i:=1) 0 .s nd rfl (by first | exact aX rfl | exact bD rfl) (dW (n:=1) (CW (aH 0) iW)))
   (bO (cJ .s (nZ (aM (cT hv (aH 1) aP (fun _ _=>rfl)) (aM (bM D_terms_of (hr.mono (by decide)) rfl (aM (dW (n:=1) (BX (aH 1) (iA aP) iY)) aQ)) aQ))))))
noncomputable def Sr:SF:=(bC (bX 2 0 .s (aL fX (aF (aC 0) (aF (aC 1) aJ))))
 (bC (bX 3 0 .s (aL rB (aF (aL fX (aF (aC 0) (aF (eC (.int 1)) aJ))) (aF (eC (.int 3)) aJ))))
 (bC (bX 4 0 .s (aL wL (aF (aL fX (aF (aC 0) (aF (eC (.int 1)) aJ))) (aF (eC (.int 3)) aJ))))
 (bC (bX 5 0 .s (eOp bT (aL dA (aF (aC 2) (aF (eC (.int 5)) aJ))) (eC (.int 4))))
 (bC (bX 6 1 .s (lN aJ))
 (bC (jC .s (iR1 (aF (eOp bT (aL dA (aF (aC 2) (aF (eC (.int 6)) aJ))) (eC (.int 4))) aJ)) (gNm 7) (bC (bX 8 0 .s (aL fX (aF (aC 0) (aF (eOp cB (eOp cB (aC 1) (eC (.int 2))) (eOp fO (eC (.int 9)) (aC 7))) aJ))))
 (bC (bX 9 0 .s (aL wF (aF (aC 0) (aF (eOp cB (eOp cB (aC 1) (eC (.int 3))) (eOp fO (eC (.int 9)) (aC 7))) (aF (aC 4) (aF (aC 3) (aF (eOp bT (aL dA (aF (aC 8) (aF (eC (.int 25)) aJ))) (eC (.int 4))) aJ)))))))
 (bC (bX 10 1 .s (lN (aF (eOp nD (eOp bT (aL dA (aF (aC 8) (aF (eC (.int 44)) aJ))) (eC (.int 9))) (eC (.int 4))) aJ)))
 (bC (jC .s (iIt (aC 9)) (gNm 11) (zZ 10 .s (eOp gIx (aC 11) (eC (.int 1)))))
 (pM 10 (bC (bX 12 1 .s (eLC [none,some 10,some 8] (iR1 (aF (aC 5) aJ)) (gB 0) cQ (eOp gIx (aC 1) (eOp bT (aL dA (aF (aC 2) (aF (eOp cB (eC (.int 40)) (aC 0)) aJ))) (aL cI (aF (aC 1) aJ))))))
 (pM 12 (oK 6 .s (gX (aF (aL pE (aF (aC 12) aJ)) (aF (aL pE (aF (aC 9) aJ)) aJ))))))))))))
 (sH 6 1)))))))
noncomputable def tJ:List aA->Option aA:=fnD 2 13 Sr
theorem Th (F:Fun K "_law_question" "_law_question" zS f fd)(B:Blt mg)(C:Cst mg)(V:Xcs K mg)(D__law_cell:Def P w K mg base "_law_cell" 1 sZ (spF K 0 fX))(D__law_mix:Def P w K mg base "_law_mix" 1 nJ (spF K 0 dA))(D__law_names:Def P w K mg base "_law_names" 2 wC (spF K 1 rB))(D__law_tables:Def P w K mg base "_law_tables" 3 zO (spF K 1 wL))(D__law_lines:Def P w K mg base "_law_lines" 3 zE (spF K 1 wF)):FnOk P w K mg base CX0 4 f fd zP (spF K 1 tJ):=by
 have nd:=Aho.nd
 exact dY F Aho rfl (by decide) fun cdv A outer s H E P0 hr=>by
  have hu:=dN hr
  have hv:=dM hr
  refine bL ?_ ?_
  refine cS (i:=2) 0 .s ?_ ?_ ?_ ?_ ?_ ?_
  exact nd
  rfl
  first | exact aX rfl | exact bD rfl
  refine bM D__law_cell (hr.mono (by decide)) rfl ?_
  refine aM ?_ ?_ ?_
  exact(aH 0)
  refine aM ?_ ?_ ?_
  exact(aH 1)
  exact aQ
  rfl
  rfl
  rfl
  first | exact aX rfl | exact bD rfl | assumption
  refine bL ?_ ?_
  refine cS (i:=3) 0 .s ?_ ?_ ?_ ?_ ?_ ?_
  exact nd
  rfl
  first | exact aX rfl | exact bD rfl
  refine dW (n:=1) ?_
  refine bM D__law_names (hr.mono (by decide)) rfl ?_
  refine aM ?_ ?_ ?_
  refine bM D__law_cell (hr.mono (by decide)) rfl ?_
  refine aM ?_ ?_ ?_
  exact(aH 0)
  refine aM ?_ ?_ ?_
  exact aP
  exact aQ
  rfl
  rfl
  refine aM ?_ ?_ ?_
  exact aP
  exact aQ
  rfl
  rfl
  rfl
  first | exact aX rfl | exact bD rfl | assumption
  refine bL ?_ ?_
  refine cS (i:=4) 0 .s ?_ ?_ ?_ ?_ ?_ ?_
  exact nd
  rfl
  first | exact aX rfl | exact bD rfl
  refine dW (n:=1) ?_
  refine bM D__law_tables (hr.mono (by decide)) rfl ?_
  refine aM ?_ ?_ ?_
  refine bM D__law_cell (hr.mono (by decide)) rfl ?_
  refine aM ?_ ?_ ?_
  exact(aH 0)
  refine aM ?_ ?_ ?_
  exact aP
  exact aQ
  rfl
  rfl
  refine aM ?_ ?_ ?_
  exact aP
  exact aQ
  rfl
  rfl
  rfl
  first | exact aX rfl | exact bD rfl | assumption
  refine bL ?_ ?_
  refine cS (i:=5) 0 .s ?_ ?_ ?_ ?_ ?_ ?_
  exact nd
  rfl
  first | exact aX rfl | exact bD rfl
  refine dU ?_ aP
  refine bM D__law_mix (hr.mono (by decide)) rfl ?_
  refine aM ?_ ?_ ?_
  exact(aH 2)
  refine aM ?_ ?_ ?_
  exact aP
  exact aQ
  rfl
  rfl
  rfl
  first | exact aX rfl | exact bD rfl | assumption
  refine bL ?_ ?_
  refine cS (i:=6) 1 .s ?_ ?_ ?_ ?_ ?_ ?_
  exact nd
  rfl
  first | exact aX rfl | exact bD rfl
  exact(pG aQ)
  rfl
  first | exact aX rfl | exact bD rfl | assumption
  refine bL ?_ ?_
  refine HL .s rN rfl ?_ ?_ ?_
  refine oE rfl B.range ?_
  refine aM ?_ ?_ ?_
  refine dU ?_ aP
  refine bM D__law_mix (hr.mono (by decide)) rfl ?_
  refine aM ?_ ?_ ?_
  exact(aH 2)
  refine aM ?_ ?_ ?_
  exact aP
  exact aQ
  rfl
  rfl
  exact aQ
  rfl
  exact(pJ (i:=7) nd rfl (by first | exact aX rfl | exact bD rfl))
  refine bL ?_ ?_
  refine cS (i:=8) 0 .s ?_ ?_ ?_ ?_ ?_ ?_
  exact nd
  rfl
  first | exact aX rfl | exact bD rfl
  refine bM D__law_cell (hr.mono (by decide)) rfl ?_
  refine aM ?_ ?_ ?_
  exact(aH 0)
  refine aM ?_ ?_ ?_
  refine dC ?_ ?_
  refine dC ?_ aP
  exact(aH 1)
  refine lT aP ?_
  exact(aH 7)
  exact aQ
  rfl
  rfl
  rfl
  first | exact aX rfl | exact bD rfl | assumption
  refine bL ?_ ?_
  refine cS (i:=9) 0 .s ?_ ?_ ?_ ?_ ?_ ?_
  exact nd
  rfl
  first | exact aX rfl | exact bD rfl
  refine dW (n:=1) ?_
  refine bM D__law_lines (hr.mono (by decide)) rfl ?_
  refine aM ?_ ?_ ?_
  exact(aH 0)
  refine aM ?_ ?_ ?_
  refine dC ?_ ?_
  refine dC ?_ aP
  exact(aH 1)
  refine lT aP ?_
  exact(aH 7)
  refine aM ?_ ?_ ?_
  exact(aH 4)
  refine aM ?_ ?_ ?_
  exact(aH 3)
  refine aM ?_ ?_ ?_
  refine dU ?_ aP
  refine bM D__law_mix (hr.mono (by decide)) rfl ?_
  refine aM ?_ ?_ ?_
  exact(aH 8)
  refine aM ?_ ?_ ?_
  exact aP
  exact aQ
  rfl
  rfl
  exact aQ
  rfl
  rfl
  rfl
  rfl
  rfl
  rfl
  first | exact aX rfl | exact bD rfl | assumption
  refine bL ?_ ?_
  refine cS (i:=10) 1 .s ?_ ?_ ?_ ?_ ?_ ?_
  exact nd
  rfl
  first | exact aX rfl | exact bD rfl
  refine pG ?_
  refine aM ?_ ?_ ?_
  refine uZ ?_ aP
  refine dU ?_ aP
  refine bM D__law_mix (hr.mono (by decide)) rfl ?_
  refine aM ?_ ?_ ?_
  exact(aH 8)
  refine aM ?_ ?_ ?_
  exact aP
  exact aQ
  rfl
  rfl
  exact aQ
  rfl
  rfl
  first | exact aX rfl | exact bD rfl | assumption
  refine bL ?_ ?_
  refine vG ?_ ?_ ?_ ?_ ?_ ?_
  exact rN
  rfl
  refine gJ ?_
  exact(aH 9)
  exact(pJ (i:=11) nd rfl (by first | exact aX rfl | exact bD rfl))
  refine bO ?_
  refine VJ 10 .s ?_
  refine cT hv ?_ aP (fun _ _=>rfl)
  exact(aH 11)
  intro _; rfl
  refine sT 10 ?_
  refine bL (by first | exact(IZ (i:=12) .s rfl nd rfl (by first | exact aX rfl | exact bD rfl) (fY (N:=["_law_j","_law_flat","_law_cell_here"]) (cap:=[none,some 10,some 8]) (out:=(bJ zS).names) (XN:=KZ) rfl rfl (by decide +kernel) rfl) fT (sQ (oE rfl B.range (aM (aH 5) aQ))) (fun cl C s₀ H₀ ex=>⟨fW (j:=0) (show(["_law_j","_law_flat","_law_cell_here"]:List aB).Nodup by decide +kernel) rfl (aX rfl),gK,(cT hv (aH 1) (dU (bM D__law_mix (hr.mono (by decide)) rfl (aM (aH 2) (aM (dC aP (aH 0)) aQ))) (eZ gR gQ rfl B.len iE (aM (aH 1) aQ))) (fun _ _=>rfl))⟩)) | exact(cS (i:=12) 1 .s nd rfl (by first | exact aX rfl | exact bD rfl) (hE rfl (fY (N:=["_law_j","_law_flat","_law_cell_here"]) (cap:=[none,some 10,some 8]) (out:=(bJ zS).names) (XN:=KZ) rfl rfl (by decide +kernel) rfl) fT (sQ (oE rfl B.range (aM (aH 5) aQ))) (fun cl C s₀ H₀ ex=>⟨fW (j:=0) (show(["_law_j","_law_flat","_law_cell_here"]:List aB).Nodup by decide +kernel) rfl (aX rfl),gK,(cT hv (aH 1) (dU (bM D__law_mix (hr.mono (by decide)) rfl (aM (aH 2) (aM (dC aP (aH 0)) aQ))) (eZ gR gQ rfl B.len iE (aM (aH 1) aQ))) (fun _ _=>rfl))⟩)))) ?_
  refine sT 12 ?_
  refine bO ?_
  refine DK 6 .s ?_
  refine nZ ?_
  refine aM ?_ ?_ ?_
  refine oF zN zG rfl B.tuple tU ?_
  refine aM ?_ ?_ ?_
  exact(aH 12)
  exact aQ
  rfl
  refine aM ?_ ?_ ?_
  refine oF zN zG rfl B.tuple tU ?_
  refine aM ?_ ?_ ?_
  exact(aH 9)
  exact aQ
  rfl
  exact aQ
  rfl
  rfl
  refine bO ?_
  exact(yG 6)
noncomputable def Wy:SF:=(bY 0 .s (mH (aL qX (aF (aC 0) aJ)) (mH (aL kU (aF (eOp gIx (aC 0) (eC (.int 0))) aJ)) (aL kT (aF (eOp gIx (aC 0) (eC (.int 1))) (aF (eC (.int 1)) (aF (eC (.int 6)) aJ)))))))
noncomputable def nF:List aA->Option aA:=fnD 1 1 Wy
theorem Os (F:Fun K "is_line" "is_line" JE f fd)(B:Blt mg)(C:Cst mg)(V:Xcs K mg)(D_is_name:Def P w K mg base "is_name" 1 vR (spF K 0 kU))(D_is_pair:Def P w K mg base "is_pair" 1 vW (spF K 0 qX))(D_are_terms:Def P w K mg base "are_terms" 4 wJ (spF K 0 kT)):FnOk P w K mg base CX0 5 f fd yT (spF K 0 nF):=by
 obtain⟨_,h_MOST_TERMS⟩:=C.MOST_TERMS
 have nd:=Apg.nd
 exact dY F Apg rfl (by decide) fun cdv A outer s H E P0 hr=>by
  have hu:=dN hr
  have hv:=dM hr
  exact(bO (cJ .s (pH (bM D_is_pair (hr.mono (by decide)) rfl (aM (aH 0) aQ)) (pH (bM D_is_name (hr.mono (by decide)) rfl (aM (cT hv (aH 0) aP (fun _ _=>rfl)) aQ)) (pC (bM D_are_terms (hr.mono (by decide)) rfl (aM (cT hv (aH 0) aP (fun _ _=>rfl)) (aM aP (aM (vO (i:=6) rfl h_MOST_TERMS ⟨_,rfl⟩) aQ)))))))))
noncomputable def XT:SF:=(bC (bX 1 0 .s (eOp AC (aC 0) (eC (.str ":"))))
 (bC (bX 2 0 .s (aL qZ (aF (kL (eOp jM (eOp gIx (aC 1) (eC (.int 0))) (eC (.str " "))) oN (oS (eUn xT (eC (.int 1))))) aJ)))
 (bC (sIf .s (bOf (eOp gEq (eOp gIx (aC 1) (eC (.int 2))) (eC (.str "")))) (bY 0 .s (gX (aF (aC 2) (aF (gX aJ) aJ)))) dI)
 (bY 0 .s (gX (aF (aC 2) (aF (aL pE (aF (eLC [none] (iIt (eOp jM (eSl (eOp gIx (aC 1) (eC (.int 2))) (oS (eC (.int 1))) oN) (eC (.str ", ")))) (gB 0) cQ (aL nH (aF (aC 0) aJ))) aJ)) aJ)))))))
noncomputable def oJ:List aA->Option aA:=fnD 1 3 XT
theorem Tn (F:Fun K "alternative_of" "alternative_of" ER f fd)(B:Blt mg)(C:Cst mg)(V:Xcs K mg)(D_terms_of:Def P w K mg base "terms_of" 3 vZ (spF K 0 qZ))(D_line_of:Def P w K mg base "line_of" 4 yR (spF K 0 nH)):FnOk P w K mg base CX0 5 f fd zV (spF K 0 oJ):=by
 have nd:=Ag1.nd
 exact dY F Ag1 rfl (by decide) fun cdv A outer s H E P0 hr=>by
  have hu:=dN hr
  have hv:=dM hr
  exact(bL (cS (i:=1) 0 .s nd rfl (by first | exact aX rfl | exact bD rfl) (Lv (aH 0) iW))
   (bL (cS (i:=2) 0 .s nd rfl (by first | exact aX rfl | exact bD rfl) (bM D_terms_of (hr.mono (by decide)) rfl (aM (dW (n:=1) (BX (dW (n:=1) (CW (cT hv (aH 1) aP (fun _ _=>rfl)) iW)) iY (iA (Gp aP)))) aQ)))
   (bL (eU .s (fV (iN hu) iM (cT hv (aH 1) aP (fun _ _=>rfl)) iW (eG _)) (bO (cJ .s (nZ (aM (aH 2) (aM (nZ aQ) aQ))))) eW)
   (bO (cJ .s (nZ (aM (aH 2) (aM (oF zN zG rfl B.tuple tU (aM (dW (n:=1) (hE rfl (fY (N:=["part"]) (cap:=[none]) (out:=(bJ ER).names) (XN:=XS) rfl rfl (by decide +kernel) rfl) fT (gJ (dW (n:=1) (CW (jX (cT hv (aH 1) aP (fun _ _=>rfl)) (iA aP) iY) iW))) (fun cl C s₀ H₀ ex=>⟨fW (j:=0) (show(["part"]:List aB).Nodup by decide +kernel) rfl (aX rfl),gK,(bM D_line_of (hr.mono (by decide)) rfl (aM (aH 0) aQ))⟩))) aQ)) aQ))))))))
noncomputable def Qn:SF:=(bC (sIf .s (bOr (eK (bOf (eUn (gF "tuple") (aC 0)))) (bOf (eOp gGt (aL cI (aF (aC 0) aJ)) (eC (.int 5))))) (bY 0 .s (eC (.bool false))) dI)
 (bY 0 .s (aL lO (aF (eLC [none] (iIt (aC 0)) (gB 0) cQ (aL nF (aF (aC 0) aJ))) aJ))))
noncomputable def oI:List aA->Option aA:=fnD 1 1 Qn
theorem Sh (F:Fun K "are_lines" "are_lines" EA f fd)(B:Blt mg)(C:Cst mg)(V:Xcs K mg)(D_is_line:Def P w K mg base "is_line" 5 yT (spF K 0 nF)):FnOk P w K mg base CX0 6 f fd zH (spF K 0 oI):=by
 obtain⟨_,h_MOST_LINES⟩:=C.MOST_LINES
 have nd:=Akz.nd
 exact dY F Akz rfl (by decide) fun cdv A outer s H E P0 hr=>by
  have hu:=dN hr
  have hv:=dM hr
  exact(bL (eU .s (rF (sF (lY (jY (oA (T:="tuple") rfl B.isinstance rfl B.tuple tU (by decide) (aH 0)))) (vE (fV xZ yE (eZ gR gQ rfl B.len iE (aM (aH 0) aQ)) (vO (i:=5) rfl h_MOST_LINES ⟨_,rfl⟩) (eG _))))) (bO (cJ .s mK)) eW)
   (bO (cJ .s (eZ (vT rfl) vP rfl B.all boot_all (aM (dW (n:=1) (hE rfl (fY (N:=["line"]) (cap:=[none]) (out:=(bJ EA).names) (XN:=XA) rfl rfl (by decide +kernel) rfl) fT (gJ (aH 0)) (fun cl C s₀ H₀ ex=>⟨fW (j:=0) (show(["line"]:List aB).Nodup by decide +kernel) rfl (aX rfl),gK,(bM D_is_line (hr.mono (by decide)) rfl (aM (aH 0) aQ))⟩))) aQ)))))
noncomputable def Sn:SF:=(bC (sIf .s (bOf (eOp gEq (aC 0) (eC (.str "none")))) (bY 1 .s (lN aJ)) dI)
 (bY 1 .s (eLC [none] (iIt (eOp jM (aC 0) (eC (.str " | ")))) (gB 0) cQ (aL oJ (aF (aC 0) aJ)))))
noncomputable def wM:List aA->Option aA:=fnD 1 1 Sn
theorem Sw (F:Fun K "question_of" "question_of" EI f fd)(B:Blt mg)(C:Cst mg)(V:Xcs K mg)(D_alternative_of:Def P w K mg base "alternative_of" 5 zV (spF K 0 oJ)):FnOk P w K mg base CX0 6 f fd zM (spF K 1 wM):=by
 have nd:=Ais.nd
 exact dY F Ais rfl (by decide) fun cdv A outer s H E P0 hr=>by
  have hu:=dN hr
  have hv:=dM hr
  exact(bL (eU .s (fV (iN hu) iM (aH 0) iW (eG _)) (bO (cJ .s (pG aQ))) eW)
   (bO (cJ .s (hE rfl (fY (N:=["part"]) (cap:=[none]) (out:=(bJ EI).names) (XN:=XE) rfl rfl (by decide +kernel) rfl) fT (gJ (dW (n:=1) (CW (aH 0) iW))) (fun cl C s₀ H₀ ex=>⟨fW (j:=0) (show(["part"]:List aB).Nodup by decide +kernel) rfl (aX rfl),gK,(bM D_alternative_of (hr.mono (by decide)) rfl (aM (aH 0) aQ))⟩)))))
noncomputable def Tf:SF:=(bC (sIf .s (bOr (eK (bOf (aL qX (aF (aC 0) aJ)))) (bOr (eK (bOf (aL kT (aF (eOp gIx (aC 0) (eC (.int 0))) (aF (eC (.int 0)) (aF (eC (.int 4)) aJ)))))) (eK (bOf (aL oI (aF (eOp gIx (aC 0) (eC (.int 1))) aJ)))))) (bY 0 .s (eC (.bool false))) dI)
 (bY 0 .s (mH (aL wI (aF (eOp gIx (aC 0) (eC (.int 0))) (aF (eOp gIx (aC 0) (eC (.int 1))) aJ))) (aL rD (aF (eOp gIx (aC 0) (eC (.int 1))) aJ)))))
noncomputable def iB:List aA->Option aA:=fnD 1 1 Tf
theorem To (F:Fun K "is_alternative" "is_alternative" KY f fd)(B:Blt mg)(C:Cst mg)(V:Xcs K mg)(D_is_pair:Def P w K mg base "is_pair" 1 vW (spF K 0 qX))(D_of_one_width:Def P w K mg base "of_one_width" 2 wO (spF K 0 rD))(D_stands_in:Def P w K mg base "stands_in" 2 zA (spF K 0 wI))(D_are_terms:Def P w K mg base "are_terms" 4 wJ (spF K 0 kT))(D_are_lines:Def P w K mg base "are_lines" 6 zH (spF K 0 oI)):FnOk P w K mg base CX0 7 f fd zU (spF K 0 iB):=by
 obtain⟨_,h_MOST_HEAD_TERMS⟩:=C.MOST_HEAD_TERMS
 have nd:=Agr.nd
 exact dY F Agr rfl (by decide) fun cdv A outer s H E P0 hr=>by
  have hu:=dN hr
  have hv:=dM hr
  exact(bL (eU .s (rF (sF (lY (jY (bM D_is_pair (hr.mono (by decide)) rfl (aM (aH 0) aQ)))) (sF (lY (jY (bM D_are_terms (hr.mono (by decide)) rfl (aM (cT hv (aH 0) aP (fun _ _=>rfl)) (aM aP (aM (vO (i:=4) rfl h_MOST_HEAD_TERMS ⟨_,rfl⟩) aQ)))))) (vE (lY (jY (bM D_are_lines (hr.mono (by decide)) rfl (aM (cT hv (aH 0) aP (fun _ _=>rfl)) aQ)))))))) (bO (cJ .s mK)) eW)
   (bO (cJ .s (pH (bM D_stands_in (hr.mono (by decide)) rfl (aM (cT hv (aH 0) aP (fun _ _=>rfl)) (aM (cT hv (aH 0) aP (fun _ _=>rfl)) aQ))) (pC (bM D_of_one_width (hr.mono (by decide)) rfl (aM (cT hv (aH 0) aP (fun _ _=>rfl)) aQ)))))))
noncomputable def Sm:SF:=(bC (sIf .s (bOr (eK (bOf (eUn (gF "list") (aC 0)))) (bOf (eOp gGt (aL cI (aF (aC 0) aJ)) (eC (.int 3))))) (bY 0 .s (eC (.bool false))) dI)
 (bC (sIf .s (eK (bOf (aL lO (aF (eLC [none] (iIt (aC 0)) (gB 0) cQ (aL iB (aF (aC 0) aJ))) aJ)))) (bY 0 .s (eC (.bool false))) dI)
 (bC (bX 1 1 .s (lN aJ))
 (bC (jC .s (iIt (aC 0)) (gNm 2) (zZ 1 .s (eOp gIx (aC 2) (eC (.int 1)))))
 (pM 1 (bY 0 .s (mH (aL zR (aF (eLC [none] (iIt (aC 0)) (gB 0) cQ (eOp gIx (aC 0) (eC (.int 0)))) aJ)) (aL rD (aF (aC 1) aJ)))))))))
noncomputable def mC:List aA->Option aA:=fnD 1 3 Sm
theorem Sv (F:Fun K "is_question" "is_question" zL f fd)(B:Blt mg)(C:Cst mg)(V:Xcs K mg)(D_of_one_length:Def P w K mg base "of_one_length" 1 zQ (spF K 0 zR))(D_of_one_width:Def P w K mg base "of_one_width" 2 wO (spF K 0 rD))(D_is_alternative:Def P w K mg base "is_alternative" 7 zU (spF K 0 iB)):FnOk P w K mg base CX0 8 f fd wK (spF K 0 mC):=by
 obtain⟨_,h_MOST_ALTERNATIVES⟩:=C.MOST_ALTERNATIVES
 have nd:=Aim.nd
 exact dY F Aim rfl (by decide) fun cdv A outer s H E P0 hr=>by
  have hu:=dN hr
  have hv:=dM hr
  exact(bL (eU .s (rF (sF (lY (jY (oA (T:="list") rfl B.isinstance rfl B.list Bi (by decide) (aH 0)))) (vE (fV xZ yE (eZ gR gQ rfl B.len iE (aM (aH 0) aQ)) (vO (i:=3) rfl h_MOST_ALTERNATIVES ⟨_,rfl⟩) (eG _))))) (bO (cJ .s mK)) eW)
   (bL (eU .s (lY (jY (eZ (vT rfl) vP rfl B.all boot_all (aM (dW (n:=1) (hE rfl (fY (N:=["alternative"]) (cap:=[none]) (out:=(bJ zL).names) (XN:=KQ) rfl rfl (by decide +kernel) rfl) fT (gJ (aH 0)) (fun cl C s₀ H₀ ex=>⟨fW (j:=0) (show(["alternative"]:List aB).Nodup by decide +kernel) rfl (aX rfl),gK,(bM D_is_alternative (hr.mono (by decide)) rfl (aM (aH 0) aQ))⟩))) aQ)))) (bO (cJ .s mK)) eW)
   (bL (cS (i:=1) 1 .s nd rfl (by first | exact aX rfl | exact bD rfl) (pG aQ))
   (bL (vG rN rfl (gJ (aH 0)) (pJ (i:=2) nd rfl (by first | exact aX rfl | exact bD rfl)) (bO (VJ 1 .s (cT hv (aH 2) aP (fun _ _=>rfl)))))
   (sT 1 (bO (cJ .s (pH (bM D_of_one_length (hr.mono (by decide)) rfl (aM (dW (n:=1) (hE rfl (fY (N:=["alternative"]) (cap:=[none]) (out:=(bJ zL).names) (XN:=KQ) rfl rfl (by decide +kernel) rfl) fT (gJ (aH 0)) (fun cl C s₀ H₀ ex=>⟨fW (j:=0) (show(["alternative"]:List aB).Nodup by decide +kernel) rfl (aX rfl),gK,(cT hv (aH 0) aP (fun _ _=>rfl))⟩))) aQ)) (pC (bM D_of_one_width (hr.mono (by decide)) rfl (aM (aH 1) aQ)))))))))))
noncomputable def JJ (z:Option aB):SF:=(bC (sIf .s (bOf (eUn (gF "str") (aC 0))) (bC (bX 4 1 .s (aL wM (aFn 1 "question_of" (aF (aC 0) aJ))))
 (sIf .a (rE (bOf (aL mC (aFn 2 "is_question" (aF (aC 4) aJ)))) (bOf (eOp gEq (aL mM (aFn 3 "show_question" (aF (aC 4) aJ))) (aC 0)))) (sH 4 1) dI)) dI)
 (YB z "NoText"))
noncomputable def yQ:FX:=fun z=>fnD 4 5 (JJ z)
theorem Oc (F:Fun K "read_by" "read_by" JQ f fd)(B:Blt mg)(C:Cst mg)(V:Xcs K mg)(D_show_question:Def P w K mg base "show_question" 4 tL (spF K 0 mM))(D_question_of:Def P w K mg base "question_of" 6 zM (spF K 1 wM))(D_is_question:Def P w K mg base "is_question" 8 wK (spF K 0 mC)):FnOk P w K mg base (CXR base P w) 9 f fd yP (spX K 1 yQ):=by
 have nd:=Ao7.nd
 exact OZ F Ao7 rfl (by decide) fun cdv A outer s H E P0 z hr hz=>by
  have hu:=dN hr
  have hv:=dM hr
  exact(bL (eU .s (jY (oA (T:="str") rfl B.isinstance rfl B.str FR (by decide) (aH 0))) (bL (cS (i:=4) 1 .s nd rfl (by first | exact aX rfl | exact bD rfl) (HZ (i:=1) (c:="question_of") rfl (aX rfl) D_question_of (hr.mono (by decide)) (aM (aH 0) aQ)))
   (bO (eU .a (rF (OW (jY (HZ (i:=2) (c:="is_question") rfl (aX rfl) D_is_question (hr.mono (by decide)) (aM (aH 4) aQ))) (Ah (fV (iN hu) iM (HZ (i:=3) (c:="show_question") rfl (aX rfl) D_show_question (hr.mono (by decide)) (aM (aH 4) aQ)) (aH 0) (eG _))))) (bO (yG 4)) eW))) eW)
   (bO (Va hz V.r_NoText rfl rfl)))
noncomputable def XO (z:Option aB):SF:=(bY 1 .s (aL (yQ z) (aF (aC 0) (aF (eC (fnV "question_of")) (aF (eC (fnV "is_question")) (aF (eC (fnV "show_question")) aJ))))))
noncomputable def pL:FX:=fun z=>fnD 1 1 (XO z)
theorem Te (F:Fun K "read_question" "read_question" LA f fd)(B:Blt mg)(C:Cst mg)(V:Xcs K mg)(D_read_by:DefX P w K mg base "read_by" 9 yP (spX K 1 yQ)):FnOk P w K mg base (CXR base P w) 10 f fd wN (spX K 1 pL):=by
 have nd:=Aht.nd
 exact OZ F Aht rfl (by decide) fun cdv A outer s H E P0 z hr hz=>by
  have hu:=dN hr
  have hv:=dM hr
  exact(bO (Kd .s (evX .s hz D_read_by (hr.mono (by decide)) rfl (aM (aH 0) (aM (HJ V.f_question_of rfl) (aM (HJ V.f_is_question rfl) (aM (HJ V.f_show_question rfl) aQ)))))))
noncomputable def Rl:SF:=(bC (sD "NoText" pL (aF (aC 0) aJ) (NO 1 1) (bY 0 .s (eC (.bool true))))
 (pM 1 (bC (sIf .s (bOf (eOp HE (aL mC (aF (aC 1) aJ)) (eC (.bool true)))) (bY 0 .s (eC (.bool false))) dI)
 (bY 0 .s (eOp gEq (aL mM (aF (aC 1) aJ)) (aC 0))))))
noncomputable def rA:List aA->Option aA:=fnD 1 2 Rl
theorem Se (F:Fun K "_law_holds" "_law_holds" KU f fd)(B:Blt mg)(C:Cst mg)(V:Xcs K mg)(D_show_question:Def P w K mg base "show_question" 4 tL (spF K 0 mM))(D_is_question:Def P w K mg base "is_question" 8 wK (spF K 0 mC))(D_read_question:DefX P w K mg base "read_question" 10 wN (spX K 1 pL)):FnOk P w K mg base CX0 11 f fd zD (spF K 0 rA):=by
 have nd:=Aj3.nd
 exact dY F Aj3 rfl (by decide) fun cdv A outer s H E P0 hr=>by
  have hu:=dN hr
  have hv:=dM hr
  exact(bL (Yw (c:="NoText") (Dt V.t_NoText rfl rfl rfl rfl (by decide)) D_read_question (hr.mono (by decide)) rfl (fun _ _=>(aM (aH 0) aQ)) nd rfl (by first | exact aX rfl | exact bD rfl) (fun _=>(bO (cJ .s mK))))
   (sT 1 (bL (eU .s (fV Mk Ve (bM D_is_question (hr.mono (by decide)) rfl (aM (aH 1) aQ)) mK (eG _)) (bO (cJ .s mK)) eW)
   (bO (cJ .s (lU (iN hu) iM (bM D_show_question (hr.mono (by decide)) rfl (aM (aH 1) aQ)) (aH 0) (eG _)))))))
end Aw
namespace Aw
open PySem L2
set_option maxHeartbeats 4000000
variable {P:bS}{w:bB}{K:aK}{mg:aB->Option aE}{base:aU}{f:aD}{fd:gD}
noncomputable def Fo:SF:=(bC (bX 1 0 .s (aL tJ (aF (aC 0) (aF (eC (.int 0)) aJ))))
 (bC (bX 2 0 .s (aL tJ (aF (aC 0) (aF (eC (.int 30)) aJ))))
 (bC (sIf .s (bOf (eOp gEq (eOp bT (aL dA (aF (aL fX (aF (aC 0) (aF (eC (.int 60)) aJ))) (aF (eC (.int 12)) aJ))) (eC (.int 3))) (eC (.int 0)))) (bX 2 0 .s (aL HH (aF (aC 1) aJ))) dI)
 (bC (bX 3 0 .s (lN (aF (aL mM (aF (aC 1) aJ)) (aF (aL mM (aF (aC 2) aJ)) aJ))))
 (bC (sIf .s (bOf (eOp gNe (eOp gEq (eOp gIx (aC 3) (eC (.int 0))) (eOp gIx (aC 3) (eC (.int 1)))) (eOp gEq (aC 1) (aC 2)))) (bY 0 .s (eC (.bool false))) dI)
 (bC (jC .s (iIt (eOp xX (lN (aF (aL fX (aF (aC 0) (aF (eC (.int 61)) aJ))) (aF (aL fX (aF (aC 0) (aF (eC (.int 62)) aJ))) aJ))) (kL (aC 0) oN (oS (eC (.int 22)))))) (gNm 4) (bC (bX 5 0 .s (eOp bT (aL dA (aF (aC 4) (aF (eC (.int 13)) aJ))) (eC (.int 2))))
 (sIf .s (eK (bOf (aL rA (aF (aL rC (aF (eOp gIx (aC 3) (aC 5)) (aF (eOp gIx (aC 3) (eOp nD (eC (.int 1)) (aC 5))) (aF (aC 4) aJ)))) aJ)))) (bY 0 .s (eC (.bool false))) dI)))
 (bY 0 .s (mH (aL rA (aF (eOp gIx (aC 3) (eC (.int 0))) aJ)) (eOp gEq (aL (pL none) (aF (eOp gIx (aC 3) (eC (.int 1))) aJ)) (aC 2))))))))))
noncomputable def EY:List aA->Option aA:=fnD 1 6 Fo
theorem Jc (F:Fun K "law" "law" sI f fd)(B:Blt mg)(C:Cst mg)(V:Xcs K mg)(D__law_cell:Def P w K mg base "_law_cell" 1 sZ (spF K 0 fX))(D__law_mix:Def P w K mg base "_law_mix" 1 nJ (spF K 0 dA))(D__law_changed:Def P w K mg base "_law_changed" 2 zT (spF K 0 rC))(D_show_question:Def P w K mg base "show_question" 4 tL (spF K 0 mM))(D__law_question:Def P w K mg base "_law_question" 4 zP (spF K 1 tJ))(D_read_question:DefX P w K mg base "read_question" 10 wN (spX K 1 pL))(D__law_holds:Def P w K mg base "_law_holds" 11 zD (spF K 0 rA)):FnOk P w K mg base CX0 12 f fd OH (spF K 0 EY):=by
 have nd:=Bao.nd
 exact dY F Bao rfl (by decide) fun cdv A outer s H E P0 hr=>by
  have hu:=dN hr
  have hv:=dM hr
  refine bL ?_ ?_
  refine cS (i:=1) 0 .s ?_ ?_ ?_ ?_ ?_ ?_
  exact nd
  rfl
  first | exact aX rfl | exact bD rfl
  refine dW (n:=1) ?_
  refine bM D__law_question (hr.mono (by decide)) rfl ?_
  refine aM ?_ ?_ ?_
  exact(aH 0)
  refine aM ?_ ?_ ?_
  exact aP
  exact aQ
  rfl
  rfl
  rfl
  first | exact aX rfl | exact bD rfl | assumption
  refine bL ?_ ?_
  refine cS (i:=2) 0 .s ?_ ?_ ?_ ?_ ?_ ?_
  exact nd
  rfl
  first | exact aX rfl | exact bD rfl
  refine dW (n:=1) ?_
  refine bM D__law_question (hr.mono (by decide)) rfl ?_
  refine aM ?_ ?_ ?_
  exact(aH 0)
  refine aM ?_ ?_ ?_
  exact aP
  exact aQ
  rfl
  rfl
  rfl
  first | exact aX rfl | exact bD rfl | assumption
  refine bL ?_ ?_
  refine eU .s ?_ ?_ eW
  refine fV (iN hu) iM ?_ aP (eG _)
  refine dU ?_ aP
  refine bM D__law_mix (hr.mono (by decide)) rfl ?_
  refine aM ?_ ?_ ?_
  refine bM D__law_cell (hr.mono (by decide)) rfl ?_
  refine aM ?_ ?_ ?_
  exact(aH 0)
  refine aM ?_ ?_ ?_
  exact aP
  exact aQ
  rfl
  rfl
  refine aM ?_ ?_ ?_
  exact aP
  exact aQ
  rfl
  rfl
  refine bO ?_
  refine cS (i:=2) 0 .s ?_ ?_ ?_ ?_ ?_ ?_
  exact nd
  rfl
  first | exact aX rfl | exact bD rfl
  refine dW (n:=1) ?_
  refine oF (Ry rfl) Ol rfl B.list Bi ?_
  refine aM ?_ ?_ ?_
  exact(aH 1)
  exact aQ
  rfl
  rfl
  first | exact aX rfl | exact bD rfl | assumption
  refine bL ?_ ?_
  refine cS (i:=3) 0 .s ?_ ?_ ?_ ?_ ?_ ?_
  exact nd
  rfl
  first | exact aX rfl | exact bD rfl
  refine dW (n:=1) ?_
  refine pG ?_
  refine aM ?_ ?_ ?_
  refine bM D_show_question (hr.mono (by decide)) rfl ?_
  refine aM ?_ ?_ ?_
  exact(aH 1)
  exact aQ
  rfl
  refine aM ?_ ?_ ?_
  refine bM D_show_question (hr.mono (by decide)) rfl ?_
  refine aM ?_ ?_ ?_
  exact(aH 2)
  exact aQ
  rfl
  exact aQ
  rfl
  rfl
  rfl
  first | exact aX rfl | exact bD rfl | assumption
  refine bL ?_ ?_
  refine eU .s ?_ ?_ eW
  refine fV (Gm hu) Ie ?_ ?_ (eG _)
  refine lU (iN hu) iM ?_ ?_ (eG _)
  refine cT hv ?_ aP (fun _ _=>rfl)
  exact(aH 3)
  refine cT hv ?_ aP (fun _ _=>rfl)
  exact(aH 3)
  refine lU (iN hu) iM ?_ ?_ (eG _)
  exact(aH 1)
  exact(aH 2)
  refine bO ?_
  exact(cJ .s mK)
  refine bL ?_ ?_
  refine vG ?_ ?_ ?_ ?_ ?_ ?_
  exact rN
  rfl
  refine gJ ?_
  refine dW (n:=1) ?_
  refine Gz ?_ ?_
  refine dW (n:=1) ?_
  refine pG ?_
  refine aM ?_ ?_ ?_
  refine bM D__law_cell (hr.mono (by decide)) rfl ?_
  refine aM ?_ ?_ ?_
  exact(aH 0)
  refine aM ?_ ?_ ?_
  exact aP
  exact aQ
  rfl
  rfl
  refine aM ?_ ?_ ?_
  refine bM D__law_cell (hr.mono (by decide)) rfl ?_
  refine aM ?_ ?_ ?_
  exact(aH 0)
  refine aM ?_ ?_ ?_
  exact aP
  exact aQ
  rfl
  rfl
  exact aQ
  rfl
  rfl
  refine dW (n:=1) ?_
  refine BX ?_ iY ?_
  exact(aH 0)
  exact(iA aP)
  exact(pJ (i:=4) nd rfl (by first | exact aX rfl | exact bD rfl))
  refine bL ?_ ?_
  refine cS (i:=5) 0 .s ?_ ?_ ?_ ?_ ?_ ?_
  exact nd
  rfl
  first | exact aX rfl | exact bD rfl
  refine dU ?_ aP
  refine bM D__law_mix (hr.mono (by decide)) rfl ?_
  refine aM ?_ ?_ ?_
  exact(aH 4)
  refine aM ?_ ?_ ?_
  exact aP
  exact aQ
  rfl
  rfl
  rfl
  first | exact aX rfl | exact bD rfl | assumption
  refine bO ?_
  refine eU .s ?_ ?_ eW
  refine lY ?_
  refine jY ?_
  refine bM D__law_holds (hr.mono (by decide)) rfl ?_
  refine aM ?_ ?_ ?_
  refine bM D__law_changed (hr.mono (by decide)) rfl ?_
  refine aM ?_ ?_ ?_
  refine cT hv ?_ ?_ (fun _ _=>rfl)
  exact(aH 3)
  exact(aH 5)
  refine aM ?_ ?_ ?_
  refine cT hv ?_ ?_ (fun _ _=>rfl)
  exact(aH 3)
  refine uZ aP ?_
  exact(aH 5)
  refine aM ?_ ?_ ?_
  exact(aH 4)
  exact aQ
  rfl
  rfl
  rfl
  exact aQ
  rfl
  refine bO ?_
  exact(cJ .s mK)
  intro _; rfl
  refine bO ?_
  refine cJ .s ?_
  refine pH ?_ ?_
  refine bM D__law_holds (hr.mono (by decide)) rfl ?_
  refine aM ?_ ?_ ?_
  refine cT hv ?_ aP (fun _ _=>rfl)
  exact(aH 3)
  exact aQ
  rfl
  refine pC ?_
  refine lU (iN hu) iM ?_ ?_ (eG _)
  refine dW (n:=1) ?_
  refine ZZ D_read_question (hr.mono (by decide)) rfl ?_
  refine aM ?_ ?_ ?_
  refine cT hv ?_ aP (fun _ _=>rfl)
  exact(aH 3)
  exact aQ
  rfl
  exact(aH 2)
end Aw
namespace L2
open PySem PySem.Spec PyProof.Rows
theorem Vc {F:SF}{T:aA->bE->Option bE}(P:Nat->bE->Prop){ds:List aA}{ρ:bE}(h0:P 0 ρ)
  (step : ∀ i d ρ,ds[i]?=some d->P i ρ -> ∃ ρ1 ρ2,T d ρ=some ρ1/\(F ρ1=some (.nx ρ2) \/ F ρ1=some (.ct ρ2))/\P (i+1) ρ2) : ∃ ρ',oO F T ds ρ=some (.nx ρ')/\P ds.length ρ':=by
 have go : ∀ (rest:List aA) (i:Nat) (ρ:bE),ds.drop i=rest->i+rest.length=ds.length->P i ρ -> ∃ ρ',oO F T rest ρ=some (.nx ρ')/\P ds.length ρ':=by
  intro rest
  induction rest with
  | nil=>
   intro i ρ _ hl p
   simp at hl
   subst hl
   exact⟨ρ,rfl,p⟩
  | cons d r ih=>
   intro i ρ hd hl p
   have hi:ds[i]?=some d:=by
    have:=congrArg (·[0]?) hd
    simpa using this
   obtain⟨ρ1,ρ2,e1,e2,p2⟩:=step i d ρ hi p
   have hd2:ds.drop (i+1)=r:=by
    have:=congrArg List.tail hd
    simpa using this
   obtain⟨ρ',e3,p3⟩:=ih (i+1) ρ2 hd2 (by simp at hl; omega) p2
   refine⟨ρ',?_,p3⟩
   show((T d ρ).bind fun ρ1=>(F ρ1).bind fun o=>match o with
    | .nx ρ'=>oO F T r ρ'
    | .ct ρ'=>oO F T r ρ'
    | .bk ρ'=>some (.nx ρ')
    | .rt d=>some (.rt d))=some (.nx ρ')
   rw[e1]
   rcases e2 with e2 | e2
   ·simp only[cH,e2]; exact e3
   ·simp only[cH,e2]; exact e3
 exact go ds 0 ρ (by simp) (by simp) h0
theorem Ac {T:aA->List (Option aA)->Option (List (Option aA))}{t:BF}{f:EF}{ρ:List (Option aA)}(R:aA->aA->Prop) : ∀ (ds:List aA),(∀ d∈ds,∃ ρ1 y,T d ρ=some ρ1/\t ρ1=some true/\f ρ1=some y/\R d y) ->
  ∃ ys,lcD T t f ρ ds=some ys/\eR R ds ys
 | [],_=>⟨[],rfl,.nil⟩
 | d::r,h=>by
  obtain⟨ρ1,y,e1,e2,e3,hr⟩:=h d bQ
  obtain⟨ys,e4,hp⟩:=Ac R r fun d' m=>h d' (cA _ m)
  refine⟨y::ys,?_,.cons hr hp⟩
  show((T d ρ).bind fun ρ1=>(t ρ1).bind fun c=>if c=true then(f ρ1).bind fun y=>(lcD T t f ρ r).bind fun ys=>some (y::ys) else lcD T t f ρ r)=some (y::ys)
  simp[e1,e2,e3,e4]
theorem YT {T:aA->List (Option aA)->Option (List (Option aA))}{t:BF}{f:EF}{ρ:List (Option aA)}(g:aA->aA) : ∀ (ds:List aA),(∀ d∈ds,∃ ρ1,T d ρ=some ρ1/\t ρ1=some true/\f ρ1=some (g d))->lcD T t f ρ ds=some (ds.map g)
 | [],_=>rfl
 | d::r,h=>by
  obtain⟨ρ1,e1,e2,e3⟩:=h d bQ
  have e4:=YT g r fun d' m=>h d' (cA _ m)
  show((T d ρ).bind fun ρ1=>(t ρ1).bind fun c=>if c=true then(f ρ1).bind fun y=>(lcD T t f ρ r).bind fun ys=>some (y::ys) else lcD T t f ρ r)=some (g d::r.map g)
  simp[e1,e2,e3,e4]
theorem Paired.mem_right {α β:Type}{R:α->β->Prop} : ∀ {as:List α} {bs:List β},eR R as bs -> ∀ b∈bs,∃ a∈as,R a b:=by
 intro as bs h
 induction h with
 | nil=>exact fun b m=>by simp at m
 | cons h _ ih=>
  intro b m
  rcases cN.mp m with rfl | m
  ·exact⟨_,bQ,h⟩
  ·obtain⟨a,ha,hr⟩:=ih b m
   exact⟨a,cA _ ha,hr⟩
theorem Il {F G:SF}{ρ ρ':bE}(h:F ρ=some (.nx ρ')):bC F G ρ=G ρ':=by
 unfold bC
 rw[h]
 rfl
theorem Ip {F G:SF}{ρ:bE}{d:aA}(h:F ρ=some (.rt d)):bC F G ρ=some (.rt d):=by
 unfold bC
 rw[h]
 rfl
theorem Kj {m:Md}{fi:AF}{T:aA->bE->Option bE}{F:SF}{ρ:bE}{ds:List aA}{o:Out}(h:aV m fi ρ=some ds)(h2:oO F T ds ρ=some o):jC m fi T F ρ=some o:=by
 unfold jC
 rw[h]
 exact h2
theorem OK {np n:Nat}{body:SF}{ds:List aA}{d:aA}(hl:ds.length=np)(h:body (ds.map (fun d=>some (0,d))++mU (n - np) none)=some (.rt d)):fnD np n body ds=some d:=by
 unfold fnD
 rw[if_pos hl,h]
 rfl
theorem Of {α β:Type}{R:α->β->Prop}{as:List α}{bs:List β}(h:eR R as bs):bs.length=as.length:=(pU h).symm
theorem PN {β:Type}{g:β->aA}{R:β->Prop} : ∀ (ys:List aA),(∀ y∈ys,∃ c,y=g c/\R c) -> ∃ cs:List β,ys=cs.map g /\ ∀ c∈cs,R c
 | [],_=>⟨[],rfl,fun _ m=>by simp at m⟩
 | y::r,h=>by
  obtain⟨c,e,hc⟩:=h y bQ
  obtain⟨cs,e2,h2⟩:=PN r fun z m=>h z (cA _ m)
  refine⟨c::cs,by rw[e,e2]; rfl,fun x m=>?_⟩
  rcases cN.mp m with rfl | m
  ·exact hc
  ·exact h2 x m
theorem He {ds:List aA}{k:Nat}(h:k≤ds.length):cutD ds none (some (k:Int))=ds.take k:=by
 unfold cutD
 rw[HT.Alr,HT.Auy]
 simp[AY h]
theorem eL {n:Nat}(h:n≤100000):n≤sizeLine:=jB h (by decide)
theorem CL {n:Nat}(h:n≤100000):n<sizeLine:=Bm h (by decide)
noncomputable def letter (c:Nat):Bool:=decide (97≤c)&&decide (c≤122)
noncomputable def figure (c:Nat):Bool:=decide (48≤c)&&decide (c≤57)
noncomputable def fK (c:Nat):Bool:=letter c||figure c
theorem Zj {c:Nat}(h:letter c=true):fK c=true:=by simp[fK,h]
theorem JG {c:Nat}(h:fK c=true):c<128:=by
 simp[fK,letter,figure] at h
 omega
def Fl (cs:List Nat):Prop:=∃ c r,cs=c::r/\letter c=true/\(∀ x∈cs,fK x=true)/\cs.length≤12
noncomputable abbrev jT (cs:List Nat):aB:=⟨cs.toArray⟩
def nameS (z:aB):Prop:=Fl z.cps.toList
theorem Ik {z:aB}(h : ∀ c∈z.cps.toList,fK c=true):cD (.str z)=true:=by
 have:z.cps.all (fun x=>decide (x<1114112))=true:=by
  rw[Cr]
  intro x hx
  have:=JG (h x (by simpa using hx))
  simp; omega
 simpa [cD,tV] using this
theorem nameS.lay {z:aB}(h:nameS z):cD (.str z)=true:=by
 obtain⟨c,r,_,_,h,_⟩:=h
 exact Ik h
noncomputable def cM (c:Nat):aA:=.str ⟨#[c]⟩
noncomputable def SIGNS:aB:="abcdefghijklmnopqrstuvwxyz0123456789"
theorem signs_at : ∀ j<36,∃ c,SIGNS.cps.toList[j]?=some c/\fK c=true/\(j<26->letter c=true):=by decide +kernel
theorem QU {i:Int}(h0:0≤i)(h1:i<36) : ∃ c,gIx (.str SIGNS) (.int i)=some (cM c)/\fK c=true/\(i<26->letter c=true):=by
 obtain⟨j,rfl⟩:=kH h0
 obtain⟨c,e,h2,h3⟩:=signs_at j (by omega)
 refine⟨c,?_,h2,fun h=>h3 (by omega)⟩
 show(if SIGNS.length≤sizeLine then(atI SIGNS.cps.toList (j:Int)).bind fun c=>some (bN ⟨#[c]⟩) else none)=_
 rw[if_pos (by decide +kernel),pK e]
 rfl
theorem VN : ∀ cs:List Nat,mI (cs.map cM)=some (cs.map fun c=>(⟨#[c]⟩:aB))
 | []=>rfl
 | c::r=>by
  show((mI (r.map cM)).bind fun xs=>some ((⟨#[c]⟩:aB)::xs))=_
  rw[VN r]
  rfl
theorem SI : ∀ cs:List Nat,((cs.map fun c=>(⟨#[c]⟩:aB)).map (·.length)).sum=cs.length
 | []=>rfl
 | c::r=>by
  rw[fE,fE,List.sum_cons,SI r,fI]
  show 1+r.length=r.length+1
  omega
theorem CF {cs:List Nat}(h:cs.length≤1000):nC (.str "") (.list (cs.map cM))=some (.str (jT cs)):=by
 show((mI (cs.map cM)).bind fun ys=>if (ys.map (·.length)).sum+ys.length*(kF "").length≤16777216 then some (bN (cU (kF "") ys)) else none)=_
 rw[VN]
 simp only[cH,SI,cX]
 rw[if_pos (by
  have:(kF "").length=0:=by decide +kernel
  rw[this]; omega)]
 have:=VO cs
 have e:(kF "")=(⟨#[]⟩:aB):=by decide +kernel
 rw[e,this]
noncomputable def bH (c k:Int):Int:=(c%2147483647*48271+k*k*69621+k+11)%2147483629*((c%2147483647*48271+k*k*69621+k+11)%2147483629)%2147483587
theorem eY (a:Int){b:Int}(h:0<b):0≤a%b/\a%b<b:=⟨Int.emod_nonneg _ (by omega),Int.emod_lt_of_pos _ h⟩
def Goes (F:SF)(ρ:bE)(P:Out->Prop):Prop:=∃ o,F ρ=some o/\P o
variable {F G:SF}{ρ:bE}{P:Out->Prop}{m:Md}
theorem Goes.mono {P':Out->Prop}(h:Goes F ρ P)(k : ∀ o,P o->P' o):Goes F ρ P':=by
 obtain⟨o,e,p⟩:=h
 exact⟨o,e,k o p⟩
theorem uU {ρ':bE}(h:F ρ=some (.nx ρ'))(k:P (.nx ρ')):Goes F ρ P:=⟨_,h,k⟩
theorem dG {ρ':bE}(h:F ρ=some (.nx ρ'))(k:Goes G ρ' P):Goes (bC F G) ρ P:=by
 obtain⟨o,e,p⟩:=k
 exact⟨o,by rw[Il h]; exact e,p⟩
theorem jO (I:bE->Prop)(h:Goes F ρ fun o=>∃ ρ',o = .nx ρ'/\I ρ')(k : ∀ ρ',I ρ'->Goes G ρ' P):Goes (bC F G) ρ P:=by
 obtain⟨o,e,ρ',rfl,i⟩:=h
 exact dG e (k ρ' i)
theorem Ko {d:aA}(h:F ρ=some (.rt d))(k:P (.rt d)):Goes (bC F G) ρ P:=⟨_,Ip h,k⟩
theorem OE {t:BF}{b:Bool}(h:bV m t ρ=some b)(k:Goes (if b=true then F else G) ρ P):Goes (sIf m t F G) ρ P:=by
 obtain⟨o,e,p⟩:=k
 refine⟨o,?_,p⟩
 show((bV m t ρ).bind fun b=>if b=true then F ρ else G ρ)=some o
 rw[h]
 cases b
 ·exact e
 ·exact e
theorem eQ {t:BF}(h:bV m t ρ=some true)(k:Goes F ρ P):Goes (sIf m t F G) ρ P:=OE h k
theorem PK {t:BF}(h:bV m t ρ=some false)(k:Goes G ρ P):Goes (sIf m t F G) ρ P:=OE h k
theorem YS (k:P (.nx ρ)):Goes dI ρ P:=⟨_,rfl,k⟩
theorem fC {t:BF}(h:bV m t ρ=some false):sIf m t F dI ρ=some (.nx ρ):=by
 unfold sIf
 rw[h]
 rfl
theorem fH (h:Goes F ρ fun o=>∃ d,o = .rt d/\P o):Goes (bC F G) ρ P:=by
 obtain⟨o,e,d,rfl,p⟩:=h
 exact Ko e p
theorem Ka {n:Nat}{f:EF}{d:aA}(h:f (vA ρ)=some d)(hf:iL n d=true)(k:P (.rt d)):Goes (bY n .a f) ρ P:=⟨_,by
 unfold bY eV
 simp only[h,cH,hf,Bool.true_or,if_true],k⟩
theorem cF {n:Nat}{f:EF}{d:aA}(h:f (vS ρ)=some d)(k:P (.rt d)):Goes (bY n .s f) ρ P:=⟨_,by
 unfold bY eV
 simp only[h,cH],k⟩
theorem YO {i n:Nat}{f:EF}{d:aA}(h:eV n m f ρ=some d)(hl:i<ρ.length)(k:P (.nx (ρ.set i (some (n,d))))):Goes (bX i n m f) ρ P:=
 ⟨_,by unfold bX; rw[h]; simp only[cH,if_pos hl],k⟩
theorem HP {i n:Nat}{f:EF}{d:aA}(h:f (vS ρ)=some d)(hl:i<ρ.length)(k:P (.nx (ρ.set i (some (n,d))))):Goes (bX i n .s f) ρ P:=YO h hl k
theorem vH {i:Nat}(h:Goes F (frz i ρ) P):Goes (pM i F) ρ P:=h
theorem Hr {n:Nat}(h:n≤1000000):GN 0 (n:Int)=some ((cR n).map fun(k:Nat)=>cO k):=by
 unfold GN
 rw[if_pos (by omega)]
 simp
theorem sP {fa:AF}{ρ:List (Option aA)}{n:Nat}(h:fa ρ=some [.int n])(hn:n≤1000000):iR1 fa ρ=some ((cR n).map fun(k:Nat)=>cO k):=by
 have e:=Hr hn
 generalize some ((cR n).map fun(k:Nat)=>cO k)=y at e ⊢
 rw[← e]
 unfold iR1
 rw[h,cH]
theorem avS {fi:AF}{ds:List aA}(h:fi (vS ρ)=some ds):aV .s fi ρ=some ds:=h
theorem CC {fi:AF}{T:aA->bE->Option bE}{ds:List aA}(I:Nat->bE->Prop)(h:aV m fi ρ=some ds)(h0:I 0 ρ)
  (step : ∀ i d ρ,ds[i]?=some d->I i ρ -> ∃ ρ1,T d ρ=some ρ1/\Goes F ρ1 fun o=>∃ ρ2,(o = .nx ρ2 \/ o = .ct ρ2)/\I (i+1) ρ2) (k : ∀ ρ',I ds.length ρ'->P (.nx ρ')):Goes (jC m fi T F) ρ P:=by
 obtain⟨ρ',e,i⟩:=Vc I h0 fun i d ρ hd p=>by
  obtain⟨ρ1,e1,o,e2,ρ2,e3,p2⟩:=step i d ρ hd p
  refine⟨ρ1,ρ2,e1,?_,p2⟩
  rcases e3 with rfl | rfl
  ·exact .inl e2
  ·exact .inr e2
 exact⟨_,Kj h e,k ρ' i⟩
theorem IA {fi:AF}{T:aA->bE->Option bE}{n:Nat}(I:Nat->bE->Prop)(h:aV m fi ρ=some ((cR n).map fun(k:Nat)=>cO k))(h0:I 0 ρ)
  (step : ∀ (i:Nat) ρ,i<n->I i ρ -> ∃ ρ1,T (.int i) ρ=some ρ1/\Goes F ρ1 fun o=>∃ ρ2,(o = .nx ρ2 \/ o = .ct ρ2)/\I (i+1) ρ2) (k : ∀ ρ',I n ρ'->P (.nx ρ')):Goes (jC m fi T F) ρ P:=by
 refine CC I h h0 (fun i d ρ hd p=>?_) (by simpa using k)
 have hlt:i<n:=by
  have:=(fN.mp hd).1
  simpa using this
 rw[fM,List.getElem?_range hlt] at hd
 have:cO (i:Int)=d:=by simpa using hd
 subst this
 exact step i ρ hlt p
theorem mJ {np n:Nat}{body:SF}{ds:List aA}{Q:aA->Prop}(hl:ds.length=np)(h:Goes body (ds.map (fun d=>some (0,d))++mU (n - np) none) fun o=>∃ d,o = .rt d/\Q d) : ∃ d,fnD np n body ds=some d/\Q d:=by
 obtain⟨o,e,d,rfl,q⟩:=h
 exact⟨d,OK hl e,q⟩
theorem Ez {cap:List (Option Nat)}{fi:AF}{T:aA->List (Option aA)->Option (List (Option aA))}{t:BF}{f:EF}{ρ:List (Option aA)}{ds:List aA}(R:aA->aA->Prop)(h1:fi ρ=some ds)(h2:ds.length≤100000)
  (h : ∀ d∈ds,∃ ρ1 y,T d (lQ cap ρ)=some ρ1/\t ρ1=some true/\f ρ1=some y/\R d y) : ∃ ys,eLC cap fi T t f ρ=some (.list ys)/\eR R ds ys:=by
 obtain⟨ys,e,hp⟩:=Ac R ds h
 refine⟨ys,?_,hp⟩
 unfold eLC
 rw[h1,cH,e,cH,if_pos (eL h2)]
theorem vD {cap:List (Option Nat)}{fi:AF}{T:aA->List (Option aA)->Option (List (Option aA))}{t:BF}{f:EF}{ρ:List (Option aA)}{ds:List aA}(g:aA->aA)(h1:fi ρ=some ds)(h2:ds.length≤100000)
  (h : ∀ d∈ds,∃ ρ1,T d (lQ cap ρ)=some ρ1/\t ρ1=some true/\f ρ1=some (g d)):eLC cap fi T t f ρ=some (.list (ds.map g)):=by
 unfold eLC
 rw[h1,cH,YT g ds h,cH,if_pos (eL h2)]
theorem ZG {cap:List (Option Nat)}{fi:AF}{T:aA->List (Option aA)->Option (List (Option aA))}{t:BF}{f:EF}{ρ:List (Option aA)}{n:Nat}{β:Type}(g:β->aA)(R:β->Prop)(h1:fi ρ=some ((cR n).map fun(k:Nat)=>cO k))(h2:n≤100000)
  (h : ∀ k<n,∃ ρ1 y,T (.int (k:Nat)) (lQ cap ρ)=some ρ1/\t ρ1=some true/\f ρ1=some (g y)/\R y) : ∃ ys:List β,eLC cap fi T t f ρ=some (.list (ys.map g))/\ys.length=n /\ ∀ y∈ys,R y:=by
 obtain⟨ys,e,hp⟩:=Ez (fun _ y=>∃ x,y=g x/\R x) h1 (by simpa using h2) fun d m=>by
  obtain⟨k,hk,rfl⟩:=bP.mp m
  obtain⟨ρ1,y,a1,a2,a3,a4⟩:=h k (by simpa using hk)
  exact⟨ρ1,g y,a1,a2,a3,y,rfl,a4⟩
 obtain⟨xs,rfl,hx⟩:=PN ys fun y m=>by
  obtain⟨_,_,x,e,hx⟩:=L2.Paired.mem_right hp y m
  exact⟨x,e,hx⟩
 have:=Of hp
 exact⟨xs,e,by simpa using this,hx⟩
end L2
namespace L2
open PySem PySem.Spec PyProof.Rows
variable {F G:SF}{ρ:bE}{P:Out->Prop}{m:Md}
theorem kA {f:EF}{ρ:List (Option aA)}{ds:List aA}(h:f ρ=some (.list ds)):iIt f ρ=some ds:=by
 unfold iIt
 rw[h]
 rfl
theorem sU {f:EF}{ρ:List (Option aA)}{ds:List aA}(h:f ρ=some (.tuple ds)):iIt f ρ=some ds:=by
 unfold iIt
 rw[h]
 rfl
theorem aZ {fa:AF}{g:List aA->Option aA}{ρ:List (Option aA)}{ds:List aA}{d:aA}(h:fa ρ=some ds)(h2:g ds=some d):aL g fa ρ=some d:=by
 unfold aL
 rw[h]
 exact h2
theorem bA {fa fb:EF}{g:aA->aA->Option aA}{ρ:List (Option aA)}{a b d:aA}(h:fa ρ=some a)(h2:fb ρ=some b)(h3:g a b=some d):eOp g fa fb ρ=some d:=by
 unfold eOp
 rw[h,h2]
 exact h3
theorem LG {ds:List aA}(i:Int)(h:0<ds.length) : ∃ (j:Nat) (d:aA),ds[j]?=some d/\atI ds (i%(ds.length:Int))=some d:=by
 have b:=eY i (show(0:Int)<ds.length by omega)
 obtain⟨j,e⟩:=kH b.1
 have hj:j<ds.length:=by omega
 exact⟨j,ds[j],gV hj,by rw[e]; exact pK (gV hj)⟩
theorem Lg {i:Nat}{f:EF}{d:aA}{ds:List aA}(h:f (vA ρ)=some d)(hf:gG d=true)(hg:getL i ρ=some ds)(hl:ds.length<100000)(k:P (.nx (ρ.set i (some (1,.list (ds++[d])))))):Goes (oK i .a f) ρ P:=⟨_,by
 unfold oK eV
 simp only[h,cH,iL,hf,Bool.true_or,if_true,hg,if_pos (CL (tY hl))],k⟩
theorem ZQ {i:Nat}{f:EF}{d:aA}{ds:List aA}(h:f (vS ρ)=some d)(hg:getL i ρ=some ds)(hl:ds.length<100000)(k:P (.nx (ρ.set i (some (1,.list (ds++[d])))))):Goes (oK i .s f) ρ P:=⟨_,by
 unfold oK eV
 simp only[h,cH,hg,if_pos (CL (tY hl))],k⟩
theorem Jp {i:Nat}{f g:EF}{d:aA}{kd:aA}{key:aO}{kds:List (aA×aA)}(h:f (vS ρ)=some d)(hg:BQ i ρ=some kds)(hk:g (vS ρ)=some kd)(ha:fP kd=some key)(hl:kds.length<100000)(k:P (.nx (ρ.set i (some (1,.dict (putD kds key d)))))):Goes (FA i .s f .s g) ρ P:=⟨_,by
 unfold FA eV
 simp only[h,cH,hg,hk,ha,if_pos (CL (tY hl))],k⟩
theorem CN : ∀ {ts:List aA},(∀ t∈ts,bF t=true)->cG ts=true
 | [],_=>by simp[cG]
 | t::r,h=>by
  simp only[cG,jI]
  exact⟨h t bQ,CN fun x m=>h x (cA _ m)⟩
theorem DJ {n:Nat} : ∀ {ts:List aA},(∀ t∈ts,t.depth≤n)->dJ ts≤n
 | [],_=>by simp[dJ]
 | t::r,h=>by
  simp only[dJ]
  exact Nat.max_le.mpr ⟨h t bQ,DJ fun x m=>h x (cA _ m)⟩
theorem TY : ∀ {ts:List aA},(∀ t∈ts,gG t=true)->nY ts=true
 | [],_=>by simp[nY]
 | t::r,h=>by
  simp only[nY,jI]
  exact⟨h t bQ,TY fun x m=>h x (cA _ m)⟩
theorem yY : ∀ {ts:List aA},(∀ t∈ts,noDict t=true)->noDicts ts=true
 | [],_=>by simp[noDicts]
 | t::r,h=>by
  simp only[noDicts,jI]
  exact⟨h t bQ,yY fun x m=>h x (cA _ m)⟩
theorem Ji {kds:List (aA×aA)}(h : ∀ kd∈kds,kd.1 ≠ .none):plK kds=true:=by
 cases kds with
 | nil=>rfl
 | cons p r=>
  obtain⟨k,d⟩:=p
  have:=h (k,d) bQ
  cases k <;> first | rfl | exact absurd rfl this
theorem TQ : ∀ (kss:List (List aA)) (acc:List (List aA)),(kss.foldl gE acc).length≤acc.length+kss.length
 | [],_=>by simp
 | x::r,acc=>by
  have:=TQ r (gE acc x)
  have h2:(gE acc x).length≤acc.length+1:=by unfold gE; split <;> simp
  simp only[mX,fI]
  omega
end L2
namespace L2
open PySem PySem.Spec PyProof.Rows
variable {F G:SF}{ρ:bE}{P:Out->Prop}{m:Md}
theorem CJ {α β:Type}{fi:AF}{T:aA->bE->Option bE}{xs:List α}{q:α->aA}(g:β->α->β)(I:Nat->β->bE->Prop){b0:β}(h:aV m fi ρ=some (xs.map q))(h0:I 0 b0 ρ)
  (step : ∀ i x b ρ,xs[i]?=some x->I i b ρ -> ∃ ρ1,T (q x) ρ=some ρ1/\Goes F ρ1 fun o=>∃ ρ2,(o = .nx ρ2 \/ o = .ct ρ2)/\I (i+1) (g b x) ρ2) (k : ∀ ρ',I xs.length (xs.foldl g b0) ρ'->P (.nx ρ')):Goes (jC m fi T F) ρ P:=by
 refine CC (fun i ρ=>I i ((xs.take i).foldl g b0) ρ) h h0 (fun i d ρ hd p=>?_) (fun ρ' p=>k ρ' (by simpa using p))
 rw[fM] at hd
 obtain⟨x,hx,rfl⟩:=lG.mp hd
 obtain⟨ρ1,e1,g1⟩:=step i x _ ρ hx p
 refine⟨ρ1,e1,g1.mono fun o ⟨ρ2,e,q⟩=>⟨ρ2,e,?_⟩⟩
 have:xs.take (i+1)=xs.take i++[x]:=by rw[ML,hx]; rfl
 rw[this,MN]
 exact q
theorem RS {T:aA->List (Option aA)->Option (List (Option aA))}{t:BF}{f:EF}{ρ:List (Option aA)}{α:Type}{q:α->aA}(p:α->Bool)(g:α->aA) : ∀ (xs:List α),
  (∀ x∈xs,∃ ρ1,T (q x) ρ=some ρ1/\t ρ1=some (p x)/\(p x=true->f ρ1=some (g x)))->lcD T t f ρ (xs.map q)=some ((xs.filter p).map g)
 | [],_=>rfl
 | x::xs,h=>by
  obtain⟨ρ1,e1,e2,e3⟩:=h x bQ
  have ih:=RS p g xs fun y m=>h y (cA _ m)
  show((T (q x) ρ).bind fun ρ1=>(t ρ1).bind fun c=>if c=true then(f ρ1).bind fun y=>(lcD T t f ρ (xs.map q)).bind fun ys=>some (y::ys) else lcD T t f ρ (xs.map q))=_
  rw[e1,cH,e2,cH,ih]
  cases hp:p x with
  | true=>rw[if_pos rfl,e3 hp,List.filter_cons_of_pos hp]; rfl
  | false=>rw[if_neg (by simp),List.filter_cons_of_neg (by simp[hp])]
theorem jP {cap:List (Option Nat)}{fi:AF}{T:aA->List (Option aA)->Option (List (Option aA))}{t:BF}{f:EF}{ρ:List (Option aA)}{α:Type}{xs:List α}{q:α->aA}(p:α->Bool)(g:α->aA)(h1:fi ρ=some (xs.map q))(h2:xs.length≤100000)
  (h : ∀ x∈xs,∃ ρ1,T (q x) (lQ cap ρ)=some ρ1/\t ρ1=some (p x)/\(p x=true->f ρ1=some (g x))):eLC cap fi T t f ρ=some (.list ((xs.filter p).map g)):=by
 unfold eLC
 rw[h1,cH,RS p g xs h,cH,if_pos (eL (by simpa using h2))]
theorem Fm {i n:Nat}{f:EF}{d:aA}(h:eV n m f ρ=some d)(hl:i<ρ.length):bX i n m f ρ=some (.nx (ρ.set i (some (n,d)))):=by
 obtain⟨o,e,q⟩:=YO (P:=fun o=>o = .nx (ρ.set i (some (n,d)))) h hl rfl
 rw[e,q]
theorem eE {i n:Nat}{f:EF}{d:aA}(h:f (vS ρ)=some d)(hl:i<ρ.length)(k:Goes G (ρ.set i (some (n,d))) P):Goes (bC (bX i n .s f) G) ρ P:=dG (Fm h hl) k
theorem bW {f:EF}{g:AF}{ρ:List (Option aA)}{d:aA}{ds:List aA}(h:f ρ=some d)(h2:g ρ=some ds):aF f g ρ=some (d::ds):=by
 unfold aF
 rw[h,h2]
 rfl
end L2
namespace L2
noncomputable def nL {α:Type}[DecidableEq α](acc:List α)(z:α):List α:=if z∈acc then acc else acc++[z]
noncomputable def ET {α:Type}[DecidableEq α](zs:List α):List α:=zs.foldl nL []
section
variable {α:Type}[DecidableEq α]
theorem Awd {acc:List α}{z x:α}:x∈nL acc z↔x∈acc \/ x=z:=by
 unfold nL
 split
 ·rename_i h
  exact⟨.inl,fun q=>q.elim id fun e=>e ▸ h⟩
 ·simp
theorem US {x:α} : ∀ (zs acc:List α),x∈zs.foldl nL acc↔x∈acc \/ x∈zs
 | [],acc=>by simp
 | z::zs,acc=>by
  rw[mX,US zs,Awd]
  simp only[cN]
  constructor
  ·rintro((h | h) | h)
   ·exact .inl h
   ·exact .inr (.inl h)
   ·exact .inr (.inr h)
  ·rintro(h | h | h)
   ·exact .inl (.inl h)
   ·exact .inl (.inr h)
   ·exact .inr h
theorem Xa {x:α}{zs:List α}:x∈ET zs↔x∈zs:=by
 unfold ET
 rw[US]
 simp
theorem Uz (acc:List α)(z:α):(nL acc z).length≤acc.length+1:=by
 unfold nL
 split <;> simp
end
open PySem PySem.Spec PyProof.Rows
variable {R:aA->Prop}{kds:List (aA×aA)}
theorem yA {ds:List aA}{f:EF}{lo hi:OF}{ρ:List (Option aA)}{l u:Option Int}(e1:f ρ=some (.list ds))(e2:lo ρ=some l)(e3:hi ρ=some u):kL f lo hi ρ=some (.list (cutD ds l u)):=by
 unfold kL
 rw[e1,cH,e2,cH,e3,cH]
end L2
namespace L2
open PySem
theorem VA {ks:List aO} : ∀ {acc:List aO} {k:aO},k∈ks.foldl gM acc↔k∈acc \/ k∈ks:=by
 induction ks with
 | nil=>intro acc k; simp
 | cons x r ih=>
  intro acc k
  rw[mX,ih]
  unfold gM
  by_cases hx:x∈acc
  ·rw[if_pos hx]
   constructor
   ·rintro(h | h)
    ·exact .inl h
    ·exact .inr (cA _ h)
   ·rintro(h | h)
    ·exact .inl h
    ·rcases cN.mp h with rfl | h
     ·exact .inl hx
     ·exact .inr h
  ·rw[if_neg hx,iR,dX,cN,or_assoc]
theorem SL {ks:List aO} : ∀ {acc:List aO},acc.Nodup->(ks.foldl gM acc).Nodup:=by
 induction ks with
 | nil=>intro acc h; exact h
 | cons x r ih=>
  intro acc h
  rw[mX]
  refine ih ?_
  unfold gM
  by_cases hx:x∈acc
  ·rw[if_pos hx]; exact h
  ·rw[if_neg hx]
   refine Bs.mpr ⟨h,by simp,fun a ha b hb=>?_⟩
   rw[dX.mp hb]
   exact fun e=>hx (e ▸ ha)
end L2
namespace Aw
open PySem L2
noncomputable abbrev s0 (d:aA):L2.Slot:=some (0,d)
noncomputable abbrev lI (ms:List Int):aA:=.list (ms.map cO)
def FC (n:Nat)(z:aB):Prop:=cD (.str z)=true/\z.length≤n
theorem Vx {n m:Nat}{y z:aB}(h:FC n y)(h2:FC m z)(hs:n+m≤100000):cB (.str y) (.str z)=some (.str (y++z)):=by
 show(if y.length+z.length≤sizeLine then some (bN (y++z)) else none)=_
 rw[if_pos (eL (by have:=h.2; have:=h2.2; omega))]
theorem Lo:FC 26 "abcdefghijklmnopqrstuvwxyz":=⟨by decide +kernel,by decide +kernel⟩
theorem vJ (a b:Int):gEq (.int a) (.int b)=some (.bool (decide (a=b))):=by
 congr 2
theorem PU {α:Type}{q:α->aA}{xs:List α}{j:Nat}{x:α}(h:xs[j]?=some x):gIx (.list (xs.map q)) (.int j)=some (q x):=pK (by rw[fM,h]; rfl)
noncomputable abbrev tK (ks:List aO):aA:=.tuple (ks.map kD)
theorem qR (ds:List aA):cI [.tuple ds]=some (.int ds.length):=by simp[cI]
theorem gH {f:EF}{ρ:List (Option aA)}{b:Bool}(h:f ρ=some (.bool b)):bOf f ρ=some b:=by
 unfold bOf
 rw[h]
 rfl
theorem Vz (a b:aO):cV (kD a) (kD b)=decide (a=b):=by
 cases a with
 | inl i=>cases b with
  | inl j=>
   rw[show cV (kD (.inl i)) (kD (.inl j))=(i == j) by simp[kD,cV],BL]
   simp
  | inr y=>simp[kD,cV]
 | inr x=>cases b with
  | inl j=>simp[kD,cV]
  | inr y=>
   rw[show cV (kD (.inr x)) (kD (.inr y))=(x == y) by simp[kD,cV],BL]
   simp
theorem Ml (a b:aO):gEq (kD a) (kD b)=some (.bool (decide (a=b))):=by
 have h1 : ∀ k:aO,eA (kD k)=true:=fun k=>by cases k <;> rfl
 unfold gEq
 rw[h1 a,h1 b,Vz]
 rfl
noncomputable def isS:aO->Bool
 | .inr _=>true
 | .inl _=>false
theorem Zg {α:Type}[DecidableEq α]{xs ys:List α}(h1:xs.Nodup)(h2:ys.Nodup)(h : ∀ a,a∈xs↔a∈ys):xs.length=ys.length:=
 Nat.le_antisymm (MR h1 fun a m=>(h a).mp m) (MR h2 fun a m=>(h a).mpr m)
theorem oD {a b:EF}{ρ:List (Option aA)}{x y:Bool}(h:a ρ=some (.bool x))(h2:x=true->b ρ=some (.bool y)):mH a b ρ=some (.bool (x&&y)):=by
 unfold mH
 cases x with
 | true=>rw[h,cH,show asB (.bool true)=some true from rfl,cH,if_pos rfl,h2 rfl]; rfl
 | false=>rw[h,cH,show asB (.bool false)=some false from rfl,cH,if_neg (by simp)]; rfl
theorem pF {fa:AF}{ρ:List (Option aA)}{ds:List aA}(h:fa ρ=some ds)(hl:ds.length≤1000:=by simp):gX fa ρ=some (.tuple ds):=by
 unfold gX
 rw[h,cH,if_pos (eL (by omega))]
theorem LI {fa:AF}{ρ:List (Option aA)}{ds:List aA}(h:fa ρ=some ds)(hl:ds.length≤1000:=by simp):lN fa ρ=some (.list ds):=by
 unfold lN
 rw[h,cH,if_pos (eL (by omega))]
abbrev Ln:=aB×List aO
noncomputable def bG (l:Ln):aA:=.tuple [.str l.1,.tuple (l.2.map kD)]
theorem qQ (a b:aB):gEq (.str a) (.str b)=some (.bool (decide (a=b))):=(Ml (.inr a) (.inr b)).trans (by simp)
theorem Qm (xs:List aO):noDicts (xs.map kD)=true:=yY fun t m=>by
 obtain⟨x,_,rfl⟩:=bP.mp m
 cases x <;> rfl
theorem Ob (xs:List aO):dJ (xs.map kD)≤1:=DJ fun t m=>by
 obtain⟨x,_,rfl⟩:=bP.mp m
 cases x <;> simp[kD,gA]
theorem gP (c k:Int)(h0:0≤k)(h1:k≤1000000):dA [.int c,.int k]=some (.int (bH c k)):=by
 have b:=eY (c%2147483647*48271+k*k*69621+k+11) (show(0:Int)<2147483629 by decide)
 have hk:k.natAbs<18446744073709551616:=by omega
 have hn:((c%2147483647*48271+k*k*69621+k+11)%2147483629).natAbs<18446744073709551616:=by omega
 simp[dA,VV,fnD,bC,bX,bY,eV,vS,eOp,aC,eC,outD,cB,fO,bT,g2C,hk,hn,bH]
theorem qP {ns:List Int}{k:Int}(h0:0≤k)(h1:k≤1000000) : ∃ c,fX [.list (ns.map cO),.int k]=some (.int c):=by
 have hk:k.natAbs<18446744073709551616:=by omega
 have at_ : ∀ i:Int,0≤i->i<ns.length -> ∃ c,gIx (.list (ns.map cO)) (.int i)=some (.int c):=fun i a b=>by
  obtain⟨j,rfl⟩:=kH a
  have hj:j<ns.length:=by omega
  exact⟨ns[j],pK (by rw[fM,gV hj]; rfl)⟩
 by_cases hl:k<(ns.length:Int)
 ·obtain⟨c,e⟩:=at_ k h0 hl
  exact⟨c,by simp[fX,ED,fnD,bC,bX,bY,sIf,dI,eV,bV,vS,eOp,aC,eC,aL,aF,aJ,bOf,asB,outD,cB,fO,bT,g2I,g2C,gLt,gGt,cI,hl,e]⟩
 ·by_cases hz:(0:Int)<ns.length
  ·obtain⟨c,e⟩:=at_ (k*7%(ns.length:Int)) (eY _ hz).1 (eY _ hz).2
   have b:=eY (c*48271+k*7919) (show(0:Int)<2147483647 by decide)
   have hn:((c*48271+k*7919)%2147483647).natAbs<18446744073709551616:=by omega
   have hz':0<ns.length:=by omega
   exact⟨_,by simp[fX,ED,fnD,bC,bX,bY,sIf,dI,eV,bV,vS,eOp,aC,eC,aL,aF,aJ,bOf,asB,outD,cB,fO,bT,g2I,g2C,gLt,gGt,cI,hl,hz',hk,e,hn]; rfl⟩
  ·have hz':ns=[]:=by
    cases ns with
    | nil=>rfl
    | cons a r=>exact absurd (by simp) hz
   have hn:(k*7919+5).natAbs<18446744073709551616:=by omega
   have hl' : ¬ k<0:=by omega
   subst hz'
   exact⟨_,by simp[fX,ED,fnD,bC,bX,bY,sIf,dI,eV,bV,vS,eOp,aC,eC,aL,aF,aJ,bOf,asB,outD,cB,fO,bT,g2I,g2C,gLt,gGt,cI,hl',hk,hn]; rfl⟩
def baseOk (cs:List Nat)(s:Nat):Prop:=cs.length=s/\(∀ c∈cs,fK c=true) /\ ∃ c r,cs=c::r/\letter c=true
theorem baseOk.set {cs:List Nat}{s j c:Nat}(h:baseOk cs s)(hc:fK c=true)(hl:j=0->letter c=true):baseOk (cs.set j c) s:=by
 obtain⟨h1,h2,c0,r,e,h3⟩:=h
 refine⟨by simpa using h1,fun x m=>?_,?_⟩
 ·rcases Bt m with q | q
  ·exact h2 x q
  ·rw[q]; exact hc
 ·subst e
  cases j with
  | zero=>exact⟨c,r,rfl,hl rfl⟩
  | succ j=>exact⟨c0,r.set j c,rfl,h3⟩
theorem baseOk.name {cs:List Nat}{s:Nat}(h:baseOk cs s)(hs:s≤12):nameS (jT cs):=by
 obtain⟨h1,h2,c0,r,e,h3⟩:=h
 exact⟨c0,r,e,h3,h2,by show cs.length≤12; omega⟩
theorem UU (cs:List Nat)(j c:Nat):(cs.map cM).set j (cM c)=(cs.set j c).map cM:=by rw[List.map_set]
theorem CS {α β:Type}{f:α->β} : ∀ {l:List α},(∀ a∈l,∀ b∈l,f a=f b->a=b)->l.Nodup->(l.map f).Nodup
 | [],_,_=>by simp
 | x::l,h,nd=>by
  rw[oR] at nd
  rw[fE,oR]
  refine⟨fun m=>?_,CS (fun a ma b mb=>h a (cA _ ma) b (cA _ mb)) nd.2⟩
  obtain⟨y,my,e⟩:=bP.mp m
  exact nd.1 (h y (cA _ my) x bQ e ▸ my)
noncomputable def sgn (j:Nat):Nat:=SIGNS.cps.toList.getD j 0
theorem ID : ∀ j<36,SIGNS.cps.toList[j]?=some (sgn j)/\fK (sgn j)=true/\(j<26->letter (sgn j)=true):=by decide +kernel
theorem Le : ∀ i<36,∀ j<36,sgn i=sgn j->i=j:=by decide +kernel
theorem Gu {i:Int}(h0:0≤i)(h1:i<36):gIx (.str SIGNS) (.int i)=some (cM (sgn i.toNat)):=by
 obtain⟨j,rfl⟩:=kH h0
 obtain⟨e,_,_⟩:=ID j (by omega)
 show(if SIGNS.length≤sizeLine then(atI SIGNS.cps.toList (j:Int)).bind fun c=>some (bN ⟨#[c]⟩) else none)=_
 rw[if_pos (by decide +kernel),pK e]
 rfl
theorem QN {a b:List Nat}(h:jT a=jT b):a=b:=by
 have h:a.toArray=b.toArray:=by injection h
 simpa using h
theorem Yx {cs:List Nat}{s k:Nat}(h:baseOk cs s)(hs:s≤12):nameS (jT (cs.take (k+1))):=by
 obtain⟨h1,h2,c0,r,e,h3⟩:=h
 refine⟨c0,r.take k,by subst e; rfl,h3,fun x m=>h2 x (FZ m),?_⟩
 show(cs.take (k+1)).length≤12
 rw[mW]; omega
theorem Zf (zs:List aB):iL 1 (.list (zs.map bN))=true:=by
 simp[iL,gG]
theorem QK (c:Int){n:Nat}(hn:n≤12) : ∃ zs:List aB,rB [.int c,.int n]=some (.list (zs.map bN))/\zs.length=n/\(∀ z∈zs,nameS z)/\zs.Nodup:=by
 suffices h : ∃ d,rB [.int c,.int n]=some d /\ ∃ zs:List aB,d = .list (zs.map bN)/\zs.length=n/\(∀ z∈zs,nameS z)/\zs.Nodup by
  obtain⟨_,e,zs,rfl,h⟩:=h
  exact⟨zs,e,h⟩
 refine mJ rfl ?_
 refine dG (ρ':=[s0 (.int c),s0 (.int n),s0 (.str SIGNS),none,none,none,none,none]) (by simp[bX,eV,eC,SIGNS]) ?_
 refine dG (ρ':=[s0 (.int c),s0 (.int n),s0 (.str SIGNS),s0 (.int (1+bH c 1%12)),none,none,none,none]) (by simp[bX,eV,vS,eOp,aC,eC,aL,aF,aJ,cB,bT,g2C,gP]) ?_
 have b1:=eY (bH c 1) (show(0:Int)<12 by decide)
 refine jO (fun ρ'=>∃ s:Nat,1≤s/\s≤12/\(bH c 2%3=0->s=12)/\ρ'=[s0 (.int c),s0 (.int n),s0 (.str SIGNS),s0 (.int s),none,none,none,none]) ?_ ?_
 ·by_cases h3:bH c 2%3=0
  ·refine uU (ρ':=[s0 (.int c),s0 (.int n),s0 (.str SIGNS),s0 (.int 12),none,none,none,none]) (by simp[bX,sIf,dI,eV,bV,vS,eOp,aC,eC,aL,aF,aJ,bOf,asB,bT,g2C,gEq,eA,noDict,gA,cV,gP,h3]) ⟨_,rfl,12,by omega,by omega,fun _=>rfl,rfl⟩
  ·refine uU (ρ':=[s0 (.int c),s0 (.int n),s0 (.str SIGNS),s0 (.int (1+bH c 1%12)),none,none,none,none]) (by simp[bX,sIf,dI,eV,bV,vS,eOp,aC,eC,aL,aF,aJ,bOf,asB,bT,g2C,gEq,eA,noDict,gA,cV,gP,h3]) ⟨_,rfl,(1+bH c 1%12).toNat,by omega,by omega,fun h=>absurd h h3,?_⟩
   have e:((1+bH c 1%12).toNat:Int)=1+bH c 1%12:=by omega
   rw[e]
 rintro _ ⟨s,hs1,hs12,hsp,rfl⟩
 refine jO (fun ρ'=>∃ cs:List Nat,cs.length=s/\(∀ x∈cs,fK x=true)/\ρ'=[s0 (.int c),s0 (.int n),s0 (.str SIGNS),s0 (.int s),some (1,.list (cs.map cM)),none,none,none]) ?_ ?_
 ·obtain⟨cs,e,hl,ho⟩:=ZG (cap:=[none,some 2,some 0]) (fi:=iR1 (aF (aC 3) aJ)) (T:=gB 0) (t:=cQ) (f:=(eOp gIx (aC 1) (eOp bT (aL dA (aF (aC 2) (aF (eOp cB (eC (.int 30)) (aC 0)) aJ))) (eC (.int 36)))))
    (ρ:=vS [s0 (.int c),s0 (.int n),s0 (.str SIGNS),s0 (.int s),none,none,none,none]) (n:=s) cM (fun x=>fK x=true) (sP rfl (by omega)) (by omega) (fun k hk=>by
    have b:=eY (bH c (30+k)) (show(0:Int)<36 by decide)
    obtain⟨x,e,h1,_⟩:=QU b.1 b.2
    have e2:=gP c (30+(k:Int)) (by omega) (by omega)
    refine⟨[some (.int k),some (.str SIGNS),some (.int c)],x,rfl,rfl,?_,h1⟩
    simp only[eOp,aC,eC,aL,aF,aJ,cB,bT,g2C,cH,xM,pX,AU,e2,if_pos (show(0:Int)<36 by decide),e])
  exact HP e (by simp) ⟨_,rfl,cs,hl,ho,rfl⟩
 rintro _ ⟨cs0,hl,ho,rfl⟩
 refine jO (fun ρ'=>∃ cs:List Nat,baseOk cs s/\ρ'=[s0 (.int c),s0 (.int n),s0 (.str SIGNS),s0 (.int s),some (1,.list (cs.map cM)),none,none,none]) ?_ ?_
 ·have b:=eY (bH c 50) (show(0:Int)<26 by decide)
  obtain⟨x,e,h1,h2⟩:=QU b.1 (by omega)
  have hb:baseOk (cs0.set 0 x) s:=by
   refine⟨by simpa using hl,fun y m=>?_,?_⟩
   ·rcases Bt m with q | q
    ·exact ho y q
    ·rw[q]; exact h1
   ·cases cs0 with
    | nil=>simp at hl; omega
    | cons a r=>exact⟨x,r,rfl,h2 b.2⟩
  have hix:ixN (cs0.map cM).length 0=some 0:=by
   unfold ixN
   rw[if_pos (by decide),if_pos (by rw[cX]; omega)]
   rfl
  refine uU (ρ':=[s0 (.int c),s0 (.int n),s0 (.str SIGNS),s0 (.int s),some (1,.list ((cs0.set 0 x).map cM)),none,none,none]) ?_ ⟨_,rfl,_,hb,rfl⟩
  simp only[sJ,eV,vS,eOp,aC,eC,aL,aF,aJ,bT,g2C,getL,fE,xM,pX,AU,cH,gP c 50 (by omega) (by omega),if_pos (show(0:Int)<26 by decide),e,hix]
  rw[← UU]
  rfl
 rintro _ ⟨cs,hb,rfl⟩
 by_cases h3:bH c 2%3=0
 ·have hs:=hsp h3
  subst hs
  have e:=vD (cap:=[none,some 4]) (fi:=iR1 (aF (aC 1) aJ)) (T:=gB 0) (t:=cQ) (f:=(eOp nC (eC (.str "")) (kL (aC 1) oN (oS (eOp cB (aC 0) (eC (.int 1)))))))
    (ρ:=vA [s0 (.int c),s0 (.int n),s0 (.str SIGNS),s0 (.int (12:Nat)),some (1,.list (cs.map cM)),none,none,none]) (ds:=(cR n).map fun(k:Nat)=>cO k) (fun d=>match d with | .int k=>.str (jT (cs.take (k.toNat+1))) | d=>d) (sP rfl (by omega)) (by simp; omega) (fun d md=>by
    obtain⟨k,mk,rfl⟩:=bP.mp md
    have hk:=iG.mp mk
    have e1:=He (ds:=cs.map cM) (k:=k+1) (by have:=hb.1; simp; omega)
    have e2:=CF (cs:=cs.take (k+1)) (by have:=hb.1; simp; omega)
    refine⟨[some (.int k),some (.list (cs.map cM))],rfl,rfl,?_⟩
    have e3:((k:Int)+1)=((k+1:Nat):Int):=by omega
    simp only[eOp,aC,eC,kL,oN,oS,cB,cH,xM,pX,AU,e3,e1]
    rw[← List.map_take,e2]
    rfl)
  rw[fS] at e
  have e':((cR n).map ((fun d=>match d with | .int k=>bN (jT (cs.take (k.toNat+1))) | d=>d)∘fun(k:Nat)=>cO k))=(((cR n).map fun k=>jT (cs.take (k+1))).map bN):=by
   rw[fS]
   rfl
  rw[e'] at e
  refine fH (eQ ?_ (Ka e (Zf _) ⟨_,rfl,_,rfl,_,rfl,by simp,fun z m=>?_,?_⟩))
  ·simp[bV,vS,eOp,aC,eC,aL,aF,aJ,bOf,asB,bT,g2C,gEq,eA,noDict,gA,cV,gP,h3]
  ·obtain⟨k,_,rfl⟩:=bP.mp m
   exact Yx hb (by omega)
  ·refine CS (fun a ma b mb q=>?_) Br
   have ha:=iG.mp ma
   have hb':=iG.mp mb
   have:=congrArg xK (QN q)
   rw[mW,mW,hb.1] at this
   omega
 ·refine dG (ρ':=[s0 (.int c),s0 (.int n),s0 (.str SIGNS),s0 (.int s),some (1,.list (cs.map cM)),none,none,none]) (fC (by simp[bV,vS,eOp,aC,eC,aL,aF,aJ,bOf,asB,bT,g2C,gEq,eA,noDict,gA,cV,gP,h3])) ?_
  have hs0:(0:Int)<s:=by omega
  have ba:=eY (bH c 3) hs0
  obtain⟨a,ha⟩:=kH ba.1
  have ha':a<s:=by omega
  refine dG (ρ':=[s0 (.int c),s0 (.int n),s0 (.str SIGNS),s0 (.int s),some (1,.list (cs.map cM)),s0 (.int a),none,none]) (by
   have:0<s:=by omega
   simp[bX,eV,vS,eOp,aC,eC,aL,aF,aJ,bT,g2C,gP,this,ha]) ?_
  refine dG (ρ':=[s0 (.int c),s0 (.int n),s0 (.str SIGNS),s0 (.int s),some (1,.list (cs.map cM)),s0 (.int a),some (1,.list []),none]) rfl ?_
  obtain⟨w,hw⟩ : ∃ w:Nat,w=if a=0 then 26 else 36:=⟨_,rfl⟩
  have hw1:26≤w/\w≤36:=by subst hw; split <;> omega
  let sg:Nat->Nat:=fun k=>sgn ((bH c 4+k)%(w:Int)).toNat
  have sgb : ∀ k:Nat,((bH c 4+k)%(w:Int)).toNat<w:=fun k=>by
   have:=eY (bH c 4+k) (show(0:Int)<w by omega)
   omega
  have sg1 : ∀ k,fK (sg k)=true:=fun k=>(ID _ (by have:=sgb k; omega)).2.1
  have sg2 : ∀ k,a=0->letter (sg k)=true:=fun k h0=>(ID _ (by have:=sgb k; omega)).2.2 (by have:=sgb k; rw[if_pos h0] at hw; omega)
  refine jO (fun ρ'=>∃ (ds:List Nat) (x:L2.Slot),ρ'=[s0 (.int c),s0 (.int n),s0 (.str SIGNS),s0 (.int s),some (1,.list (ds.map cM)),s0 (.int a),some (1,.list (((cR n).map fun k=>jT (cs.set a (sg k))).map bN)),x]) ?_ ?_
  ·refine IA (n:=n) (fun i ρ'=>∃ (ds:List Nat) (x:L2.Slot),baseOk ds s/\(∀ y,ds.set a y=cs.set a y)/\ρ'=[s0 (.int c),s0 (.int n),s0 (.str SIGNS),s0 (.int s),some (1,.list (ds.map cM)),s0 (.int a),some (1,.list (((cR i).map fun k=>jT (cs.set a (sg k))).map bN)),x]) ?_ ⟨cs,none,hb,fun _=>rfl,rfl⟩ ?_ ?_
   ·exact avS (sP rfl (by omega))
   ·rintro i _ hi ⟨ds,x,hd,hset,rfl⟩
    generalize hZ:((cR i).map fun k=>jT (cs.set a (sg k)))=zs
    have hzl:zs.length=i:=by rw[← hZ]; simp
    refine⟨[s0 (.int c),s0 (.int n),s0 (.str SIGNS),s0 (.int s),some (1,.list (ds.map cM)),s0 (.int a),some (1,.list (zs.map bN)),s0 (.int i)],rfl,?_⟩
    have hcl:=hd.1
    have hix:ixN (ds.map cM).length (a:Int)=some a:=by
     unfold ixN
     rw[if_pos (by omega),if_pos (by rw[cX]; omega)]
     simp
    have ey:eV 0 .s (eOp gIx (aC 2) (eOp bT (eOp cB (aL dA (aF (aC 0) (aF (eC (.int 4)) aJ))) (aC 7)) (eOp cB (eC (.int 26)) (eOp fO (eC (.int 10)) (aL uJ (aF (eOp gGt (aC 5) (eC (.int 0))) aJ)))))) [s0 (.int c),s0 (.int n),s0 (.str SIGNS),s0 (.int s),some (1,.list (ds.map cM)),s0 (.int a),some (1,.list (zs.map bN)),s0 (.int i)]=some (cM (sg i)):=by
     have hb1:=eY (bH c 4+i) (show(0:Int)<w by omega)
     have e:=Gu hb1.1 (by omega)
     show _=some (cM (sgn ((bH c 4+i)%(w:Int)).toNat))
     by_cases h0:a=0
     ·rw[if_pos h0] at hw
      subst hw
      have e:gIx (.str SIGNS) (.int ((bH c 4+i)%26))=some (cM (sgn ((bH c 4+i)%26).toNat)):=e
      simp[eV,vS,eOp,aC,eC,aL,aF,aJ,cB,fO,bT,g2I,g2C,gGt,uJ,gP,h0,e]
     ·rw[if_neg h0] at hw
      subst hw
      have e:gIx (.str SIGNS) (.int ((bH c 4+i)%36))=some (cM (sgn ((bH c 4+i)%36).toNat)):=e
      have h1:0<a:=by omega
      simp[eV,vS,eOp,aC,eC,aL,aF,aJ,cB,fO,bT,g2I,g2C,gGt,uJ,gP,h1,e]
    refine dG (ρ':=[s0 (.int c),s0 (.int n),s0 (.str SIGNS),s0 (.int s),some (1,.list ((cs.set a (sg i)).map cM)),s0 (.int a),some (1,.list (zs.map bN)),s0 (.int i)]) ?_ ?_
    ·unfold sJ
     rw[ey,← hset,← UU]
     simp only[eV,vS,aC,getL,fE,xM,pX,AU,cH,hix]
     rfl
    ·have hb':=hb.set (j:=a) (sg1 i) (sg2 i)
     have ej:=CF (cs:=cs.set a (sg i)) (by have:=hb.1; simp; omega)
     refine uU (ρ':=[s0 (.int c),s0 (.int n),s0 (.str SIGNS),s0 (.int s),some (1,.list ((cs.set a (sg i)).map cM)),s0 (.int a),some (1,.list ((zs++[jT (cs.set a (sg i))]).map bN)),s0 (.int i)]) ?_ ⟨_,.inl rfl,cs.set a (sg i),s0 (.int i),hb',fun y=>by rw[List.set_set],?_⟩
     ·have hz:(zs.map bN).length<sizeLine:=CL (by simp; omega)
      have ee:eOp nC (eC (.str "")) (aC 4) (vA [s0 (.int c),s0 (.int n),s0 (.str SIGNS),s0 (.int s),some (1,.list ((cs.set a (sg i)).map cM)),s0 (.int a),some (1,.list (zs.map bN)),s0 (.int i)])=some (.str (jT (cs.set a (sg i)))):=by
       simp only[eOp,eC,aC,vA,fE,tW,xM,pX,AU,cH,ej]
      unfold oK eV
      simp only[ee,cH,iL,gG,if_true,getL,xM,pX,if_pos hz]
      simp
     ·have e:((cR (i+1)).map fun k=>jT (cs.set a (sg k)))=zs++[jT (cs.set a (sg i))]:=by
       rw[List.range_succ,mV,hZ]
       rfl
      rw[e]
   ·rintro _ ⟨ds,x,_,_,rfl⟩
    exact⟨_,rfl,ds,x,rfl⟩
  rintro _ ⟨ds,x,rfl⟩
  refine⟨_,rfl,_,rfl,_,rfl,by simp,fun z m=>?_,?_⟩
  ·obtain⟨k,_,rfl⟩:=bP.mp m
   exact(hb.set (sg1 k) (sg2 k)).name hs12
  ·refine CS (fun k mk k' mk' q=>?_) Br
   have hk:=iG.mp mk
   have hk':=iG.mp mk'
   have e:=congrArg (fun l=>l[a]?) (QN q)
   have hcl:=hb.1
   simp only[rP (show a<cs.length by omega)] at e
   have e:=Le _ (by have:=sgb k; omega) _ (by have:=sgb k'; omega) (gU e)
   have b1:=eY (bH c 4+k) (show(0:Int)<w by omega)
   have b2:=eY (bH c 4+k') (show(0:Int)<w by omega)
   have e:(bH c 4+k)%(w:Int)=(bH c 4+k')%(w:Int):=by omega
   by_cases h0:a=0
   ·rw[if_pos h0] at hw
    subst hw
    omega
   ·rw[if_neg h0] at hw
    subst hw
    omega
def hJ:aO->Prop
 | .inl i=>i.natAbs<10 ^ 60
 | .inr z=>nameS z
noncomputable def eX (t:aB×Nat):aA:=.tuple [.str t.1,.int t.2]
def uS (ts:List (aB×Nat)):Prop:=(∀ t∈ts,nameS t.1/\1≤t.2/\t.2≤6)/\(ts.map (·.1)).Nodup
theorem Ze (c:Int){n:Nat}(hn:n≤12) : ∃ ts:List (aB×Nat),wL [.int c,.int n]=some (.list (ts.map eX))/\ts.length=n/\uS ts:=by
 suffices h : ∃ d,wL [.int c,.int n]=some d /\ ∃ ts:List (aB×Nat),d = .list (ts.map eX)/\ts.length=n/\uS ts by
  obtain⟨_,e,ts,rfl,h⟩:=h
  exact⟨ts,e,h⟩
 obtain⟨zs,e,hl,hz,hnd⟩:=QK c hn
 refine mJ rfl ?_
 refine dG (ρ':=[s0 (.int c),s0 (.int n),some (1,.list []),none]) rfl ?_
 refine jO (fun ρ'=>∃ (ts:List (aB×Nat)) (x:L2.Slot),ts.map (·.1)=zs/\(∀ t∈ts,1≤t.2/\t.2≤6)/\ρ'=[s0 (.int c),s0 (.int n),some (1,.list (ts.map eX)),x]) ?_ ?_
 ·refine CC (ds:=zs.map bN) (fun i ρ'=>∃ (ts:List (aB×Nat)) (x:L2.Slot),ts.map (·.1)=zs.take i/\(∀ t∈ts,1≤t.2/\t.2≤6)/\ρ'=[s0 (.int c),s0 (.int n),some (1,.list (ts.map eX)),x]) (avS (kA (aZ (ds:=[.int c,.int n]) rfl e))) ⟨[],none,rfl,fun _ m=>by simp at m,rfl⟩ ?_ ?_
  ·rintro i d _ hd ⟨ts,x,ht1,ht,rfl⟩
   rw[fM] at hd
   obtain⟨z,hz1,rfl⟩:=lG.mp hd
   have hi:i<n:=by rw[← hl]; exact(fN.mp hz1).1
   have hl2:ts.length=i:=by
    have:=congrArg xK ht1
    rw[cX,mW] at this
    omega
   have b:=eY (bH c (60+(i:Int))) (show(0:Int)<6 by decide)
   obtain⟨q,hq⟩:=kH b.1
   have em:=gP c (60+(i:Int)) (by omega) (by omega)
   refine⟨[s0 (.int c),s0 (.int n),some (1,.list (ts.map eX)),s0 (.str z)],rfl,?_⟩
   refine Lg (d:=eX (z,1+q)) ?_ ?_ (ds:=ts.map eX) rfl (by simp; omega) ⟨_,.inl rfl,ts++[(z,1+q)],s0 (.str z),?_,fun t m=>?_,by simp⟩
   ·have h2:(2:Nat)≤sizeLine:=eL (by omega)
    simp[vA,eOp,aC,eC,aL,gX,aF,aJ,cB,bT,g2C,cI,hl2,em,hq,eX,h2]
   ·simp[eX,gG,nY]
   ·rw[mV,ht1,ML,hz1]
    rfl
   ·rcases iR.mp m with m | m
    ·exact ht t m
    ·rw[dX.mp m]
     exact⟨by simp,by simp; omega⟩
  ·rintro _ ⟨ts,x,h1,h2,rfl⟩
   exact⟨_,rfl,ts,x,by simpa using h1,h2,rfl⟩
 rintro _ ⟨ts,x,h1,h2,rfl⟩
 refine⟨_,rfl,_,rfl,ts,rfl,by rw[← hl,← h1,cX],fun t m=>⟨hz _ (h1 ▸ bP.mpr ⟨t,m,rfl⟩),h2 t m⟩,by rw[h1]; exact hnd⟩
theorem Mj (c:Int){zs:List aB}(h0:0<zs.length)(hz : ∀ z∈zs,nameS z) : ∃ k:aO,sY [.int c,.list (zs.map bN)]=some (kD k)/\hJ k:=by
 suffices h : ∃ d,sY [.int c,.list (zs.map bN)]=some d /\ ∃ k:aO,d=kD k/\hJ k by
  obtain⟨_,e,k,rfl,h⟩:=h
  exact⟨k,e,h⟩
 refine mJ rfl ?_
 refine dG (ρ':=[s0 (.int c),s0 (.list (zs.map bN)),s0 (.int (bH c 7))]) (by simp[bX,eV,vS,aC,eC,aL,aF,aJ,gP]) ?_
 by_cases h3:bH c 7%4<3
 ·obtain⟨j,d,hj,e⟩:=LG (ds:=zs.map bN) (bH c 7 / 4) (by simpa using h0)
  rw[fM] at hj
  obtain⟨z,hz1,rfl⟩:=lG.mp hj
  have e':atI (zs.map bN) (bH c 7 / 4%(zs.length:Int))=some (.str z):=by simpa using e
  refine fH (eQ (by simp[bV,vS,eOp,aC,eC,bOf,asB,bT,g2C,gLt,h3]) (cF (d:=.str z) ?_ ⟨_,rfl,_,rfl,.inr z,rfl,hz z (iH hz1)⟩))
  simp[vS,eOp,aC,eC,aL,aF,aJ,bT,jW,g2C,cI,h0,gIx,e']
 ·refine dG (fC (by simp[bV,vS,eOp,aC,eC,bOf,asB,bT,g2C,gLt,h3])) ?_
  by_cases h4:bH c 7 / 4%2=0
  ·refine fH (eQ (by simp[bV,vS,eOp,aC,eC,bOf,asB,bT,jW,g2C,gEq,eA,noDict,gA,cV,h4]) (cF (d:=.int (bH c 7 / 8%3 - 1)) (by simp[vS,eOp,aC,eC,nD,bT,jW,g2I,g2C]) ⟨_,rfl,_,rfl,.inl _,rfl,?_⟩))
   show(bH c 7 / 8%3 - 1).natAbs<10 ^ 60
   omega
  ·refine dG (fC (by simp[bV,vS,eOp,aC,eC,bOf,asB,bT,jW,g2C,gEq,eA,noDict,gA,cV,h4])) ?_
   refine cF (d:=.int (c%(2*10 ^ 60 - 1) - (10 ^ 60 - 1))) (by simp[vS,eOp,aC,eC,nD,fO,bT,sA,g2I,g2C]) ⟨_,rfl,.inl _,rfl,?_⟩
   show(c%(2*10 ^ 60 - 1) - (10 ^ 60 - 1)).natAbs<10 ^ 60
   omega
def Anx (ts:List (aB×Nat))(l:Ln):Prop:=(l.1,l.2.length)∈ts /\ ∀ k∈l.2,hJ k
theorem Vy (k:aO):gG (kD k)=true:=by cases k <;> rfl
theorem Xw (l:Ln):gG (bG l)=true:=by
 have:=TY (ts:=l.2.map kD) fun t m=>by
  obtain⟨k,_,rfl⟩:=bP.mp m
  exact Vy k
 simp[bG,gG,nY,this]
theorem Vj {ns:List Int}{ts:List (aB×Nat)}{zs:List aB}{st cnt:Nat}(hs:st≤1000)(hc:cnt≤1000)(h0:0<ts.length)(ht:uS ts)(hz0:0<zs.length)(hz : ∀ z∈zs,nameS z) :
  ∃ ls:List Ln,wF [.list (ns.map cO),.int st,.list (ts.map eX),.list (zs.map bN),.int cnt]=some (.list (ls.map bG))/\ls.length=cnt /\ ∀ l∈ls,Anx ts l:=by
 suffices h : ∃ d,wF [.list (ns.map cO),.int st,.list (ts.map eX),.list (zs.map bN),.int cnt]=some d /\ ∃ ls:List Ln,d = .list (ls.map bG)/\ls.length=cnt /\ ∀ l∈ls,Anx ts l by
  obtain⟨_,e,ls,rfl,h⟩:=h
  exact⟨ls,e,h⟩
 let pre:List L2.Slot:=[s0 (.list (ns.map cO)),s0 (.int st),s0 (.list (ts.map eX)),s0 (.list (zs.map bN)),s0 (.int cnt)]
 refine mJ rfl ?_
 refine dG (ρ':=pre++[some (1,.list []),none,none,none,none,none]) rfl ?_
 refine dG (ρ':=pre++[some (1,.list []),s0 (.int st),none,none,none,none]) rfl ?_
 refine jO (fun ρ'=>∃ (ls:List Ln) (x6 x7 x8 x9 x10:L2.Slot),ls.length=cnt/\(∀ l∈ls,Anx ts l)/\ρ'=pre++[some (1,.list (ls.map bG)),x6,x7,x8,x9,x10]) ?_ ?_
 ·refine IA (n:=cnt) (fun i ρ'=>∃ (ls:List Ln) (at_:Nat) (x7 x8 x9 x10:L2.Slot),ls.length=i/\(∀ l∈ls,Anx ts l)/\at_≤1000+7*i/\ρ'=pre++[some (1,.list (ls.map bG)),s0 (.int at_),x7,x8,x9,x10]) (avS (sP rfl (by omega))) ⟨[],st,none,none,none,none,rfl,fun _ m=>by simp at m,by omega,rfl⟩ ?_ ?_
  ·rintro i _ hi ⟨ls,at_,x7,x8,x9,x10,hl,hls,hat,rfl⟩
   refine⟨pre++[some (1,.list (ls.map bG)),s0 (.int at_),s0 (.int i),x8,x9,x10],rfl,?_⟩
   obtain⟨c,ec⟩:=qP (ns:=ns) (k:=(at_:Int)) (by omega) (by omega)
   have e8 : ∀ y9 y10:L2.Slot,aL dA (aF (aL fX (aF (aC 0) (aF (aC 6) aJ))) (aF (eC (.int 8)) aJ)) (vS (pre++[some (1,.list (ls.map bG)),s0 (.int at_),s0 (.int i),x8,y9,y10]))=some (.int (bH c 8)):=fun _ _=>by
    simp[vS,aC,eC,aL,aF,aJ,pre,ec,gP]
   refine dG (ρ':=pre++[some (1,.list (ls.map bG)),s0 (.int at_),s0 (.int i),s0 (.int (bH c 8)),x9,x10]) ?_ ?_
   ·unfold bX eV
    rw[e8]
    rfl
   obtain⟨j,d,hj,e⟩:=LG (ds:=ts.map eX) (bH c 8) (by simpa using h0)
   rw[fM] at hj
   obtain⟨t,ht1,rfl⟩:=lG.mp hj
   have e':atI (ts.map eX) (bH c 8%(ts.length:Int))=some (eX t):=by simpa using e
   have htm0:=iH ht1
   obtain⟨t1,t2,t3⟩:=ht.1 t htm0
   refine dG (ρ':=pre++[some (1,.list (ls.map bG)),s0 (.int at_),s0 (.int i),s0 (.int (bH c 8)),s0 (eX t),x10]) ?_ ?_
   ·simp[bX,eV,vS,eOp,aC,aL,aF,aJ,bT,g2C,cI,pre,h0,gIx,e']
   obtain⟨tm,et,hlt,htm⟩:=ZG (cap:=[none,some 3,some 0,some 6]) (fi:=iR1 (aF (eOp gIx (aC 9) (eC (.int 1))) aJ)) (T:=gB 0) (t:=cQ) (f:=aL sY (aF (aL fX (aF (aC 2) (aF (eOp cB (eOp cB (aC 3) (eC (.int 1))) (aC 0)) aJ))) (aF (aC 1) aJ)))
    (ρ:=vS (pre++[some (1,.list (ls.map bG)),s0 (.int at_),s0 (.int i),s0 (.int (bH c 8)),s0 (eX t),x10])) (n:=t.2) kD hJ (sP rfl (by omega)) (by omega) (fun k hk=>by
     obtain⟨c2,ec2⟩:=qP (ns:=ns) (k:=(at_:Int)+1+(k:Int)) (by omega) (by omega)
     obtain⟨d,ed,hd⟩:=Mj c2 hz0 hz
     refine⟨[some (.int k),some (.list (zs.map bN)),some (.list (ns.map cO)),some (.int at_)],d,rfl,rfl,?_,hd⟩
     simp[eOp,aC,eC,aL,aF,aJ,cB,ec2,ed])
   refine jO (fun ρ'=>ρ'=pre++[some (1,.list (ls.map bG)),s0 (.int at_),s0 (.int i),s0 (.int (bH c 8)),s0 (eX t),some (1,.list (tm.map kD))]) (HP et (by simp[pre]) ⟨_,rfl,rfl⟩) ?_
   rintro _ rfl
   refine vH ?_
   have hln:Anx ts (t.1,tm):=⟨by show(t.1,tm.length)∈ts; rw[hlt]; exact htm0,htm⟩
   refine jO (fun ρ'=>ρ'=pre++[some (1,.list ((ls++[(t.1,tm)]).map bG)),s0 (.int at_),s0 (.int i),s0 (.int (bH c 8)),s0 (eX t),s0 (.list (tm.map kD))]) (ZQ (d:=bG (t.1,tm)) (ds:=ls.map bG) ?_ rfl (by simp; omega) ⟨_,rfl,by rw[mV]; rfl⟩) ?_
   ·have h2:(2:Nat)≤sizeLine:=eL (by omega)
    simp[frz,vS,eOp,aC,eC,aL,gX,aF,aJ,pE,pre,gIx,eX,atI,ixN,h2,bG]
   rintro _ rfl
   refine jO (fun ρ'=>∃ ls':List Ln,ls'.length=i+1/\(∀ l∈ls',Anx ts l)/\ρ'=pre++[some (1,.list (ls'.map bG)),s0 (.int at_),s0 (.int i),s0 (.int (bH c 8)),s0 (eX t),s0 (.list (tm.map kD))]) ?_ ?_
   ·have hls2 : ∀ l∈ls++[(t.1,tm)],Anx ts l:=fun l m=>by
     rcases iR.mp m with m | m
     ·exact hls l m
     ·rw[dX.mp m]; exact hln
    generalize hg:ls++[(t.1,tm)]=ls2 at hls2 ⊢
    have hl2:ls2.length=i+1:=by rw[← hg]; simp[hl]
    by_cases hb:0<i/\bH c 8 / 8%6=0
    ·have b:=eY (bH c 8 / 64) (show(0:Int)<i by omega)
     obtain⟨j,ej⟩:=kH b.1
     have hj:j<ls2.length:=by omega
     have hx:=hls2 ls2[j] (GB hj)
     have ea:atI (ls2.map bG) (bH c 8 / 64%(i:Int))=some (bG ls2[j]):=by rw[ej]; exact pK (by rw[fM,gV hj]; rfl)
     have hix:ixN (ls2.map bG).length (i:Int)=some i:=by
      unfold ixN
      rw[if_pos (by omega),if_pos (by rw[cX]; omega)]
      simp
     have h0i:=hb.1
     refine eQ (by simp[bV,vS,eOp,aC,eC,bOf,rE,asB,bT,jW,g2I,g2C,gGt,gEq,eA,noDict,gA,cV,pre,hb]) (uU (ρ':=pre++[some (1,.list ((ls2.set i ls2[j]).map bG)),s0 (.int at_),s0 (.int i),s0 (.int (bH c 8)),s0 (eX t),s0 (.list (tm.map kD))]) ?_ ⟨_,rfl,ls2.set i ls2[j],by simp[hl2],fun l m=>?_,rfl⟩)
     ·have hfl:=Xw ls2[j]
      have ee:eV 0 .a (eOp gIx (aC 5) (eOp bT (eOp jW (aC 8) (eC (.int 64))) (aC 7))) (pre++[some (1,.list (ls2.map bG)),s0 (.int at_),s0 (.int i),s0 (.int (bH c 8)),s0 (eX t),s0 (.list (tm.map kD))])=some (bG ls2[j]):=by
       simp[eV,vA,eOp,aC,eC,bT,jW,g2C,iL,pre,gIx,ea,h0i,hfl]
      unfold sJ
      rw[ee]
      simp only[pre,Cc,List.nil_append,eV,vS,aC,getL,fE,xM,pX,AU,cH,hix]
      rw[List.map_set]
      rfl
     ·rcases Bt m with q | q
      ·exact hls2 l q
      ·rw[q]; exact hx
    ·refine PK ?_ (YS ⟨_,rfl,ls2,hl2,hls2,rfl⟩)
     by_cases h1:0<i
     ·have h2 : ¬ bH c 8 / 8%6=0:=fun h=>hb ⟨h1,h⟩
      simp[bV,vS,eOp,aC,eC,bOf,rE,asB,bT,jW,g2I,g2C,gGt,gEq,eA,noDict,gA,cV,pre,h1,h2]
     ·simp[bV,vS,eOp,aC,eC,bOf,rE,asB,bT,jW,g2I,g2C,gGt,gEq,eA,noDict,gA,cV,pre,h1]
   rintro _ ⟨ls',hl',hls',rfl⟩
   refine uU (ρ':=pre++[some (1,.list (ls'.map bG)),s0 (.int ((at_+1+t.2:Nat):Int)),s0 (.int i),s0 (.int (bH c 8)),s0 (eX t),s0 (.list (tm.map kD))]) ?_ ⟨_,.inl rfl,ls',at_+1+t.2,_,_,_,_,hl',hls',by omega,rfl⟩
   simp[bX,eV,vS,eOp,aC,eC,cB,pre,gIx,eX,atI,ixN]
  ·rintro _ ⟨ls,at_,x7,x8,x9,x10,h1,h2,_,rfl⟩
   exact⟨_,rfl,ls,_,_,_,_,_,h1,h2,rfl⟩
 rintro _ ⟨ls,x6,x7,x8,x9,x10,h1,h2,rfl⟩
 exact⟨_,rfl,_,rfl,ls,rfl,h1,h2⟩
noncomputable abbrev AB:aB:="abcdefghijklmnopqrstuvwxyz"
noncomputable abbrev ABF:aB:="abcdefghijklmnopqrstuvwxyz0123456789"
theorem Vg : ∀ c<128,fK c=true->(false != !(iS ABF ⟨#[c]⟩ 0 ABF.length 1).isEmpty)=true:=by decide +kernel
theorem Px : ∀ c<128,letter c=true->(false != !(iS AB ⟨#[c]⟩ 0 AB.length 1).isEmpty)=true:=by decide +kernel
theorem Jv {c:Nat}(h:fK c=true):gIn false (cM c) (.str ABF)=some (.bool true):=by
 show some (eO (false != !(iS ABF ⟨#[c]⟩ 0 ABF.length 1).isEmpty))=_
 rw[Vg c (JG h) h]
theorem Xs {c:Nat}(h:letter c=true):gIn false (cM c) (.str AB)=some (.bool true):=by
 show some (eO (false != !(iS AB ⟨#[c]⟩ 0 AB.length 1).isEmpty))=_
 rw[Px c (JG (Zj h)) h]
theorem Gh:(AB++("0123456789" : aB))=ABF:=by decide +kernel
theorem Wo:FC 10 "0123456789":=⟨by decide +kernel,by decide +kernel⟩
theorem ZX:cB (.str AB) (.str "0123456789")=some (.str ABF):=by
 rw[Vx Lo Wo (by omega),Gh]
theorem SX : ∀ n:Nat,nB (mU n (.bool true))=some (mU n true)
 | 0=>rfl
 | n+1=>by
  show((nB (mU n (.bool true))).bind fun bs=>some (true::bs))=_
  rw[SX n]
  rfl
theorem UR {z:aB}(h:nameS z):kU [.str z]=some (.bool true):=by
 obtain⟨c,r,ez,hc,hs,hl⟩:=h
 have : ∃ d,kU [.str z]=some d/\d = .bool true:=by
  refine mJ rfl ?_
  let R:bE:=[s0 (.str z)]
  have hz:z.length=z.cps.toList.length:=by simp[AN]
  have h1:1≤z.length:=by rw[hz,ez]; simp
  have h12:z.length≤12:=by rw[hz]; exact hl
  have el:aL cI (aF (aC 0) aJ) (vS R)=some (.int z.length):=aZ (ds:=[.str z]) rfl (by simp[cI]; exact eL (by omega))
  have ec:iX gLe gLe (eC (.int 1)) (aL cI (aF (aC 0) aJ)) (eC (.int 12)) (vS R)=some (.bool true):=by
   unfold iX
   rw[el]
   show(if decide ((1:Int)≤(z.length:Int))=true then some (eO (decide ((z.length:Int)≤12))) else some (eO false))=_
   rw[decide_eq_true (by omega),if_pos rfl,decide_eq_true (by omega)]
  have g1:eUn (gF "str") (aC 0) (vS R)=some (.bool true):=rfl
  refine dG (ρ':=R) (fC ?_) ?_
  ·show bOr (eK (bOf _)) (eK (bOf _)) (vS R)=_
   simp only[bOr,eK,bOf,g1,ec,cH,asB]
   rfl
  refine cF (d:=.bool (true&&true)) (oD ?_ fun _=>?_) ⟨_,rfl,rfl⟩
  ·have ix:gIx (.str z) (.int 0)=some (cM c):=by
    show(if z.length≤sizeLine then(atI z.cps.toList 0).bind fun c=>some (bN ⟨#[c]⟩) else none)=_
    have e0:atI z.cps.toList 0=some c:=pK (j:=0) (by rw[ez]; rfl)
    rw[if_pos (eL (by omega)),e0]
    rfl
   exact bA (a:=cM c) (b:=.str AB) (bA (a:=.str z) (b:=.int 0) rfl rfl ix) rfl (Xs hc)
  ·have lc:=vD (cap:=[none]) (fi:=iIt (aC 0)) (T:=gB 0) (t:=cQ) (f:=eOp (gIn false) (aC 0) (eOp cB (eC (.str "abcdefghijklmnopqrstuvwxyz")) (eC (.str "0123456789")))) (ρ:=vS R) (ds:=z.cps.toList.map cM) (fun _=>.bool true) rfl (by simp; simp at hl; omega) (fun d md=>by
    obtain⟨x,mx,rfl⟩:=bP.mp md
    exact⟨[some (cM x)],rfl,rfl,bA (a:=cM x) (b:=.str ABF) rfl (bA (a:=.str AB) (b:=.str "0123456789") rfl rfl ZX) (Jv (hs x mx))⟩)
   refine aZ (bW lc rfl) ?_
   rw[List.map_const']
   show((nB (mU _ (.bool true))).bind fun bs=>some (eO (bs.all id)))=_
   rw[SX,cH]
   simp
 obtain⟨d,e,rfl⟩:=this
 exact e
def nd (d:aA):Prop:=∀ k,d ≠ .dict k
theorem name_kind {d:aA}(h : ∀ z,d ≠ .str z)(hd:nd d):kU [d]=some (.bool false):=by
 have : ∃ r,kU [d]=some r/\r = .bool false:=by
  refine mJ rfl ?_
  refine fH (eQ ?_ (cF (d:=.bool false) rfl ⟨_,rfl,_,rfl,rfl⟩))
  cases d with
  | str z=>exact absurd rfl (h z)
  | dict k=>exact absurd rfl (hd k)
  | _=>rfl
 obtain⟨r,e,rfl⟩:=this
 exact e
end Aw
namespace L2
open PySem PySem.Spec PyProof.Rows
section
variable {K:aK}{H0 H B0:Hp}{P0:aD->Prop}{ρ:bE}{σ:St}{fp:Nat->List aD}{i:Nat}
abbrev R1 (K:aK)(B H:Hp):aA×aA->aO×V->List aD->Prop:=fun kd kv f=>kd.1=kD kv.1/\Ajb K B H 1 kd.2 kv.2 f
end
end L2
namespace Aw
open PySem L2
theorem qH (c:Int)(n:Nat)(h:0<n):bT (.int c) (.int n)=some (.int (c%n)):=by
 show(if 0<(n:Int) then some (cO (c%(n:Int))) else none)=_
 rw[if_pos (by omega)]
theorem Ea {a b:Int}(h:a.natAbs<2 ^ 64):fO (.int a) (.int b)=some (.int (a*b)):=by
 show(if (a.natAbs<2 ^ 64 \/ b.natAbs<2 ^ 64) \/ (a.natAbs<2 ^ 1000/\b.natAbs<2 ^ 1000) then some (cO (a*b)) else none)=_
 rw[if_pos (.inl (.inl h))]
theorem Af {a b:BF}{ρ:List (Option aA)}{x y:Bool}(h:a ρ=some x)(h2:x=true->b ρ=some y):rE a b ρ=some (x&&y):=by
 unfold rE
 rw[h]
 cases x with
 | true=>exact h2 rfl
 | false=>rfl
theorem qL {a b:BF}{ρ:List (Option aA)}{x y:Bool}(h:a ρ=some x)(h2:x=false->b ρ=some y):bOr a b ρ=some (x||y):=by
 unfold bOr
 rw[h]
 cases x with
 | true=>rfl
 | false=>exact h2 rfl
theorem kQ {f:EF}{ρ:List (Option aA)}{x:Bool}(h:f ρ=some (.bool x)):eK (bOf f) ρ=some (!x):=by
 unfold eK
 rw[gH h]
 rfl
theorem YI {xs ys:List aA}(h:xs.length+ys.length≤1000):uQ (.tuple xs) (.tuple ys)=some (.tuple (xs++ys)):=by
 show(if xs.length+ys.length≤sizeLine then some (fR (xs++ys)) else none)=_
 rw[if_pos (eL (by omega))]
theorem Hz {a b:EF}{ρ:List (Option aA)}{x y:Bool}(h:a ρ=some (.bool x))(h2:x=false->b ρ=some (.bool y)):eOr a b ρ=some (.bool (x||y)):=by
 unfold eOr
 rw[h]
 cases x with
 | true=>rfl
 | false=>exact h2 rfl
theorem dR {np n:Nat}{body:SF}{ds:List aA}{d:aA}(hl:ds.length=np)(h:Goes body (ds.map (fun d=>some (0,d))++mU (n - np) none) fun o=>o = .rt d):fnD np n body ds=some d:=by
 obtain⟨o,e,rfl⟩:=h
 exact OK hl e
theorem IQ {α:Type}(f:α->Bool) : ∀ xs:List α,nB (xs.map fun x=>.bool (f x))=some (xs.map f)
 | []=>rfl
 | x::xs=>by
  show((nB (xs.map fun x=>.bool (f x))).bind fun bs=>some (f x::bs))=_
  rw[IQ f xs]
  rfl
theorem BU {α:Type}(f:α->Bool)(xs:List α):lO [.list (xs.map fun x=>.bool (f x))]=some (.bool (xs.all f)):=by
 show((nB (xs.map fun x=>.bool (f x))).bind fun bs=>some (eO (bs.all id)))=_
 rw[IQ,cH,GD]
 rfl
noncomputable def PM:aA->Bool
 | .int _=>true
 | _=>false
theorem Hh {d:aA}(hd:nd d):vX [d]=some (.bool (PM d)):=by
 cases d with
 | dict k=>exact absurd rfl (hd k)
 | _=>rfl
theorem BY (i:Int):nd (.int i):=fun k h=>by cases h
theorem OU (i:aB):nd (.str i):=fun k h=>by cases h
theorem PP (i:List aA):nd (.tuple i):=fun k h=>by cases h
noncomputable def uI:aA->Bool
 | .int i=>decide (i.natAbs<10 ^ 60)
 | _=>false
theorem Fb:sA (.int 10) (.int 60)=some (.int (10 ^ 60)):=by simp[sA,g2C]
theorem Nw {d:aA}(hd:nd d):yZ [d]=some (.bool (uI d)):=by
 refine dR rfl ?_
 have hw:aL vX (aF (aC 0) aJ) (vS [s0 d])=some (.bool (PM d)):=aZ (ds:=[d]) rfl (Hh hd)
 cases d with
 | int i=>
  refine cF (d:=.bool (true&&uI (.int i))) (oD hw fun _=>?_) rfl
  refine bA (a:=.int (if i<0 then -i else i)) (b:=.int (10 ^ 60)) (aZ (ds:=[.int i]) rfl rfl) (bA (a:=.int 10) (b:=.int 60) rfl rfl Fb) ?_
  show some (eO (decide ((if i<0 then -i else i)<10 ^ 60)))=some (eO (decide (i.natAbs<10 ^ 60)))
  congr 2
  rw[decide_eq_decide]
  split <;> omega
 | _=>exact cF (d:=.bool (false&&true)) (oD hw fun h=>nomatch h) rfl
theorem CY {d:aA}{b:Bool}(hd:nd d)(h:kU [d]=some (.bool b)):nG [d]=some (.bool (b||uI d)):=
 dR rfl (cF (d:=.bool (b||uI d)) (Hz (aZ (ds:=[d]) rfl h) fun _=>aZ (ds:=[d]) rfl (Nw hd)) rfl)
theorem Xu {k:aO}(h:hJ k):nG [kD k]=some (.bool true):=by
 cases k with
 | inl i=>
  have e:=CY (d:=.int i) (BY i) (name_kind (fun _ q=>nomatch q) (BY i))
  have h:i.natAbs<10 ^ 60:=h
  rw[show uI (.int i)=true from decide_eq_true h] at e
  exact e
 | inr z=>exact(CY (OU _) (UR h)).trans (by simp)
theorem SO {ds:List aA}(f:aA->Bool)(h : ∀ d∈ds,nG [d]=some (.bool (f d)))(hl:ds.length≤1000)(lo hi:Nat):kT [.tuple ds,.int lo,.int hi]=some (.bool (decide (lo≤ds.length/\ds.length≤hi)&&ds.all f)):=by
 refine dR rfl ?_
 let R:bE:=[s0 (.tuple ds),s0 (.int lo),s0 (.int hi)]
 have el:aL cI (aF (aC 0) aJ) (vS R)=some (.int ds.length):=aZ (ds:=[.tuple ds]) rfl (qR ds)
 have ec:iX gLe gLe (aC 1) (aL cI (aF (aC 0) aJ)) (aC 2) (vS R)=some (.bool (decide (lo≤ds.length/\ds.length≤hi))):=by
  unfold iX
  rw[el]
  show(if decide ((lo:Int)≤(ds.length:Int))=true then some (eO (decide ((ds.length:Int)≤(hi:Int)))) else some (eO false))=_
  by_cases h1:lo≤ds.length
  ·rw[decide_eq_true (by omega),if_pos rfl]
   congr 2
   rw[decide_eq_decide]
   omega
  ·rw[decide_eq_false (by omega),if_neg (by simp),decide_eq_false (by omega)]
 have t1:=qL (a:=eK (bOf (eUn (gF "tuple") (aC 0)))) (b:=eK (bOf (iX gLe gLe (aC 1) (aL cI (aF (aC 0) aJ)) (aC 2)))) (ρ:=vS R) (kQ (x:=true) rfl) (fun _=>kQ ec)
 cases hb:decide (lo≤ds.length/\ds.length≤hi) with
 | false=>
  rw[hb] at t1
  exact fH (eQ t1 (cF (d:=.bool false) rfl ⟨_,rfl,rfl⟩))
 | true=>
  rw[hb] at t1
  refine dG (fC t1) ?_
  have lc:=vD (cap:=[none]) (fi:=iIt (aC 0)) (T:=gB 0) (t:=cQ) (f:=aL nG (aF (aC 0) aJ)) (ρ:=vS R) (ds:=ds) (fun d=>.bool (f d)) (sU rfl) (by omega) (fun d md=>⟨[some d],rfl,rfl,aZ (ds:=[d]) rfl (h d md)⟩)
  exact cF (d:=.bool (true&&ds.all f)) (aZ (bW lc rfl) (BU f ds)) rfl
theorem Zk {ds:List aA}{lo hi:Nat}(h : ¬ (lo≤ds.length/\ds.length≤hi)):kT [.tuple ds,.int lo,.int hi]=some (.bool false):=by
 refine dR rfl ?_
 let R:bE:=[s0 (.tuple ds),s0 (.int lo),s0 (.int hi)]
 have el:aL cI (aF (aC 0) aJ) (vS R)=some (.int ds.length):=aZ (ds:=[.tuple ds]) rfl (qR ds)
 have ec:iX gLe gLe (aC 1) (aL cI (aF (aC 0) aJ)) (aC 2) (vS R)=some (.bool false):=by
  unfold iX
  rw[el]
  show(if decide ((lo:Int)≤(ds.length:Int))=true then some (eO (decide ((ds.length:Int)≤(hi:Int)))) else some (eO false))=_
  by_cases h1:lo≤ds.length
  ·rw[decide_eq_true (by omega),if_pos rfl,decide_eq_false (by omega)]
  ·rw[decide_eq_false (by omega),if_neg (by simp)]
 exact fH (eQ (qL (kQ (x:=true) rfl) (fun _=>kQ ec)) (cF (d:=.bool false) rfl ⟨_,rfl,rfl⟩))
noncomputable def Ew:aA->Bool
 | .tuple ds=>decide (ds.length=2)
 | _=>false
theorem YR {d:aA}(hd:nd d):qX [d]=some (.bool (Ew d)):=by
 cases d with
 | tuple ds=>
  refine dR rfl (cF (d:=.bool (true&&decide (ds.length=2))) (oD rfl fun _=>?_) rfl)
  refine bA (a:=.int ds.length) (b:=.int 2) (aZ (ds:=[.tuple ds]) rfl (qR ds)) rfl ?_
  rw[vJ]
  congr 2
  rw[decide_eq_decide]
  omega
 | dict k=>exact absurd rfl (hd k)
 | _=>rfl
theorem line_of {a b:aA}{x y:Bool}(ha:kU [a]=some (.bool x))(hb:x=true->kT [b,.int 1,.int 6]=some (.bool y)):nF [.tuple [a,b]]=some (.bool (x&&y)):=by
 refine dR rfl (cF (d:=.bool (true&&(x&&y))) (oD (aZ (ds:=[.tuple [a,b]]) rfl (YR (PP _))) fun _=>oD ?_ fun hx=>?_) (by simp))
 ·exact aZ (ds:=[a]) (bW (bA (a:=.tuple [a,b]) (b:=.int 0) rfl rfl rfl) rfl) ha
 ·exact aZ (ds:=[b,.int 1,.int 6]) (bW (bA (a:=.tuple [a,b]) (b:=.int 1) rfl rfl rfl) rfl) (hb hx)
theorem VI {ds:List aA}(f:aA->Bool)(h : ∀ d∈ds,nF [d]=some (.bool (f d)))(hl:ds.length≤1000):oI [.tuple ds]=some (.bool (decide (ds.length≤5)&&ds.all f)):=by
 refine dR rfl ?_
 let R:bE:=[s0 (.tuple ds)]
 have el:eOp gGt (aL cI (aF (aC 0) aJ)) (eC (.int 5)) (vS R)=some (.bool (decide (¬ ds.length≤5))):=by
  refine bA (a:=.int ds.length) (b:=.int 5) (aZ (ds:=[.tuple ds]) rfl (qR ds)) rfl ?_
  show some (eO (decide ((ds.length:Int) > 5)))=_
  congr 2
  rw[decide_eq_decide]
  omega
 have t1:=qL (a:=eK (bOf (eUn (gF "tuple") (aC 0)))) (b:=bOf (eOp gGt (aL cI (aF (aC 0) aJ)) (eC (.int 5)))) (ρ:=vS R) (kQ (x:=true) rfl) (fun _=>gH el)
 by_cases hb:ds.length≤5
 ·rw[decide_eq_false (by omega)] at t1
  refine dG (fC t1) ?_
  have lc:=vD (cap:=[none]) (fi:=iIt (aC 0)) (T:=gB 0) (t:=cQ) (f:=aL nF (aF (aC 0) aJ)) (ρ:=vS R) (ds:=ds) (fun d=>.bool (f d)) (sU rfl) (by omega) (fun d md=>⟨[some d],rfl,rfl,aZ (ds:=[d]) rfl (h d md)⟩)
  rw[decide_eq_true hb]
  exact cF (d:=.bool (true&&ds.all f)) (aZ (bW lc rfl) (BU f ds)) rfl
 ·rw[decide_eq_true (by omega)] at t1
  rw[decide_eq_false hb]
  exact fH (eQ t1 (cF (d:=.bool false) rfl ⟨_,rfl,rfl⟩))
theorem Pa {ds:List aA}(h:5<ds.length):oI [.tuple ds]=some (.bool false):=by
 refine dR rfl ?_
 have el:eOp gGt (aL cI (aF (aC 0) aJ)) (eC (.int 5)) (vS [s0 (.tuple ds)])=some (.bool true):=by
  refine bA (a:=.int ds.length) (b:=.int 5) (aZ (ds:=[.tuple ds]) rfl (qR ds)) rfl ?_
  show some (eO (decide ((ds.length:Int) > 5)))=_
  rw[decide_eq_true (by omega)]
 exact fH (eQ (qL (kQ (x:=true) rfl) (fun _=>gH el)) (cF (d:=.bool false) rfl ⟨_,rfl,rfl⟩))
theorem BZ {a b:aA}{x y s w:Bool}(ha:kT [a,.int 0,.int 4]=some (.bool x))(hb:x=true->oI [b]=some (.bool y))(hs:x=true->y=true->wI [a,b]=some (.bool s))(hw:x=true->y=true->s=true->rD [b]=some (.bool w)):iB [.tuple [a,b]]=some (.bool (x&&y&&s&&w)):=by
 refine dR rfl ?_
 let R:bE:=[s0 (.tuple [a,b])]
 have ia:eOp gIx (aC 0) (eC (.int 0)) (vS R)=some a:=bA (a:=.tuple [a,b]) (b:=.int 0) rfl rfl rfl
 have ib:eOp gIx (aC 0) (eC (.int 1)) (vS R)=some b:=bA (a:=.tuple [a,b]) (b:=.int 1) rfl rfl rfl
 have t:=qL (ρ:=vS R) (kQ (aZ (fa:=aF (aC 0) aJ) (ds:=[.tuple [a,b]]) (g:=qX) rfl (YR (PP _)))) fun _=>qL (kQ (aZ (fa:=aF (eOp gIx (aC 0) (eC (.int 0))) (aF (eC (.int 0)) (aF (eC (.int 4)) aJ))) (ds:=[a,.int 0,.int 4]) (bW ia rfl) ha)) (y:=!y) fun hx=>kQ (aZ (fa:=aF (eOp gIx (aC 0) (eC (.int 1))) aJ) (ds:=[b]) (bW ib rfl) (hb (by simpa using hx)))
 cases x with
 | false=>exact fH (eQ t (cF (d:=.bool false) rfl ⟨_,rfl,by simp⟩))
 | true=>
  cases y with
  | false=>exact fH (eQ t (cF (d:=.bool false) rfl ⟨_,rfl,by simp⟩))
  | true=>
   refine dG (fC t) (cF (d:=.bool (s&&w)) (oD (aZ (ds:=[a,b]) (bW ia (bW ib rfl)) (hs rfl rfl)) fun q=>aZ (ds:=[b]) (bW ib rfl) (hw rfl rfl q)) (by simp))
def XZ (l:Ln):Prop:=l.2.length≤6 /\ ∀ k∈l.2,cD (kD k)=true
noncomputable abbrev lsD (ls:List Ln):aA:=.tuple (ls.map bG)
noncomputable abbrev lK (ks:List aO):aA:=.list (ks.map kD)
noncomputable def Da:aO->Option aB
 | .inr z=>some z
 | .inl _=>none
noncomputable def HI (ks:List aO):List aB:=ks.filterMap Da
noncomputable def fU (ls:List (aB×List aO)):List aB:=ET (ls.flatMap fun l=>HI l.2)
noncomputable def kt (z:aB):aA×aA:=(.str z,.bool true)
theorem Ir (acc:List aB)(z:aB):((acc.map kt).any fun kd=>decide (fP kd.1=some (.inr z)))=decide (z∈acc):=by
 induction acc with
 | nil=>rfl
 | cons y r ih=>
  rw[fE,BE,ih]
  have:fP (kt y).1=some (.inr y):=rfl
  rw[this]
  by_cases h:z=y
  ·subst h; simp
  ·have h' : ¬ y=z:=fun e=>h e.symm
   simp[h,h']
theorem Lr (acc:List aB)(z:aB):putD (acc.map kt) (.inr z) (.bool true)=(nL acc z).map kt:=by
 unfold putD nL
 rw[Ir]
 by_cases h:z∈acc
 ·rw[if_pos (by simpa using h),if_pos h,fS]
  refine BC fun y _=>?_
  show(if fP (kt y).1=some (.inr z) then((kt y).1,eO true) else kt y)=kt y
  split <;> rfl
 ·rw[if_neg (by simpa using h),if_neg h,mV]
  rfl
noncomputable def gN (acc:List aB)(k:aO):List aB:=match k with
 | .inr z=>nL acc z
 | .inl _=>acc
theorem HC : ∀ (ks:List aO) (acc:List aB),ks.foldl gN acc=(HI ks).foldl nL acc
 | [],_=>rfl
 | .inl i::ks,acc=>HC ks acc
 | .inr z::ks,acc=>HC ks (nL acc z)
theorem Ha (acc:List aB)(k:aO):(gN acc k).length≤acc.length+1:=by
 cases k with
 | inl i=>exact Nat.le_succ _
 | inr z=>exact Uz acc z
theorem Iu {acc:List aB}{k:aO}(h : ∀ z∈acc,cD (.str z)=true)(hk:cD (kD k)=true) : ∀ z∈gN acc k,cD (.str z)=true:=by
 cases k with
 | inl i=>exact h
 | inr z=>exact fun y m=>(Awd.mp m).elim (h y) fun e=>e ▸ hk
theorem Pf {ls:List (aB×List aO)}(h : ∀ l∈ls,XZ l)(hn:ls.length≤100):wA [.tuple (ls.map bG)]=some (.list ((fU ls).map bN)):=by
 have : ∃ d,wA [.tuple (ls.map bG)]=some d/\d = .list ((fU ls).map bN):=by
  refine mJ rfl ?_
  refine eE (n:=1) (d:=.dict []) rfl (by simp) ?_
  refine jO (fun ρ'=>∃ x2 x3:L2.Slot,(∀ z∈fU ls,cD (.str z)=true)/\ρ'=[s0 (.tuple (ls.map bG)),some (1,.dict ((fU ls).map kt)),x2,x3]) ?_ ?_
  ·refine CJ (xs:=ls) (q:=bG) (b0:=[]) (fun acc l=>l.2.foldl gN acc) (fun i acc ρ'=>∃ x2 x3:L2.Slot,acc.length≤6*i/\(∀ z∈acc,cD (.str z)=true)/\ρ'=[s0 (.tuple (ls.map bG)),some (1,.dict (acc.map kt)),x2,x3]) (avS (sU rfl)) ⟨none,none,bU _,fun _ m=>by simp at m,rfl⟩ ?_ ?_
   ·rintro i l acc _ hx ⟨x2,x3,ha,hy,rfl⟩
    have hl:=h l (iH hx)
    have hi:i<ls.length:=(fN.mp hx).1
    refine⟨[s0 (.tuple (ls.map bG)),some (1,.dict (acc.map kt)),s0 (bG l),x3],rfl,?_⟩
    refine CJ (xs:=l.2) (q:=kD) (b0:=acc) gN (fun j acc' ρ'=>∃ x3:L2.Slot,acc'.length≤6*i+j/\(∀ z∈acc',cD (.str z)=true)/\ρ'=[s0 (.tuple (ls.map bG)),some (1,.dict (acc'.map kt)),s0 (bG l),x3]) (avS (sU (by simp[vS,eOp,aC,eC,bG,gIx,atI,ixN]))) ⟨x3,ha,hy,rfl⟩ ?_ ?_
    ·rintro j k acc' _ hk ⟨x3,ha',hy',rfl⟩
     have hj:j<l.2.length:=(fN.mp hk).1
     have h6:=hl.1
     refine⟨[s0 (.tuple (ls.map bG)),some (1,.dict (acc'.map kt)),s0 (bG l),s0 (kD k)],rfl,?_⟩
     have g1:=Ha acc' k
     have g2:=Iu hy' (hl.2 k (iH hk))
     cases k with
     | inl v=>exact PK (by simp[bV,vS,eUn,aC,bOf,asB,gF,qG,isK,kD]) (YS ⟨_,.inl rfl,_,by omega,g2,rfl⟩)
     | inr z=>
      refine eQ (by simp[bV,vS,eUn,aC,bOf,asB,gF,qG,isK,kD]) (Jp (d:=.bool true) (kd:=.str z) (key:=.inr z) (kds:=acc'.map kt) rfl rfl rfl rfl (by simp; omega) ⟨_,.inl rfl,s0 (.str z),by omega,g2,?_⟩)
      rw[Lr]
      rfl
    ·rintro _ ⟨x3,ha',hy',rfl⟩
     have h6:=hl.1
     exact⟨_,.inl rfl,_,_,by omega,hy',rfl⟩
   ·rintro _ ⟨x2,x3,ha,hy,rfl⟩
    have e:ls.foldl (fun acc l=>l.2.foldl gN acc) []=fU ls:=by
     unfold fU ET
     rw[List.foldl_flatMap]
     congr 1
     funext acc l
     exact HC l.2 acc
    rw[e] at hy ⊢
    exact⟨_,rfl,x2,x3,hy,rfl⟩
  rintro _ ⟨x2,x3,hy,rfl⟩
  refine vH (cF (d:=.list ((fU ls).map bN)) (aZ (ds:=[.dict ((fU ls).map kt)]) rfl ?_) ⟨_,rfl,rfl⟩)
  have hp:plK ((fU ls).map kt)=true:=Ji fun kd m=>by
   obtain⟨z,_,rfl⟩:=bP.mp m
   exact fun q=>nomatch q
  show(if (plK ((fU ls).map kt)&&((fU ls).map kt).all (fun kd=>cD kd.1))=true then some (rM (((fU ls).map kt).map (·.1))) else none)=_
  rw[hp,Bool.true_and,if_pos (dZ.mpr fun kd m=>by
   obtain⟨z,mz,rfl⟩:=bP.mp m
   exact hy z mz),fS]
  rfl
 obtain⟨d,e,rfl⟩:=this
 exact e
theorem Mt (y z:aB):cV (.str y) (.str z)=decide (y=z):=by
 rw[show cV (.str y) (.str z)=(y == z) by simp[cV],BL]
 simp
theorem Lb (zs:List aB)(z:aB):((zs.map bN).any fun d=>cV d (.str z))=decide (z∈zs):=by
 rw[List.any_map,BL]
 simp[Mt]
theorem Qg (zs:List aB):noDicts (zs.map bN)=true:=yY fun t m=>by
 obtain⟨z,_,rfl⟩:=bP.mp m
 rfl
theorem Ke (neg:Bool)(zs:List aB)(z:aB):gIn neg (.str z) (.list (zs.map bN))=some (.bool (neg != decide (z∈zs))):=by
 show(if (eA (.str z)&&noDicts (zs.map bN))=true then some (eO (neg != (zs.map bN).any fun d=>cV d (.str z))) else none)=_
 rw[Qg,Lb,show eA (.str z)=true from rfl,Cp,if_pos rfl]
theorem Xz {ls:List (aB×List aO)}{z:aB}:z∈fU ls ↔ ∃ l∈ls,z∈HI l.2:=by
 unfold fU
 rw[Xa,BA]
def oZ (l:Ln):Prop:=XZ l/\cD (.str l.1)=true
noncomputable def dH (l:Ln):List aA:=[.str l.1,.int l.2.length]
theorem We {l:Ln}(h:oZ l):cG (dH l)=true/\dJ (dH l)≤6:=by
 constructor
 ·have:=h.2
  simp[dH,cG,bF,this]
 ·simp[dH,dJ,gA]
theorem VR : ∀ {ls:List Ln},(∀ l∈ls,oZ l)->qF (ls.map fun l=>.tuple (dH l))=some (ls.map dH)
 | [],_=>rfl
 | l::ls,h=>by
  show(if cG (dH l)=true/\dJ (dH l)≤6 then(qF (ls.map fun l=>.tuple (dH l))).bind fun kss=>some (dH l::kss) else none)=_
  rw[if_pos (We (h l bQ)),VR fun x m=>h x (cA _ m)]
  rfl
theorem Vr {kss:List (List aA)} : ∀ {acc:List (List aA)} {k:List aA},k∈kss.foldl gE acc↔k∈acc \/ k∈kss:=by
 induction kss with
 | nil=>intro acc k; simp
 | cons x r ih=>
  intro acc k
  rw[mX,ih]
  unfold gE
  by_cases hx:x∈acc
  ·rw[if_pos hx]
   constructor
   ·rintro(h | h)
    ·exact .inl h
    ·exact .inr (cA _ h)
   ·rintro(h | h)
    ·exact .inl h
    ·rcases cN.mp h with rfl | h
     ·exact .inl hx
     ·exact .inr h
  ·rw[if_neg hx,iR,dX,cN,or_assoc]
theorem Mi {kss:List (List aA)} : ∀ {acc:List (List aA)},acc.Nodup->(kss.foldl gE acc).Nodup:=by
 induction kss with
 | nil=>intro acc h; exact h
 | cons x r ih=>
  intro acc h
  rw[mX]
  refine ih ?_
  unfold gE
  by_cases hx:x∈acc
  ·rw[if_pos hx]; exact h
  ·rw[if_neg hx]
   refine Bs.mpr ⟨h,by simp,fun a ha b hb=>?_⟩
   rw[dX.mp hb]
   exact fun e=>hx (e ▸ ha)
theorem Asf {kss:List (List aA)}{k:List aA}:k∈dQ kss↔k∈kss:=by
 unfold dQ
 rw[Vr]
 simp
theorem Vw (kss:List (List aA)):(dQ kss).Nodup:=Mi (by simp)
theorem Ut (ls:List Ln):okT (dQ (ls.map dH))=true:=by
 unfold okT
 have h : ∀ k∈dQ (ls.map dH),∃ l:Ln,k=dH l:=fun k m=>by
  obtain⟨l,_,rfl⟩:=bP.mp (Asf.mp m)
  exact⟨l,rfl⟩
 have h1:sameAll (dQ (ls.map dH))=true:=dZ.mpr fun k m=>dZ.mpr fun k' m'=>by
  obtain⟨l,rfl⟩:=h k m
  obtain⟨l',rfl⟩:=h k' m'
  rfl
 have h2:((dQ (ls.map dH)).all fun k=>(lR k).isSome)=true:=dZ.mpr fun k m=>by
  obtain⟨l,rfl⟩:=h k m
  rfl
 rw[h1,h2]
 simp
noncomputable def lZ (ls:List Ln):List (List aA):=kN (dQ (ls.map dH))
theorem Kp {m:Nat}{fi:AF}{ρ:List (Option aA)}{ls:List Ln}(h:fi ρ=some (ls.map bG))(hl:ls.length≤1000):eLC [none] fi (gB 0) cQ (gX (aF (eOp gIx (aC 0) (eC (.int 0))) (aF (aL cI (aF (eOp gIx (aC 0) (eC (.int 1))) aJ)) aJ))) ρ=some (.list (ls.map fun l=>.tuple (dH l))):=by
 have:=jP (cap:=[none]) (fi:=fi) (T:=gB 0) (t:=cQ) (f:=gX (aF (eOp gIx (aC 0) (eC (.int 0))) (aF (aL cI (aF (eOp gIx (aC 0) (eC (.int 1))) aJ)) aJ))) (ρ:=ρ) (xs:=ls) (q:=bG) (fun _=>true) (fun l=>.tuple (dH l)) h (by omega) (fun l ml=>⟨[some (bG l)],rfl,rfl,fun _=>by
  exact pF (ds:=dH l) (bW (d:=.str l.1) rfl (bW (g:=aJ) (d:=.int l.2.length) (aZ (ds:=[.tuple (l.2.map kD)]) rfl (by rw[qR,cX])) rfl)) (by simp[dH])⟩)
 rw[this,lL.mpr (by simp)]
theorem Rc {ls:List Ln}{D:aA}(hi:itemsOf D=some (ls.map bG))(h : ∀ l∈ls,oZ l)(hl:ls.length<64):wH [D]=some (.list ((lZ ls).map fR)):=by
 have : ∃ d,wH [D]=some d/\d = .list ((lZ ls).map fR):=by
  refine mJ rfl ?_
  refine cF (d:=.list ((lZ ls).map fR)) (aZ (ds:=[.list (ls.map fun l=>.tuple (dH l))]) (bW (Kp (m:=0) (fi:=iIt (aC 0)) (ρ:=vS [s0 D]) hi (by omega)) rfl) ?_) ⟨_,rfl,rfl⟩
  show((qF (ls.map fun l=>fR (dH l))).bind fun kss=>if (dQ kss).length<64/\okT (dQ kss)=true then some (rM ((kN (dQ kss)).map fR)) else none)=_
  rw[VR h,cH,if_pos ⟨Bm (jB (TQ (ls.map dH) []) (by simp)) hl,Ut ls⟩]
  rfl
 obtain⟨d,e,rfl⟩:=this
 exact e
theorem Akv {ls:List Ln}{k:List aA}:k∈lZ ls ↔ ∃ l∈ls,k=dH l:=by
 unfold lZ
 rw[(tD _).mem_iff,Asf,bP]
 exact⟨fun⟨l,m,e⟩=>⟨l,m,e.symm⟩,fun⟨l,m,e⟩=>⟨l,m,e.symm⟩⟩
theorem TZ : ∀ (l acc:List aO),(l.foldl gM acc).length≤acc.length+l.length
 | [],acc=>by simp
 | x::r,acc=>by
  rw[mX]
  have:=TZ r (gM acc x)
  have h2:(gM acc x).length≤acc.length+1:=by unfold gM; split <;> simp
  simp only[fI]
  omega
theorem WH : ∀ (l acc:List aO),(l.foldl gM acc).length=acc.length+l.length->l.Nodup /\ ∀ a∈l,a∉acc
 | [],acc,_=>⟨by simp,by simp⟩
 | x::r,acc,h=>by
  rw[mX] at h
  by_cases hx:x∈acc
  ·have e:gM acc x=acc:=by unfold gM; rw[if_pos hx]
   rw[e] at h
   have:=TZ r acc
   simp only[fI] at h
   omega
  ·have e:gM acc x=acc++[x]:=by unfold gM; rw[if_neg hx]
   rw[e] at h
   obtain⟨h1,h2⟩:=WH r (acc++[x]) (by rw[h]; simp; omega)
   refine⟨oR.mpr ⟨fun m=>h2 x m (by simp),h1⟩,fun a m=>?_⟩
   rcases cN.mp m with rfl | m
   ·exact hx
   ·exact fun ma=>h2 a m (tZ _ ma)
theorem Pz {ks:List aO}(h:ks.Nodup):(dP ks).length=ks.length:=
 Zg (SL (by simp)) h fun a=>by unfold dP; rw[VA]; simp
theorem JA {α β:Type}{f:α->β} : ∀ {l:List α},(l.map f).Nodup -> ∀ a∈l,∀ b∈l,f a=f b->a=b
 | [],_,a,m,_,_,_=>by simp at m
 | x::l,h,a,ma,b,mb,e=>by
  rw[fE,oR] at h
  rcases cN.mp ma with rfl | ma
  ·rcases cN.mp mb with rfl | mb
   ·rfl
   ·exact absurd (bP.mpr ⟨b,mb,e.symm⟩) h.1
  ·rcases cN.mp mb with q | mb
   ·rw[q] at e
    exact absurd (bP.mpr ⟨a,ma,e⟩) h.1
   ·exact JA h.2 a ma b mb e
theorem UX {l l':Ln}(h:dH l=dH l'):l.1=l'.1/\l.2.length=l'.2.length:=by
 unfold dH at h
 injection h with h1 h2
 injection h1 with h1
 injection h2 with h2
 injection h2 with h2
 exact⟨h1,by omega⟩
noncomputable def vF (ls:List Ln):aO->Bool
 | .inl _=>true
 | .inr z=>decide (z∈fU ls)
theorem UB {hd:List aO}{ls:List Ln}(h : ∀ l∈ls,oZ l)(hl:ls.length≤100)(hh:hd.length≤1000):wI [tK hd,lsD ls]=some (.bool (hd.all (vF ls))):=by
 refine dR rfl ?_
 refine eE (n:=0) (d:=.list ((fU ls).map bN)) (aZ (ds:=[lsD ls]) rfl (Pf (fun l m=>(h l m).1) hl)) (by simp) ?_
 let R:bE:=[s0 (tK hd),s0 (lsD ls),s0 (.list ((fU ls).map bN))]
 have lc:=jP (cap:=[none,some 2]) (fi:=iIt (aC 0)) (T:=gB 0) (t:=bOf (eUn (gF "str") (aC 0))) (f:=eOp (gIn false) (aC 0) (aC 1)) (ρ:=vS R) (xs:=hd) (q:=kD) isS (fun k=>.bool (vF ls k)) (sU rfl) (by omega) (fun k mk=>⟨[some (kD k),some (.list ((fU ls).map bN))],rfl,by cases k <;> rfl,fun hs=>by
  cases k with
  | inl i=>cases hs
  | inr z=>
   refine bA (a:=.str z) (b:=.list ((fU ls).map bN)) rfl rfl ?_
   rw[Ke]
   simp[vF]⟩)
 refine cF (d:=.bool (hd.all (vF ls))) (aZ (bW lc rfl) ((BU (vF ls) (hd.filter isS)).trans ?_)) rfl
 congr 2
 rw[BL,dZ,dZ]
 constructor
 ·intro q k mk
  cases k with
  | inl i=>rfl
  | inr z=>exact q _ (GA.mpr ⟨mk,rfl⟩)
 ·exact fun q k mk=>q k (GA.mp mk).1
def xY (ls:List Ln):Prop:=∀ l∈ls,∀ l'∈ls,l.1=l'.1->l.2.length=l'.2.length
theorem UI : ∀ zs:List aB,oM (zs.map bN)=some (zs.map jS)
 | []=>rfl
 | i::is=>by
  show((fP (.str i)).bind fun k=>(oM (is.map bN)).bind fun ks=>some (k::ks))=_
  rw[UI is]
  rfl
theorem Yt (ls:List Ln) : ∃ xs:List Ln,lZ ls=xs.map dH/\(∀ x∈xs,x∈ls):=by
 have : ∀ qs:List (List aA),(∀ k∈qs,∃ l∈ls,k=dH l) -> ∃ xs:List Ln,qs=xs.map dH /\ ∀ x∈xs,x∈ls:=fun qs=>by
  induction qs with
  | nil=>intro _; exact⟨[],rfl,by simp⟩
  | cons k qs ih=>
   intro h
   obtain⟨l,ml,rfl⟩:=h k bQ
   obtain⟨xs,rfl,hx⟩:=ih fun x m=>h x (cA _ m)
   refine⟨l::xs,rfl,fun x m=>?_⟩
   rcases cN.mp m with rfl | m
   ·exact ml
   ·exact hx x m
 exact this (lZ ls) fun k m=>Akv.mp m
theorem IE {ls:List Ln}{D0:aA}(hi:itemsOf D0=some (ls.map bG))(h : ∀ l∈ls,oZ l)(hl:ls.length<64) : ∃ b:Bool,rD [D0]=some (.bool b)/\(b=true↔xY ls):=by
 obtain⟨xs,ex,hx⟩:=Yt ls
 have nd:(lZ ls).Nodup:=(tD _).nodup_iff.mpr (Vw _)
 have hlx:xs.length<64:=by
  have h1:(lZ ls).length≤ls.length:=by
   unfold lZ
   rw[(tD _).length_eq]
   exact jB (Yd _) (by simp)
  rw[ex,cX] at h1
  omega
 refine⟨decide (xs.length=(dP ((xs.map (·.1)).map jS)).length),?_,?_⟩
 ·refine dR rfl ?_
  refine eE (n:=0) (d:=.list ((lZ ls).map fR)) (aZ (ds:=[D0]) rfl (Rc hi h hl)) (by simp) ?_
  rw[ex,fS]
  let D:aA:=.list (xs.map (fR∘dH))
  let R:bE:=[s0 D0,s0 D]
  have lc:=jP (cap:=[none]) (fi:=iIt (aC 1)) (T:=gB 0) (t:=cQ) (f:=eOp gIx (aC 0) (eC (.int 0))) (ρ:=vS R) (xs:=xs) (q:=fR∘dH) (fun _=>true) (fun l=>.str l.1) (kA rfl) (by omega) (fun l ml=>⟨[some (.tuple (dH l))],rfl,rfl,fun _=>rfl⟩)
  rw[lL.mpr (by simp)] at lc
  refine cF (d:=.bool (decide (xs.length=(dP ((xs.map (·.1)).map jS)).length))) (bA (a:=.int xs.length) (b:=.int (dP ((xs.map (·.1)).map jS)).length) (aZ (ds:=[D]) rfl (by simp[cI,D])) (aZ (bW lc rfl) ?_) ?_) rfl
  ·have e:(xs.map fun l=>bN l.1)=(xs.map (·.1)).map bN:=by rw[fS]; rfl
   rw[e]
   show((oM ((xs.map (·.1)).map bN)).bind fun ks=>if ks.length≤4000 then some (cO (dP ks).length) else none)=_
   rw[UI,cH,if_pos (by simp; omega)]
  ·rw[vJ]
   congr 2
   rw[decide_eq_decide]
   omega
 ·rw[decide_eq_true_eq]
  have e:xs.length=((xs.map (·.1)).map (jS:aB->aO)).length:=by simp
  have key:(xs.length=(dP ((xs.map (·.1)).map jS)).length)↔(xs.map (·.1)).Nodup:=by
   constructor
   ·intro q
    have:=(WH ((xs.map (·.1)).map jS) [] (by rw[← dP,← q]; simp)).1
    exact List.Pairwise.imp (R:=fun a b=>(jS a:aO)≠jS b) (S:=fun a b=>a≠b) (fun q e=>q (congrArg jS e)) (xH.mp this)
   ·intro q
    rw[Pz (CS (fun a _ b _ q=>Sum.inr.inj q) q),← e]
  rw[key]
  constructor
  ·intro q l ml l' ml' e1
   have h1:dH l∈lZ ls:=Akv.mpr ⟨l,ml,rfl⟩
   have h2:dH l'∈lZ ls:=Akv.mpr ⟨l',ml',rfl⟩
   rw[ex] at h1 h2
   obtain⟨x,mx,ex1⟩:=bP.mp h1
   obtain⟨y,my,ey1⟩:=bP.mp h2
   obtain⟨p1,p2⟩:=UX ex1
   obtain⟨q1,q2⟩:=UX ey1
   have:=JA q x mx y my (by rw[p1,q1,e1])
   subst this
   omega
  ·intro q
   rw[ex] at nd
   refine xH.mpr (MQ (fun {a b} ma mb (hne:dH a≠dH b) e1=>hne ?_) (xH.mp nd))
   unfold dH
   rw[e1,q a (hx a ma) b (hx b mb) e1]
theorem OV (ds:List aA)(k:Nat):cutD ds (some (k:Int)) none=ds.drop k:=by
 unfold cutD
 rw[HT.Alr,HT.Auy]
 by_cases h:k≤ds.length
 ·rw[AY h,FY (by simp)]
 ·rw[MH (by omega),GC (by omega),GC (by omega)]
  simp
theorem Hb (ds:List aA)(k:Nat):cutD ds none (some (k:Int))=ds.take k:=by
 unfold cutD
 rw[HT.Alr,HT.Auy]
 by_cases h:k≤ds.length
 ·simp[AY h]
 ·rw[MH (by omega)]
  simp
  rw[FY (by omega)]
theorem Nc {xs ys:List aA}(h:xs.length+ys.length≤100000):xX (.list xs) (.list ys)=some (.list (xs++ys)):=by
 show(if xs.length+ys.length≤sizeLine then some (rM (xs++ys)) else none)=_
 rw[if_pos (eL h)]
theorem ZI {k:aO}(h:hJ k):cD (kD k)=true:=by
 cases k with
 | inl i=>rfl
 | inr z=>exact nameS.lay h
structure LineG (l:Ln):Prop where
 name:nameS l.1
 one:1≤l.2.length
 six:l.2.length≤6
 tms : ∀ k∈l.2,hJ k
theorem Anx.good {ts:List (aB×Nat)}{l:Ln}(ht:uS ts)(h:Anx ts l):LineG l:=by
 obtain⟨h1,h2⟩:=h
 obtain⟨a,b,c⟩:=ht.1 _ h1
 exact⟨a,b,c,h2⟩
theorem LineG.T {l:Ln}(h:LineG l):oZ l:=⟨⟨h.six,fun k m=>ZI (h.tms k m)⟩,h.name.lay⟩
theorem VG {ks:List aO}(h : ∀ k∈ks,hJ k){lo hi:Nat}(h1:lo≤ks.length)(h2:ks.length≤hi)(h3:hi≤1000):kT [tK ks,.int lo,.int hi]=some (.bool true):=by
 have:=SO (ds:=ks.map kD) (fun _=>true) (fun d m=>by
  obtain⟨k,mk,rfl⟩:=bP.mp m
  exact Xu (h k mk)) (by simp; omega) lo hi
 rw[this,decide_eq_true (by rw[cX]; exact⟨h1,h2⟩)]
 simp
theorem LineG.line {l:Ln}(h:LineG l):nF [bG l]=some (.bool true):=line_of (UR h.name) fun _=>VG (lo:=1) (hi:=6) h.tms h.one h.six (by omega)
noncomputable def kM (ls:List Ln):List aO:=ls.flatMap (·.2)
structure AltG (ts:List (aB×Nat))(hd:List aO)(ls:List Ln):Prop where
 tab:uS ts
 lin : ∀ l∈ls,Anx ts l
 few:ls.length≤5
 hd4:hd.length≤4
 tms : ∀ k∈hd,hJ k
 std : ∀ k∈hd,∀ z,k = .inr z->z∈fU ls
theorem Oh {ls:List Ln}(h : ∀ l∈ls,LineG l)(h5:ls.length≤5):oI [lsD ls]=some (.bool true):=by
 rw[VI (ds:=ls.map bG) (fun _=>true) (fun d m=>by
  obtain⟨l,ml,rfl⟩:=bP.mp m
  exact(h l ml).line) (by simp; omega),decide_eq_true (by rw[cX]; exact h5)]
 simp
theorem Arw {ls:List Ln}{hd:List aO}:hd.all (vF ls)=true ↔ ∀ k∈hd,∀ z,k = .inr z->z∈fU ls:=by
 rw[dZ]
 constructor
 ·rintro h k mk z rfl
  exact of_decide_eq_true (h _ mk)
 ·intro h k mk
  cases k with
  | inl i=>rfl
  | inr z=>exact decide_eq_true (h _ mk z rfl)
theorem SQ {ts:List (aB×Nat)}{ls:List Ln}(ht:uS ts)(h : ∀ l∈ls,Anx ts l):xY ls:=by
 intro l ml l' ml' e
 have:=JA ht.2 _ (h l ml).1 _ (h l' ml').1 e
 exact(Prod.mk.inj this).2
theorem Nn {a b:aA}(h:kT [a,.int 0,.int 4]=some (.bool false)):iB [.tuple [a,b]]=some (.bool false):=
 BZ (x:=false) (y:=true) (s:=true) (w:=true) h (fun q=>nomatch q) (fun q=>nomatch q) (fun q=>nomatch q)
theorem Ww {a b:aA}(h:kT [a,.int 0,.int 4]=some (.bool true))(h2:oI [b]=some (.bool false)):iB [.tuple [a,b]]=some (.bool false):=
 BZ (x:=true) (y:=false) (s:=true) (w:=true) h (fun _=>h2) (fun _ q=>nomatch q) (fun _ q=>nomatch q)
theorem Ayy {ls:List Ln}{z:aB}:z∈fU ls↔(.inr z:aO)∈kM ls:=by
 rw[Xz]
 unfold kM
 rw[BA]
 constructor
 ·rintro⟨l,ml,h⟩
  obtain⟨k,mk,e⟩:=xI.mp h
  refine⟨l,ml,?_⟩
  cases k with
  | inl i=>cases e
  | inr y=>cases e; exact mk
 ·rintro⟨l,ml,h⟩
  exact⟨l,ml,xI.mpr ⟨_,h,rfl⟩⟩
theorem ZE {ρ:bE}{P:Out->Prop}{i:Nat}{f:EF}{ds ts:List aA}(h:f (vS ρ)=some (.tuple ts))(hg:getL i ρ=some ds)(hl:ds.length+ts.length≤100000)(k:P (.nx (ρ.set i (some (1,.list (ds++ts)))))):Goes (zZ i .s f) ρ P:=⟨_,by
 have h':eV 0 .s f ρ=some (.tuple ts):=h
 unfold zZ
 rw[h',cH,hg,cH]
 show(if ds.length+ts.length≤sizeLine then some (Out.nx (ρ.set i (some (1,.list (ds++ts))))) else none)=_
 rw[if_pos (eL hl)],k⟩
section
variable {ts:List (aB×Nat)}{hd:List aO}{ls:List Ln}(A:AltG ts hd ls)
include A
theorem AltG.good : ∀ l∈ls,LineG l:=fun l m=>(A.lin l m).good A.tab
end
abbrev Al:=List aO×List Ln
noncomputable def bK (a:Al):aA:=.tuple [tK a.1,lsD a.2]
structure Alt1 (a:Al):Prop where
 alt:iB [bK a]=some (.bool true)
 lin : ∀ l∈a.2,oZ l
 few:a.2.length≤5
theorem IF (ds:List aA)(x1 x2:L2.Slot):bOr (eK (bOf (eUn (gF "list") (aC 0)))) (bOf (eOp gGt (aL cI (aF (aC 0) aJ)) (eC (.int 3)))) (vS [s0 (.list ds),x1,x2])=some (decide (3<ds.length)):=by
 refine(qL (x:=false) (y:=decide (3<ds.length)) (kQ (x:=true) rfl) (fun _=>gH (bA (a:=.int ds.length) (b:=.int 3) (aZ (ds:=[.list ds]) rfl (by simp[cI])) rfl ?_))).trans (by simp)
 show some (eO (decide ((ds.length:Int) > 3)))=_
 congr 2
 rw[decide_eq_decide]
 omega
theorem VP {ds:List aA}(h:3<ds.length):mC [.list ds]=some (.bool false):=by
 have t:=IF ds none none
 rw[decide_eq_true h] at t
 exact dR rfl (fH (eQ t (cF (d:=.bool false) rfl ⟨_,rfl,rfl⟩)))
theorem QZ {ds:List aA}(f:aA->Bool)(hf : ∀ d∈ds,iB [d]=some (.bool (f d)))(hl:ds.length≤3)(x1 x2:L2.Slot):eK (bOf (aL lO (aF (eLC [none] (iIt (aC 0)) (gB 0) cQ (aL iB (aF (aC 0) aJ))) aJ))) (vS [s0 (.list ds),x1,x2])=some (!ds.all f):=by
 have lc:=vD (cap:=[none]) (fi:=iIt (aC 0)) (T:=gB 0) (t:=cQ) (f:=aL iB (aF (aC 0) aJ)) (ρ:=vS [s0 (.list ds),x1,x2]) (ds:=ds) (fun d=>.bool (f d)) (kA rfl) (by omega) (fun d md=>⟨[some d],rfl,rfl,aZ (ds:=[d]) rfl (hf d md)⟩)
 exact kQ (aZ (bW lc rfl) (BU f ds))
theorem Nr {ds:List aA}(h : ∀ d∈ds,∃ b,iB [d]=some (.bool b)){d:aA}(m:d∈ds)(hd:iB [d]=some (.bool false)):mC [.list ds]=some (.bool false):=by
 by_cases hl:3<ds.length
 ·exact VP hl
 let f:aA->Bool:=fun d=>match iB [d] with
  | some (.bool b)=>b
  | _=>false
 have t1:=IF ds none none
 rw[decide_eq_false hl] at t1
 have t2:=QZ f (fun d m=>by
  obtain⟨b,e⟩:=h d m
  show _=some (eO (match iB [d] with | some (.bool b)=>b | _=>false))
  rw[e]) (by omega) none none
 have hf:f d=false:=by
  show(match iB [d] with | some (.bool b)=>b | _=>false)=false
  rw[hd]
 have:ds.all f=false:=by
  cases q:ds.all f with
  | false=>rfl
  | true=>
   have:=dZ.mp q d m
   rw[hf] at this
   cases this
 rw[this] at t2
 exact dR rfl (dG (fC t1) (fH (eQ t2 (cF (d:=.bool false) rfl ⟨_,rfl,rfl⟩))))
theorem UZ : ∀ is:List Nat,oM (is.map fun(n:Nat)=>cO n)=some (is.map fun(n:Nat)=>(.inl n:aO))
 | []=>rfl
 | i::is=>by
  show((fP (.int i)).bind fun k=>(oM (is.map fun(n:Nat)=>cO n)).bind fun ks=>some (k::ks))=_
  rw[UZ is]
  rfl
theorem Ks (ks:List aO):(dP ks).length≤1 ↔ ∀ x∈ks,∀ y∈ks,x=y:=by
 have hm : ∀ x,x∈dP ks↔x∈ks:=fun x=>by unfold dP; rw[VA]; simp
 have nd:(dP ks).Nodup:=SL (by simp)
 constructor
 ·intro h x mx y my
  have mx:=(hm x).mpr mx
  have my:=(hm y).mpr my
  match e:dP ks,h with
  | [],_=>rw[e] at mx; simp at mx
  | [z],_=>
   rw[e] at mx my
   rw[dX.mp mx,dX.mp my]
  | a::b::r,h=>simp at h
 ·intro h
  match e:dP ks with
  | []=>simp
  | [z]=>simp
  | a::b::r=>
   rw[e] at nd
   have:=h a ((hm a).mp (by rw[e]; simp)) b ((hm b).mp (by rw[e]; simp))
   rw[this] at nd
   simp at nd
theorem Yc (hs:List (List aO))(hl:hs.length≤100) : ∃ b:Bool,zR [.list (hs.map tK)]=some (.bool b)/\(b=true ↔ ∀ x∈hs,∀ y∈hs,x.length=y.length):=by
 let ks:List aO:=(hs.map xK).map fun(n:Nat)=>(.inl n:aO)
 refine⟨decide ((dP ks).length≤1),?_,?_⟩
 ·refine dR rfl ?_
  have lc:=jP (cap:=[none]) (fi:=iIt (aC 0)) (T:=gB 0) (t:=cQ) (f:=aL cI (aF (aC 0) aJ)) (ρ:=vS [s0 (.list (hs.map tK))]) (xs:=hs) (q:=tK) (fun _=>true) (fun h=>.int h.length) (kA rfl) (by omega) (fun h _=>⟨[some (tK h)],rfl,rfl,fun _=>aZ (ds:=[tK h]) rfl (by rw[qR,cX])⟩)
  rw[lL.mpr (by simp)] at lc
  have e:(hs.map fun h=>cO (h.length:Int))=(hs.map xK).map fun(n:Nat)=>cO n:=by rw[fS]; rfl
  rw[e] at lc
  refine cF (d:=.bool (decide ((dP ks).length≤1))) (bA (a:=.int (dP ks).length) (b:=.int 1) (aZ (bW lc rfl) ?_) rfl ?_) rfl
  ·show((oM ((hs.map xK).map fun(n:Nat)=>cO n)).bind fun ks=>if ks.length≤4000 then some (cO (dP ks).length) else none)=_
   rw[UZ,cH,if_pos (by simp; omega)]
  ·show some (eO (decide (((dP ks).length:Int)≤1)))=_
   congr 2
   rw[decide_eq_decide]
   omega
 ·rw[decide_eq_true_eq,Ks]
  constructor
  ·intro h x mx y my
   have:=h (.inl x.length) (bP.mpr ⟨_,bP.mpr ⟨x,mx,rfl⟩,rfl⟩) (.inl y.length) (bP.mpr ⟨_,bP.mpr ⟨y,my,rfl⟩,rfl⟩)
   have:=Sum.inl.inj this
   omega
  ·intro h x mx y my
   obtain⟨n,mn,rfl⟩:=bP.mp mx
   obtain⟨m,mm,rfl⟩:=bP.mp my
   obtain⟨p,mp,rfl⟩:=bP.mp mn
   obtain⟨q,mq,rfl⟩:=bP.mp mm
   rw[h p mp q mq]
noncomputable def kO (as:List Al):List Ln:=as.flatMap (·.2)
theorem Py {as:List Al}(h : ∀ a∈as,a.2.length≤5):(kO as).length≤5*as.length:=by
 induction as with
 | nil=>simp[kO]
 | cons a as ih=>
  have h1:=h a bQ
  have h2:=ih fun x m=>h x (cA _ m)
  unfold kO at h2 ⊢
  rw[List.flatMap_cons,fL,fI]
  omega
theorem RA {as:List Al}(h : ∀ a∈as,Alt1 a)(hl:as.length≤3) : ∃ b1 b2:Bool,mC [.list (as.map bK)]=some (.bool (b1&&b2))/\(b1=true ↔ ∀ x∈as,∀ y∈as,x.1.length=y.1.length)/\(b2=true↔xY (kO as)):=by
 have hll:=Py (as:=as) fun a m=>(h a m).few
 obtain⟨b1,e1,h1⟩:=Yc (as.map (·.1)) (by simp; omega)
 obtain⟨b2,e2,h2⟩:=IE (ls:=kO as) (D0:=.list ((kO as).map bG)) rfl (fun l m=>by
  obtain⟨a,ma,ml⟩:=BA.mp m
  exact(h a ma).lin l ml) (by omega)
 refine⟨b1,b2,?_,?_,h2⟩
 ·refine dR rfl ?_
  let Q:L2.Slot:=s0 (.list (as.map bK))
  have t1:=IF (as.map bK) none none
  rw[decide_eq_false (by rw[cX]; omega)] at t1
  have t2:=QZ (ds:=as.map bK) (fun _=>true) (fun d m=>by
   obtain⟨a,ma,rfl⟩:=bP.mp m
   exact(h a ma).alt) (by rw[cX]; exact hl) none none
  refine dG (fC t1) (dG (fC (t2.trans (by simp))) ?_)
  refine dG (ρ':=[Q,some (1,.list []),none]) rfl ?_
  refine jO (fun ρ'=>∃ x2:L2.Slot,ρ'=[Q,some (1,.list ((kO as).map bG)),x2]) ?_ ?_
  ·refine CJ (xs:=as) (q:=bK) (b0:=([]:List Ln)) (fun acc a=>acc++a.2) (fun i acc ρ'=>∃ x2:L2.Slot,acc.length≤5*i/\ρ'=[Q,some (1,.list (acc.map bG)),x2]) (avS (kA rfl)) ⟨none,by simp,rfl⟩ ?_ ?_
   ·rintro i a acc _ hx ⟨x2,ha,rfl⟩
    have hi:i<as.length:=(fN.mp hx).1
    have h5:=(h a (iH hx)).few
    refine⟨[Q,some (1,.list (acc.map bG)),s0 (bK a)],rfl,?_⟩
    exact ZE (ts:=a.2.map bG) (ds:=acc.map bG) (bA (a:=bK a) (b:=.int 1) rfl rfl rfl) rfl (by simp; omega) ⟨_,.inl rfl,_,by simp; omega,by rw[← mV]; rfl⟩
   ·rintro _ ⟨x2,_,rfl⟩
    have gen : ∀ (xs:List Al) (b:List Ln),xs.foldl (fun acc a=>acc++a.2) b=b++kO xs:=fun xs=>by
     induction xs with
     | nil=>intro b; simp[kO]
     | cons x xs ih=>intro b; rw[mX,ih]; simp[kO]
    rw[gen]
    exact⟨_,rfl,x2,by simp⟩
  rintro _ ⟨x2,rfl⟩
  refine vH ?_
  let R:bE:=[Q,s0 (.list ((kO as).map bG)),x2]
  show Goes _ R _
  have lc:=jP (cap:=[none]) (fi:=iIt (aC 0)) (T:=gB 0) (t:=cQ) (f:=eOp gIx (aC 0) (eC (.int 0))) (ρ:=vS R) (xs:=as) (q:=bK) (fun _=>true) (fun a=>tK a.1) (kA rfl) (by omega) (fun a _=>⟨[some (bK a)],rfl,rfl,fun _=>rfl⟩)
  rw[lL.mpr (by simp)] at lc
  have e:(as.map fun a=>tK a.1)=(as.map (·.1)).map tK:=by rw[fS]; rfl
  rw[e] at lc
  exact cF (d:=.bool (b1&&b2)) (oD (aZ (bW lc rfl) e1) fun _=>aZ (ds:=[.list ((kO as).map bG)]) rfl e2) rfl
 ·rw[h1]
  constructor
  ·exact fun q x mx y my=>q _ (bP.mpr ⟨x,mx,rfl⟩) _ (bP.mpr ⟨y,my,rfl⟩)
  ·intro q x mx y my
   obtain⟨a,ma,rfl⟩:=bP.mp mx
   obtain⟨b,mb,rfl⟩:=bP.mp my
   exact q a ma b mb
structure QG (ts:List (aB×Nat))(size:Nat)(as:List Al):Prop where
 alt : ∀ a∈as,AltG ts a.1 a.2
 len : ∀ a∈as,a.1.length=size
 few:as.length≤3
 sz:size≤4
theorem OM {ks:List aO}(h : ∀ k∈ks,hJ k):cG (ks.map kD)=true:=CN fun t m=>by
 obtain⟨k,mk,rfl⟩:=bP.mp m
 have:=ZI (h k mk)
 cases k with
 | inl i=>rfl
 | inr z=>simpa [bF,kD] using this
theorem Nq {l:Ln}(h:LineG l):bF (bG l)=true:=by
 have h1:=OM h.tms
 have h2:=h.name.lay
 simp[bG,bF,cG,h1]
 exact h2
theorem SW (a:Al):(bK a).depth≤10/\noDict (bK a)=true:=by
 have k1 : ∀ ks:List aO,dJ (ks.map kD)≤1/\noDicts (ks.map kD)=true:=fun ks=>⟨Ob ks,Qm ks⟩
 have l1:dJ (a.2.map bG)≤5:=DJ fun t m=>by
  obtain⟨l,_,rfl⟩:=bP.mp m
  have:=(k1 l.2).1
  simp[bG,gA,dJ]
  omega
 have l2:noDicts (a.2.map bG)=true:=yY fun t m=>by
  obtain⟨l,_,rfl⟩:=bP.mp m
  have:=(k1 l.2).2
  simp[bG,noDict,noDicts,this]
 have h1:=(k1 a.1).1
 have h2:=(k1 a.1).2
 constructor
 ·simp[bK,gA,dJ]
  omega
 ·simp[bK,noDict,noDicts,h2,l2]
end Aw
namespace L2
open PySem PySem.Spec PyProof.Rows PySem.NumText
noncomputable def tx (l:List Nat):aB:=⟨l.toArray⟩
theorem HK (l:List Nat):(tx l).cps.toList=l:=rfl
theorem dD (l:List Nat):(tx l).length=l.length:=by simp[tx,AN]
theorem uX {a b:List Nat}(h:tx a=tx b):a=b:=by
 have:=congrArg (fun x:aB=>x.cps.toList) h
 simpa [tx] using this
theorem qK (x:aB):x=tx x.cps.toList:=by cases x; simp[tx]
theorem sO (a b:List Nat):tx a++tx b=tx (a++b):=by
 show(⟨a.toArray++b.toArray⟩:aB)=⟨(a++b).toArray⟩
 simp
noncomputable def lP (n:Nat):List Nat:=(ME 10 n).map Char.toNat
noncomputable def kK (i:Int):List Nat:=if i<0 then 45::lP i.natAbs else lP i.natAbs
theorem QE : ∀ d:Nat,d<10->(Nat.digitChar d).toNat=48+d:=by decide
theorem CH {n:Nat}(h:n<10):lP n=[48+n]:=by
 unfold lP
 rw[Zs h]
 simp[QE n h]
theorem HQ {n:Nat}(h:10≤n):lP n=lP (n / 10)++[48+n%10]:=by
 unfold lP
 have hm:n%10<10:=tX n (by decide)
 have t:ME 10 (n / 10)++ME 10 (n%10)=ME 10 (10*(n / 10)+n%10):=Nat.toDigits_append_toDigits (by decide) (by omega) hm
 rw[Nat.div_add_mod] at t
 rw[← t,mV,Zs hm]
 simp[QE _ hm]
theorem CV : ∀ (n:Nat),AllDigits (lP n):=fun n=>by
 induction n using Nat.strongRecOn with
 | _ n ih=>
  by_cases h:n<10
  ·rw[CH h]; intro c m; rw[dX.mp m]; omega
  ·rw[HQ (by omega)]
   intro c m
   rcases iR.mp m with m | m
   ·exact ih (n / 10) (by omega) c m
   ·rw[dX.mp m]; omega
theorem ZS (n:Nat):lP n≠[]:=by
 by_cases h:n<10
 ·rw[CH h]; simp
 ·rw[HQ (by omega)]; simp
theorem QP : ∀ (k n:Nat),n<10 ^ (k+1)->(lP n).length≤k+1:=fun k=>by
 induction k with
 | zero=>intro n h; rw[CH (by simpa using h)]; simp
 | succ k ih=>
  intro n h
  by_cases h10:n<10
  ·rw[CH h10]; simp
  ·rw[HQ (by omega),fL]
   have:=ih (n / 10) (by rw[AW] at h; exact Nat.div_lt_of_lt_mul (by rw[Nat.mul_comm]; exact h))
   simp
   omega
theorem SG (n:Nat):digitsVal (lP n)=n:=PySem.W.KIN.val_back n
theorem Ls (i:Int):kF (toString i)=tx (kK i):=by
 rw[qK (kF (toString i))]
 congr 1
 unfold kK
 by_cases h:i<0
 ·rw[if_pos h]
  obtain⟨m,rfl⟩ : ∃ m,i=Int.negSucc m:=by
   cases i with
   | ofNat m=>exact absurd h (by simp)
   | negSucc m=>exact⟨m,rfl⟩
  rw[PyProof.Rows.signs_ofString]
  show("-" ++ Nat.repr (m+1)).toList.map Char.toNat=_
  rw[String.toList_append,mV,Nat.toList_repr]
  rfl
 ·rw[if_neg h]
  obtain⟨m,rfl⟩:=kH (show 0≤i by omega)
  exact PySem.W.KIN.signs_num m
noncomputable def jn:List (List Nat)->List Nat
 | []=>[]
 | [w]=>w
 | w::v::r=>w++32::jn (v::r)
theorem Tx:(" " : aB)=tx [32]:=by decide
theorem HW : ∀ ws:List (List Nat),cU " " (ws.map tx)=tx (jn ws)
 | []=>by simp[cU,jn]; rfl
 | [w]=>by simp[cU,jn]
 | w::v::r=>by
  have e:cU (" " : aB) (tx w::tx v::r.map tx)=tx w ++ " " ++ cU " " (tx v::r.map tx):=by
   rw[cU]
   intro z; cases z
  show cU " " (tx w::tx v::r.map tx)=_
  rw[e]
  have ih:=HW (v::r)
  rw[fE] at ih
  rw[ih,Tx,sO,sO]
  simp[jn]
theorem QO : ∀ {w v A B:List Nat},32∉w->32∉v->w++32::A=v++32::B->w=v/\A=B
 | [],[],A,B,_,_,h=>by simpa using h
 | [],y::v,A,B,_,hv,h=>by
  have:32=y:=by have:=Cd h; exact this.1
  exact absurd (by simp[this]) hv
 | x::w,[],A,B,hw,_,h=>by
  have:x=32:=by have:=Cd h; exact this.1
  exact absurd (by simp[this]) hw
 | x::w,y::v,A,B,hw,hv,h=>by
  obtain⟨e1,e2⟩:=Cd h
  obtain⟨e3,e4⟩:=QO (fun m=>hw (cA _ m)) (fun m=>hv (cA _ m)) e2
  exact⟨by rw[e1,e3],e4⟩
theorem YN : ∀ {ws vs:List (List Nat)},ws≠[]->vs≠[]->(∀ w∈ws,32∉w)->(∀ v∈vs,32∉v)->jn ws=jn vs->ws=vs
 | [],_,h,_,_,_,_=>absurd rfl h
 | _,[],_,h,_,_,_=>absurd rfl h
 | [w],[v],_,_,_,_,h=>by rw[show w=v from h]
 | [w],v::v2::r,_,_,hw,_,h=>by
  have h:w=v++32::jn (v2::r):=h
  exact absurd (by rw[h]; simp) (hw w bQ)
 | w::w2::r,[v],_,_,_,hv,h=>by
  have h:w++32::jn (w2::r)=v:=h
  exact absurd (by rw[← h]; simp) (hv v bQ)
 | w::w2::r,v::v2::s,_,_,hw,hv,h=>by
  have h:w++32::jn (w2::r)=v++32::jn (v2::s):=h
  obtain⟨e1,e2⟩:=QO (hw w bQ) (hv v bQ) h
  rw[e1,YN (by simp) (by simp) (fun x m=>hw x (cA _ m)) (fun x m=>hv x (cA _ m)) e2]
theorem Vu {ws:List (List Nat)}(hn:ws≠[])(hf : ∀ w∈ws,32∉w):lC (tx (jn ws)) " " = ws.map tx:=by
 have h1:=Aq (tx (jn ws)) " "
 have h2:=StrLaws.split_free (tx (jn ws)) 32
 have h3:=split_pos (tx (jn ws)) " "
 have e0:(⟨#[32]⟩:aB) = " ":=by decide
 rw[e0] at h2
 generalize lC (tx (jn ws)) " " = ps at h1 h2 h3 ⊢
 have ep:ps=(ps.map fun p=>p.cps.toList).map tx:=by
  rw[fS]
  conv=>lhs; rw[← List.map_id ps]
  exact BC fun p _=>qK p
 rw[ep,HW] at h1
 have:=YN (ws:=ps.map fun p=>p.cps.toList) (vs:=ws) (by intro z; rw[List.map_eq_nil_iff.mp z] at h3; simp at h3) hn (fun w m=>by
  obtain⟨p,mp,rfl⟩:=bP.mp m
  exact h2 p mp) hf (uX h1)
 rw[ep,this]
theorem YE : ∀ (ws:List (List Nat)) (n:Nat),(∀ w∈ws,w.length≤n)->(jn ws).length≤ws.length*(n+1)
 | [],n,_=>by simp[jn]
 | [w],n,h=>by
  have:=h w bQ
  simp[jn]
  omega
 | w::v::r,n,h=>by
  have h1:=h w bQ
  have h2:=YE (v::r) n fun x m=>h x (cA _ m)
  have e:(jn (w::v::r)).length=w.length+(1+(jn (v::r)).length):=by
   show(w++32::jn (v::r)).length=_
   rw[fL,fI]
   omega
  rw[e,fI,MF]
  omega
theorem WA {v:Int}{c:Nat}(h:c∈kK v):c=45 \/ (48≤c/\c≤57):=by
 unfold kK at h
 split at h
 ·rcases cN.mp h with h | h
  ·exact .inl h
  ·exact .inr (CV _ c h)
 ·exact .inr (CV _ c h)
theorem Lu (v:Int):kK v≠[]:=by
 unfold kK
 split
 ·simp
 ·exact ZS _
theorem SJ {v:Int}(h:v.natAbs<10 ^ 70):(kK v).length≤71:=by
 have:=QP 69 v.natAbs h
 unfold kK
 split
 ·simp; omega
 ·omega
noncomputable def jL (w:List Nat):List Nat:=if w.head?=some 45 then w.tail else w
noncomputable def oY (w:List Nat):Bool:=decide (1≤w.length/\w.length≤70)&&w.all fun c=>decide (48≤c/\c≤57)
noncomputable def jN (w:List Nat):aA:=if oY (jL w)=true then .int (if w.head?=some 45 then -((digitsVal (jL w):Nat):Int) else((digitsVal (jL w):Nat):Int)) else .none
theorem JI {w:List Nat}(h:oY w=true):AllDigits w/\w≠[]/\w.length≤70:=by
 unfold oY at h
 simp only[jI,decide_eq_true_eq,dZ] at h
 exact⟨fun c m=>h.2 c m,fun z=>by rw[z] at h; simp at h,h.1.2⟩
theorem VL {n:Nat}(h:n<10 ^ 70):oY (lP n)=true:=by
 unfold oY
 have h1:=QP 69 n h
 have h2:=List.length_pos_iff.mpr (ZS n)
 simp only[jI,decide_eq_true_eq,dZ]
 exact⟨⟨by omega,by omega⟩,fun c m=>CV n c m⟩
theorem WN (n:Nat):(lP n).head?≠some 45:=fun h=>by
 have:=CV n 45 (List.mem_of_mem_head? h)
 omega
theorem Pg {v:Int}(h:v.natAbs<10 ^ 70):jN (kK v) = .int v:=by
 unfold jN jL kK
 by_cases hv:v<0
 ·rw[if_pos hv]
  simp only[List.head?_cons,if_true,List.tail_cons]
  rw[if_pos (VL h),SG]
  congr 1
  omega
 ·rw[if_neg hv,if_neg (WN _),if_neg (WN _),if_pos (VL h),SG]
  congr 1
  omega
theorem Rm {w:List Nat}(h:oY (jL w)=true):FP (tx w)=some (if w.head?=some 45 then -((digitsVal (jL w):Nat):Int) else((digitsVal (jL w):Nat):Int)):=by
 obtain⟨h1,h2,h3⟩:=JI h
 unfold jL at h1 h2 h3 ⊢
 by_cases hw:w.head?=some 45
 ·rw[if_pos hw] at h1 h2 h3 ⊢
  rw[if_pos hw]
  cases w with
  | nil=>cases hw
  | cons c r=>
   cases hw
   exact intText_neg (x:=tx (45::r)) (cs:=r) rfl h1 h2 (by rw[dD]; simp at h3 ⊢; omega)
 ·rw[if_neg hw] at h1 h2 h3 ⊢
  rw[if_neg hw]
  exact intText_digits (x:=tx w) h1 h2 (by rw[dD]; omega)
theorem Jo (w:List Nat)(a b:Nat)(hb:b≤w.length):(((cR (b - a)).map (a + ·)).filterMap ((tx w).cps[·]?))=(w.take b).drop a:=by
 rw[pick_run,HK,List.drop_take]
theorem yI (w:List Nat)(lo hi:Option Int)(a b:Nat)(h:oX lo hi 1 w.length=sliceRange a b 1)(hb:b≤w.length):gO (tx w) lo hi=tx ((w.take b).drop a):=by
 unfold gO
 rw[dD,h,sliceRange_one]
 split
 ·rename_i hl
  have hl:b - a=w.length:=by simpa using hl
  congr 1
  by_cases h0:w.length=0
  ·rw[uC h0]; simp
  ·have:a=0/\b=w.length:=by omega
   rw[this.1,this.2]; simp
 ·rw[Jo w a b hb]
  rfl
theorem JK {w:List Nat}{a:Nat}(h:a≤w.length):gO (tx w) (some (a:Int)) none=tx (w.drop a):=by
 rw[yI w _ _ a w.length (by
  unfold oX
  simp only[show(1:Int) > 0 by decide,if_true]
  rw[if_neg (by omega),show max 0 (min (a:Int) (w.length:Int))=a by omega]) (bU _),AZ]
theorem Lk {w:List Nat}{a:Nat}(h:a≤w.length):gO (tx w) none (some (a:Int))=tx (w.take a):=by
 rw[yI w _ _ 0 a (by
  unfold oX
  simp only[show(1:Int) > 0 by decide,if_true]
  rw[if_neg (by omega),show max 0 (min (a:Int) (w.length:Int))=a by omega]
  rfl) h]
 simp
theorem Rw (w:List Nat):LZ (tx w) "-" = decide (w.head?=some 45):=by
 have e0:("-" : aB)=tx [45]:=by decide
 rw[e0]
 unfold LZ Builtin.Str.subAt
 rw[dD,dD]
 cases w with
 | nil=>simp
 | cons c r=>
  have e1:((tx (c::r)).cps.extract 0 (0+[45].length)) = #[c]:=by
   apply GI.mp
   simp[tx]
  rw[e1]
  simp[tx]
  by_cases h:c=45 <;> simp[h]
def plain (w:List Nat):Prop:=∀ c∈w,c<128
theorem Wt {w:List Nat}(h:plain w):cD (.str (tx w))=true:=by
 simp only[cD,tV,tx]
 simp only[Ce,dZ]
 intro c m
 have:=h c m
 exact decide_eq_true (by omega)
open PySem PySem.Spec PyProof.Rows
noncomputable def jnS (sep:List Nat):List (List Nat)->List Nat
 | []=>[]
 | [w]=>w
 | w::v::r=>w++(sep++jnS sep (v::r))
theorem QI (sep:List Nat) : ∀ ws:List (List Nat),cU (tx sep) (ws.map tx)=tx (jnS sep ws)
 | []=>by simp[cU,jnS]; rfl
 | [w]=>by simp[cU,jnS]
 | w::v::r=>by
  have e:cU (tx sep) (tx w::tx v::r.map tx)=tx w++tx sep++cU (tx sep) (tx v::r.map tx):=by
   rw[cU]
   intro z; cases z
  show cU (tx sep) (tx w::tx v::r.map tx)=_
  rw[e]
  have ih:=QI sep (v::r)
  rw[fE] at ih
  rw[ih,sO,sO]
  simp[jnS]
theorem qM (X:List Nat)(a b:Nat):rW (tx X) a b=tx ((X.drop a).take (b - a)):=by
 rw[qK (rW (tx X) a b),StrLaws.strSub_toList]
 rfl
theorem Avn {X sep:List Nat}{k:Nat}:AM (tx X) (tx sep) (tx X).length k↔k+sep.length≤X.length/\(X.drop k).take sep.length=sep:=by
 unfold AM Builtin.Str.subAt
 rw[dD,dD]
 have ex:((tx X).cps.extract k (k+sep.length)).toList=(X.drop k).take sep.length:=by
  simp[tx]
 constructor
 ·rintro⟨h1,h2⟩
  have h3:=congrArg Array.toList (eq_of_beq h2)
  rw[ex] at h3
  exact⟨h1,h3⟩
 ·rintro⟨h1,h2⟩
  refine⟨h1,?_⟩
  have:(tx X).cps.extract k (k+sep.length)=(tx sep).cps:=by
   apply GI.mp
   rw[ex,h2]
   rfl
  rw[this]
  simp
section
variable {sep p q:List Nat}{c:Nat}(hs:sep=p++c::q)(hp:c∉p)
include hs
theorem GT {X:List Nat}{k:Nat}(h:AM (tx X) (tx sep) (tx X).length k):X[k+p.length]?=some c:=by
 obtain⟨h1,h2⟩:=Avn.mp h
 have h3:=congrArg (fun l=>l[p.length]?) h2
 rw[Bv (by rw[hs]; simp),List.getElem?_drop] at h3
 rw[h3,hs]
 simp
include hp
theorem WY (X:List Nat) : ∀ (cuts:List Nat) (a f:Nat) (ws:List (List Nat)) (pre:List Nat),X=pre++jnS sep ws->a=pre.length->StrLaws.ChainG (tx X) (tx sep) (tx X).length a cuts f->(∀ k,f≤k -> ¬ AM (tx X) (tx sep) (tx X).length k)->ws≠[]->(∀ w∈ws,c∉w) ->
  StrLaws.partsFrom (tx X) (tx sep).length a cuts=ws.map tx
 | cuts,a,f,[],pre,_,_,_,_,hn,_=>absurd rfl hn
 | [],a,f,[w],pre,hX,ha,hG,hN,_,hf=>by
  show [rW (tx X) a (tx X).length]=[tx w]
  rw[qM,dD,hX,ha]
  simp[jnS]
 | d::r,a,f,[w],pre,hX,ha,hG,hN,_,hf=>by
  have h1:=GT hs hG.2.1
  have hd:=hG.1
  rw[hX,xN (by omega)] at h1
  exact absurd (iH h1) (hf w (by simp))
 | [],a,f,w::v::r,pre,hX,ha,hG,hN,_,hf=>by
  have e:f=a:=hG
  refine absurd (Avn.mpr ⟨?_,?_⟩) (hN (a+w.length) (by omega))
  ·rw[hX,ha]; simp[jnS]; omega
  ·rw[hX,ha]
   simp[jnS,Cb,Bo]
 | d::r',a,f,w::v::r,pre,hX,ha,hG,hN,_,hf=>by
  obtain⟨g1,g2,g3,g4⟩:=hG
  have hA:AM (tx X) (tx sep) (tx X).length (a+w.length):=by
   refine Avn.mpr ⟨?_,?_⟩
   ·rw[hX,ha]; simp[jnS]; omega
   ·rw[hX,ha]
    simp[jnS,Cb,Bo]
  have h1:d≤a+w.length:=by
   rcases pW (a+w.length) d with z | z
   ·exact absurd hA (g3 _ (by omega) z)
   ·exact z
  have h2:a+w.length≤d:=by
   rcases pW d (a+w.length) with z | z
   ·exfalso
    have h3:=GT hs g2
    rw[hX,xN (by omega)] at h3
    have h4:(w++p++(c::q++jnS sep (v::r)))[d+p.length - pre.length]?=some c:=by
     rw[← h3]
     congr 1
     show _=w++(sep++jnS sep (v::r))
     rw[hs]
     simp
    rw[rR (by simp; omega)] at h4
    rcases iR.mp (iH h4) with m | m
    ·exact hf w (by simp) m
    ·exact hp m
   ·exact z
  have ed:d=a+w.length:=by omega
  subst ed
  show rW (tx X) a (a+w.length)::StrLaws.partsFrom (tx X) (tx sep).length (a+w.length+(tx sep).length) r'=tx w::(v::r).map tx
  rw[WY X r' _ f (v::r) (pre++(w++sep)) (by rw[hX]; simp[jnS]) (by rw[dD,ha]; simp; omega) g4 hN (by simp) (fun x m=>hf x (cA _ m)),qM]
  congr 2
  rw[hX,ha]
  simp[jnS,Cb,Bo]
theorem Zn {ws:List (List Nat)}(hn:ws≠[])(hf : ∀ w∈ws,c∉w)(hpl:plain (jnS sep ws))(hps:plain sep):lC (tx (jnS sep ws)) (tx sep)=ws.map tx:=by
 have h1:1≤(tx sep).length:=by rw[dD,hs]; simp; omega
 obtain⟨f,hG,hN⟩:=StrLaws.occ_tight (tx (jnS sep ws)) (tx sep) h1
 have key:=fun cuts (hG:StrLaws.ChainG (tx (jnS sep ws)) (tx sep) (tx (jnS sep ws)).length 0 cuts f)=>WY hs hp (jnS sep ws) cuts 0 f ws [] rfl rfl hG hN hn hf
 have kd : ∀ {l:List Nat},plain l->MX (tx l)=1:=fun {l} hl=>by
  unfold MX
  rw[if_pos]
  show l.toArray.all _=true
  rw[Ce,dZ]
  intro x m
  have:=hl x m
  exact decide_eq_true (by omega)
 unfold lC
 split
 ·rename_i hc
  rw[kd hpl,kd hps] at hc
  simp at hc
  have hno:iS (tx (jnS sep ws)) (tx sep) 0 (tx (jnS sep ws)).length ((tx (jnS sep ws)).length+1)=[]:=by
   cases q:iS (tx (jnS sep ws)) (tx sep) 0 (tx (jnS sep ws)).length ((tx (jnS sep ws)).length+1) with
   | nil=>rfl
   | cons d r=>
    rw[q] at hG
    have:=(hG.2.1).1
    omega
  have:=key _ hG
  rw[hno] at this
  rw[← this]
  show [tx (jnS sep ws)]=[rW _ 0 _]
  rw[qM,dD]
  simp
 ·split
  ·rename_i he
   have e0:=List.isEmpty_iff.mp he
   have:=key _ hG
   rw[e0] at this
   rw[← this]
   show [tx (jnS sep ws)]=[rW _ 0 _]
   rw[qM,dD]
   simp
  ·rw[StrLaws.partsBetween_eq]
   exact key _ hG
end
theorem Jy {A B:List Nat}{c:Nat}(h:c∉A):nO (tx (A++c::B)) (tx [c])=(tx A,tx [c],tx B):=by
 unfold nO
 have hA:AM (tx (A++c::B)) (tx [c]) (tx (A++c::B)).length A.length:=Avn.mpr ⟨by simp,by simp⟩
 rcases StrLaws.occ_head_from (tx (A++c::B)) (tx [c]) 0 1 (by decide) with⟨_,hn⟩ | ⟨i,r,e,_,hi,hmin⟩
 ·exact absurd hA (hn _ (fA _))
 ·rw[e]
  have h1:i≤A.length:=by
   rcases pW A.length i with z | z
   ·exact absurd hA (hmin _ (fA _) z)
   ·exact z
  have h2:A.length≤i:=by
   rcases pW i A.length with z | z
   ·have:=GT (sep:=[c]) (p:=[]) (q:=[]) rfl hi
    rw[List.length_nil,MJ,rR z] at this
    exact absurd (iH this) h
   ·exact z
  have ei:i=A.length:=by omega
  subst ei
  show(rW _ 0 A.length,tx [c],rW _ (A.length+(tx [c]).length) _)=_
  rw[qM,qM,dD,dD]
  simp
  rw[FY (by omega)]
end L2
namespace Aw
open PySem L2
noncomputable abbrev FIG:aB:="0123456789"
theorem Jq : ∀ c<128,(false != !(iS FIG ⟨#[c]⟩ 0 FIG.length 1).isEmpty)=decide (48≤c/\c≤57):=by decide +kernel
theorem Hw {c:Nat}(h:c<128):gIn false (cM c) (.str FIG)=some (.bool (decide (48≤c/\c≤57))):=by
 show some (eO (false != !(iS FIG ⟨#[c]⟩ 0 FIG.length 1).isEmpty))=_
 rw[Jq c h]
theorem all_map {α:Type}(p:α->Bool)(l:List α):lO [.list (l.map fun x=>eO (p x))]=some (.bool (l.all p)):=by
 show((nB (l.map fun x=>eO (p x))).bind fun bs=>some (eO (bs.all id)))=_
 rw[IQ,cH]
 simp[GD]
theorem YX {f:EF}{ρ:List (Option aA)}{w:List Nat}(h:f ρ=some (.str (tx w)))(hl:w.length≤100000):iIt f ρ=some (w.map cM):=by
 unfold iIt
 rw[h]
 show itemsOf (.str (tx w))=_
 simp[itemsOf,dD,HK,cM,eL hl]
theorem len_str {w:List Nat}(hl:w.length≤100000):cI [.str (tx w)]=some (.int w.length):=by
 show(if (tx w).length≤sizeLine then some (cO ((tx w).length:Nat)) else none)=_
 rw[dD,if_pos (eL hl)]
theorem QW {f:EF}{ρ:List (Option aA)}{n a b:Int}(h:f ρ=some (.int n)):iX gLe gLe (eC (.int a)) f (eC (.int b)) ρ=some (.bool (decide (a≤n/\n≤b))):=by
 unfold iX
 rw[h]
 show(if decide (a≤n)=true then some (eO (decide (n≤b))) else some (eO false))=_
 by_cases h1:a≤n <;> by_cases h2:n≤b <;> simp[h1,h2]
theorem SS {w:List Nat}(hp:plain w)(hl:w.length≤90000):vY [.str (tx w)]=some (jN w):=by
 have : ∃ d,vY [.str (tx w)]=some d/\d=jN w:=by
  refine mJ rfl ?_
  have hf:(jL w).length≤90000/\plain (jL w):=by
   unfold jL
   split
   ·exact⟨by rw[List.length_tail]; omega,fun c m=>hp c (List.mem_of_mem_tail m)⟩
   ·exact⟨hl,hp⟩
  refine eE (d:=.str (tx (jL w))) ?_ (by simp) ?_
  ·show(bOf (eOp CG (aC 0) (eC (.str "-"))) _).bind _=_
   rw[gH (b:=decide (w.head?=some 45)) (bA (a:=.str (tx w)) (b:=.str "-") rfl rfl (by rw[← Rw]; rfl)),cH]
   unfold jL
   by_cases h:w.head?=some 45
   ·rw[if_pos (decide_eq_true h),if_pos h]
    show(if (tx w).length≤sizeLine then some (bN (gO (tx w) (some 1) none)) else none)=_
    rw[if_pos (by rw[dD]; exact eL (by omega))]
    have:1≤w.length:=by
     cases w with
     | nil=>cases h
     | cons c r=>simp
    have e:=JK (w:=w) (a:=1) this
    rw[show((1:Nat):Int)=1 from rfl] at e
    rw[e,List.drop_one]
   ·rw[if_neg (by simp[h]),if_neg h]
    rfl
  generalize hF:jL w=F at hf ⊢
  let R:bE:=[s0 (.str (tx w)),s0 (.str (tx F))]
  have e1:bOf (iX gLe gLe (eC (.int 1)) (aL cI (aF (aC 1) aJ)) (eC (.int 70))) (vS R)=some (decide (1≤F.length/\F.length≤70)):=by
   rw[gH (QW (n:=F.length) (aZ (ds:=[.str (tx F)]) rfl (len_str (by omega))))]
   congr 1
   simp only[decide_eq_decide]
   omega
  have e2:bOf (aL lO (aF (eLC [none] (iIt (aC 1)) (gB 0) cQ (eOp (gIn false) (aC 0) (eC (.str "0123456789")))) aJ)) (vS R)=some (F.all fun c=>decide (48≤c/\c≤57)):=by
   refine gH (aZ (ds:=[.list (F.map fun c=>.bool (decide (48≤c/\c≤57)))]) (bW ?_ rfl) (all_map _ _))
   have:=jP (cap:=[none]) (fi:=iIt (aC 1)) (T:=gB 0) (t:=cQ) (f:=eOp (gIn false) (aC 0) (eC (.str "0123456789"))) (ρ:=vS R) (xs:=F) (q:=cM) (fun _=>true) (fun c=>.bool (decide (48≤c/\c≤57))) (YX rfl (by omega)) (by omega) (fun c m=>⟨[some (cM c)],rfl,rfl,fun _=>bA (a:=cM c) (b:=.str FIG) rfl rfl (Hw (hf.2 c m))⟩)
   rw[lL.mpr (fun _ _=>rfl)] at this
   exact this
  have e3:bV .s (bOr (eK (bOf (iX gLe gLe (eC (.int 1)) (aL cI (aF (aC 1) aJ)) (eC (.int 70))))) (eK (bOf (aL lO (aF (eLC [none] (iIt (aC 1)) (gB 0) cQ (eOp (gIn false) (aC 0) (eC (.str "0123456789")))) aJ))))) R=some (!oY F):=by
   show bOr _ _ (vS R)=_
   simp only[bOr,eK,e1,e2,cH,oY]
   by_cases h:1≤F.length/\F.length≤70 <;> simp[h]
  by_cases hk:oY F=true
  ·refine dG (ρ':=R) (fC (e3.trans (by rw[hk]; rfl))) ?_
   refine cF (aZ (ds:=[.str (tx w)]) rfl ?_) ⟨_,rfl,rfl⟩
   have:=Rm (w:=w) (by rw[hF]; exact hk)
   show(if (tx w).length≤640 then(FP (tx w)).map cO else none)=_
   have h70:=(JI hk).2.2
   have h71:w.length≤71:=by
    rw[← hF] at h70
    unfold jL at h70
    split at h70
    ·rw[List.length_tail] at h70; omega
    ·omega
   rw[if_pos (by rw[dD]; omega),this]
   unfold jN
   rw[hF,if_pos hk]
   rfl
  ·refine fH (eQ (e3.trans (by rw[Bool.eq_false_iff.mpr hk]; rfl)) (cF (d:=.none) rfl ⟨_,rfl,_,rfl,?_⟩))
   unfold jN
   rw[hF,if_neg hk]
 obtain⟨d,e,rfl⟩:=this
 exact e
noncomputable def wdD:aA->List Nat
 | .str x=>x.cps.toList
 | .int i=>kK i
 | _=>[]
def shB:aA->Prop
 | .str x=>x.length≤600
 | .int i=>i.natAbs<10 ^ 70
 | _=>False
theorem Gi {n:Nat}(h:n<10 ^ 70):n.log2<1920:=by
 by_cases h0:n=0
 ·subst h0; decide
 ·rw[Nat.log2_lt h0]
  exact MI h (by decide +kernel)
theorem Ng (v:Int):L2.plain (kK v):=fun c m=>by rcases WA m with h | h <;> omega
theorem ZO {d:aA}(h:shB d):AA [d]=some (.str (tx (wdD d)))/\(wdD d).length≤600:=by
 cases d with
 | str x=>exact⟨by rw[show wdD (.str x)=x.cps.toList from rfl,← qK]; rfl,by
   have h:x.length≤600:=h
   show x.cps.toList.length≤600
   simpa [AN] using h⟩
 | int v=>
  have h:v.natAbs<10 ^ 70:=h
  refine⟨?_,by have:=SJ h; show(kK v).length≤600; omega⟩
  show(if v.natAbs.log2<1920/\cD (.str (kF (toString v)))=true then some (bN (kF (toString v))) else none)=_
  rw[Ls,if_pos ⟨Gi h,Wt (Ng v)⟩]
  rfl
 | _=>exact h.elim
theorem IP : ∀ ws:List (List Nat),mI (ws.map fun w=>.str (tx w))=some (ws.map tx)
 | []=>rfl
 | w::r=>by
  show((mI (r.map fun w=>.str (tx w))).bind fun xs=>some (tx w::xs))=_
  rw[IP r]
  rfl
theorem LM {n:Nat} : ∀ {ws:List (List Nat)},(∀ w∈ws,w.length≤n)->((ws.map tx).map (·.length)).sum≤ws.length*n
 | [],_=>by simp
 | w::r,h=>by
  have h1:=h w bQ
  have h2:=LM (n:=n) (ws:=r) fun x m=>h x (cA _ m)
  simp only[fE,List.sum_cons,fI,MF,dD]
  omega
theorem CF {ws:List (List Nat)}(hl : ∀ w∈ws,w.length≤1000)(hn:ws.length≤1000):nC (.str " ") (.list (ws.map fun w=>.str (tx w)))=some (.str (tx (jn ws))):=by
 show((mI (ws.map fun w=>.str (tx w))).bind fun ys=>if (ys.map (·.length)).sum+ys.length*(kF " ").length≤16777216 then some (bN (cU (kF " ") ys)) else none)=_
 rw[IP,cH]
 have h1:=LM hl
 have h2:ws.length*1000≤1000*1000:=AX _ hn
 have h3:(kF " ").length=1:=by decide
 rw[if_pos (by rw[h3,cX]; omega)]
 exact congrArg (fun x=>some (bN x)) (HW ws)
theorem QL {ds:List aA}(h : ∀ d∈ds,shB d)(hl:ds.length≤1000):tH [.tuple ds]=some (.str (tx (jn (ds.map wdD)))):=by
 refine dR rfl ?_
 have lc:=vD (cap:=[none]) (fi:=iIt (aC 0)) (T:=gB 0) (t:=cQ) (f:=aL AA (aF (aC 0) aJ)) (ρ:=vS [s0 (.tuple ds)]) (ds:=ds) (fun d=>.str (tx (wdD d))) (sU rfl) (by omega) (fun d m=>⟨[some d],rfl,rfl,aZ (ds:=[d]) rfl (ZO (h d m)).1⟩)
 have e:(ds.map fun d=>bN (tx (wdD d)))=(ds.map wdD).map fun w=>.str (tx w):=by rw[fS]; rfl
 rw[e] at lc
 refine cF (bA (a:=.str " ") rfl lc (CF (fun w m=>?_) (by rw[cX]; omega))) rfl
 obtain⟨d,md,rfl⟩:=bP.mp m
 have:=(ZO (h d md)).2
 omega
noncomputable def wdK:aO->List Nat
 | .inl i=>kK i
 | .inr z=>z.cps.toList
noncomputable def okC (c:Nat):Bool:=fK c||decide (c=45)
theorem sR {c:Nat}(h:okC c=true):c<128/\c≠32/\c≠58/\c≠44/\c≠124:=by
 unfold okC fK letter figure at h
 simp only[Bool.or_eq_true,jI,decide_eq_true_eq] at h
 omega
theorem LB:(10:Nat) ^ 60≤10 ^ 70:=Nat.pow_le_pow_right (by decide) (by decide)
theorem Jf {c:Nat}(h:48≤c/\c≤57):okC c=true:=by
 have:figure c=true:=by simp[figure,h.1,h.2]
 simp[okC,fK,this]
theorem vC {k:aO}(h:hJ k):(∀ c∈wdK k,okC c=true)/\wdK k≠[]/\(wdK k).length≤71:=by
 cases k with
 | inl i=>
  have h:i.natAbs<10 ^ 60:=h
  refine⟨fun c m=>?_,Lu i,SJ (iQ h LB)⟩
  rcases WA m with q | q
  ·simp[okC,q]
  ·exact Jf q
 | inr z=>
  obtain⟨c,r,e,h1,h2,h3⟩:=h
  refine⟨fun x m=>?_,fun q=>?_,?_⟩
  ·simp[okC,h2 x m]
  ·have q:z.cps.toList=[]:=q
   rw[e] at q; cases q
  ·show z.cps.toList.length≤71
   have:z.cps.toList.length≤12:=h3
   omega
theorem RT {z:aB}(h:nameS z):(∀ c∈z.cps.toList,okC c=true)/\z.cps.toList≠[]/\z.cps.toList.length≤71:=vC (k:=.inr z) h
theorem Yr {w:List Nat}(h : ∀ c∈w,okC c=true):L2.plain w:=fun c m=>(sR (h c m)).1
theorem Qx {z:aB}(h:nameS z):jN z.cps.toList = .none:=by
 obtain⟨c,r,e,h1,h2,h3⟩:=h
 have hc:97≤c/\c≤122:=by
  unfold letter at h1
  simpa using h1
 unfold jN jL
 rw[e]
 rw[if_neg (show ¬ (c::r).head?=some 45 by simp; omega)]
 rw[if_neg]
 intro q
 have:=(JI q).1 c bQ
 omega
theorem Uv {k:aO}(h:hJ k):qW [.str (tx (wdK k))]=some (kD k):=by
 have hw:=vC h
 have e:=SS (Yr hw.1) (by have:=hw.2.2; omega)
 refine dR rfl ?_
 refine eE (d:=jN (wdK k)) (aZ (ds:=[.str (tx (wdK k))]) rfl e) (by simp) ?_
 cases k with
 | inl i=>
  have h:i.natAbs<10 ^ 60:=h
  have ev:jN (wdK (.inl i)) = .int i:=Pg (iQ h LB)
  rw[ev]
  exact cF (d:=.int i) rfl rfl
 | inr z=>
  have ev:jN (wdK (.inr z)) = .none:=Qx h
  rw[ev]
  exact cF (d:=.str (tx z.cps.toList)) rfl (by rw[← qK]; rfl)
noncomputable abbrev wdL (ws:List (List Nat)):aA:=.list (ws.map fun w=>.str (tx w))
theorem UQ {ks:List aO}(h : ∀ k∈ks,hJ k)(hl:ks.length≤1000):qZ [wdL (ks.map wdK)]=some (tK ks):=by
 refine dR rfl ?_
 have e0:((ks.map wdK).map fun w=>bN (tx w))=ks.map fun k=>.str (tx (wdK k)):=by rw[fS]; rfl
 have lc:=jP (cap:=[none]) (fi:=iIt (aC 0)) (T:=gB 0) (t:=cQ) (f:=aL qW (aF (aC 0) aJ)) (ρ:=vS [s0 (wdL (ks.map wdK))]) (xs:=ks) (q:=fun k=>.str (tx (wdK k))) (fun _=>true) kD ((kA rfl).trans (by rw[e0])) (by omega) (fun k m=>⟨[some (.str (tx (wdK k)))],rfl,rfl,fun _=>aZ (ds:=[.str (tx (wdK k))]) rfl (Uv (h k m))⟩)
 rw[lL.mpr fun _ _=>rfl] at lc
 exact cF (aZ (bW lc rfl) rfl) rfl
noncomputable def lnT (l:Ln):List Nat:=jn (l.1.cps.toList::l.2.map wdK)
theorem lnW {l:Ln}(h:LineG l) : ∀ w∈l.1.cps.toList::l.2.map wdK,(∀ c∈w,okC c=true)/\w≠[]/\w.length≤71:=fun w m=>by
 rcases cN.mp m with rfl | m
 ·exact RT h.name
 ·obtain⟨k,mk,rfl⟩:=bP.mp m
  exact vC (h.tms k mk)
theorem RU : ∀ {ws:List (List Nat)} {c:Nat},c∈jn ws->c=32 \/ ∃ w∈ws,c∈w
 | [],c,h=>by simp[jn] at h
 | [w],c,h=>.inr ⟨w,by simp,h⟩
 | w::v::r,c,h=>by
  have h:c∈w++32::jn (v::r):=h
  rcases iR.mp h with h | h
  ·exact .inr ⟨w,by simp,h⟩
  rcases cN.mp h with h | h
  ·exact .inl h
  ·rcases RU h with q | ⟨x,m,q⟩
   ·exact .inl q
   ·exact .inr ⟨x,cA _ m,q⟩
theorem yD {l:Ln}(h:LineG l):(∀ c∈lnT l,c=32 \/ okC c=true)/\(lnT l).length≤504:=by
 refine⟨fun c m=>?_,?_⟩
 ·rcases RU m with q | ⟨w,mw,q⟩
  ·exact .inl q
  ·exact .inr ((lnW h w mw).1 c q)
 ·have:=YE (l.1.cps.toList::l.2.map wdK) 71 fun w m=>(lnW h w m).2.2
  have h6:=h.six
  have h2:(l.1.cps.toList::l.2.map wdK).length*72≤7*72:=AX _ (by simp; omega)
  exact jB this h2
theorem PF {ws:List (List Nat)}(hn:ws≠[])(hf : ∀ w∈ws,32∉w)(hl:(jn ws).length≤100000 - 2):jM (.str (tx (jn ws))) (.str " ")=some (wdL ws):=by
 show(if ((kF " ").length == 0)=false/\(tx (jn ws)).length+2≤sizeLine then some (rM ((lC (tx (jn ws)) " ").map bN)) else none)=_
 rw[if_pos ⟨by decide,by rw[dD]; exact eL (by omega)⟩,Vu hn hf,fS]
 rfl
theorem Vm {l:Ln}(h:LineG l):nH [.str (tx (lnT l))]=some (bG l):=by
 refine dR rfl ?_
 have h6:=h.six
 have hw:=lnW h
 refine eE (d:=wdL (l.1.cps.toList::l.2.map wdK)) (bA (a:=.str (tx (lnT l))) (b:=.str " ") rfl rfl (PF (by simp) (fun w m q=>(sR ((hw w m).1 32 q)).2.1 rfl) (by have:=(yD h).2; unfold lnT at this; omega))) (by simp) ?_
 have c2:kL (aC 1) (oS (eC (.int 1))) oN (vS [s0 (.str (tx (lnT l))),s0 (wdL (l.1.cps.toList::l.2.map wdK))])=some (wdL (l.2.map wdK)):=by
  rw[yA (ds:=(l.1.cps.toList::l.2.map wdK).map fun w=>.str (tx w)) (l:=some ((1:Nat):Int)) (u:=none) rfl rfl rfl,OV]
  rfl
 refine cF (pF (bW (bA (a:=wdL (l.1.cps.toList::l.2.map wdK)) (b:=.int ((0:Nat):Int)) rfl rfl (PU (j:=0) rfl)) (bW (aZ (ds:=[wdL (l.2.map wdK)]) (bW c2 rfl) (UQ h.tms (by omega))) rfl)) (by simp)) ?_
 rw[← qK]
 rfl
noncomputable abbrev SC:List Nat:=[44,32]
noncomputable abbrev SB:List Nat:=[32,124,32]
noncomputable def bl (ws:List (List Nat)):List Nat:=ws.flatMap fun w=>w++[32]
theorem OJ (ws:List (List Nat))(u:List Nat):jn (ws++[u])=bl ws++u:=by
 induction ws with
 | nil=>simp[bl,jn]
 | cons w r ih=>
  cases r with
  | nil=>simp[bl,jn]
  | cons v r=>
   show w++32::jn (v::r++[u])=_
   rw[ih]
   simp[bl]
noncomputable def hdT (hd:List aO):List Nat:=bl (hd.map wdK)
noncomputable def eJ (a:Al):List Nat:=hdT a.1++58::(if a.2=[] then [] else 32::jnS SC (a.2.map lnT))
noncomputable def qT (as:List Al):List Nat:=if as=[] then [110,111,110,101] else jnS SB (as.map eJ)
structure AltW (a:Al):Prop where
 tms : ∀ k∈a.1,hJ k
 four:a.1.length≤4
 lns : ∀ l∈a.2,LineG l
 five:a.2.length≤5
theorem Ug {ws:List (List Nat)}{c:Nat}(h:c∈bl ws):c=32 \/ ∃ w∈ws,c∈w:=by
 obtain⟨w,mw,m⟩:=BA.mp h
 rcases iR.mp m with m | m
 ·exact .inr ⟨w,mw,m⟩
 ·exact .inl (dX.mp m)
theorem UG {hd:List aO}(h : ∀ k∈hd,hJ k){c:Nat}(m:c∈hdT hd):c=32 \/ okC c=true:=by
 rcases Ug m with q | ⟨w,mw,q⟩
 ·exact .inl q
 ·obtain⟨k,mk,rfl⟩:=bP.mp mw
  exact .inr ((vC (h k mk)).1 c q)
theorem YF {n:Nat} : ∀ {ws:List (List Nat)},(∀ w∈ws,w.length≤n)->(bl ws).length≤ws.length*(n+1)
 | [],_=>by simp[bl]
 | w::r,h=>by
  have h1:=h w bQ
  have h2:=YF (n:=n) (ws:=r) fun x m=>h x (cA _ m)
  have e:(bl (w::r)).length=w.length+1+(bl r).length:=by simp[bl]; omega
  rw[e,fI,MF]
  omega
theorem HR {hd:List aO}(h : ∀ k∈hd,hJ k)(h4:hd.length≤4):(hdT hd).length≤288:=by
 have:=YF (n:=71) (ws:=hd.map wdK) fun w m=>by
  obtain⟨k,mk,rfl⟩:=bP.mp m
  exact(vC (h k mk)).2.2
 rw[cX] at this
 have:hd.length*72≤4*72:=AX _ h4
 unfold hdT
 omega
theorem DC {sep:List Nat} : ∀ {ws:List (List Nat)} {c:Nat},c∈jnS sep ws->c∈sep \/ ∃ w∈ws,c∈w
 | [],c,h=>by simp[jnS] at h
 | [w],c,h=>.inr ⟨w,by simp,h⟩
 | w::v::r,c,h=>by
  have h:c∈w++(sep++jnS sep (v::r)):=h
  rcases iR.mp h with h | h
  ·exact .inr ⟨w,by simp,h⟩
  rcases iR.mp h with h | h
  ·exact .inl h
  ·rcases DC h with q | ⟨x,m,q⟩
   ·exact .inl q
   ·exact .inr ⟨x,cA _ m,q⟩
theorem HY {sep:List Nat}{n:Nat} : ∀ {ws:List (List Nat)},(∀ w∈ws,w.length≤n)->(jnS sep ws).length≤ws.length*(n+sep.length)
 | [],_=>by simp[jnS]
 | [w],h=>by
  have:=h w bQ
  simp[jnS]
  omega
 | w::v::r,h=>by
  have h1:=h w bQ
  have h2:=HY (sep:=sep) (n:=n) (ws:=v::r) fun x m=>h x (cA _ m)
  have e:(jnS sep (w::v::r)).length=w.length+(sep.length+(jnS sep (v::r)).length):=by
   show(w++(sep++jnS sep (v::r))).length=_
   rw[fL,fL]
  rw[e,fI,MF]
  omega
theorem VH {ls:List Ln}(h : ∀ l∈ls,LineG l){c:Nat}(m:c∈jnS SC (ls.map lnT)):c=44 \/ c=32 \/ okC c=true:=by
 rcases DC m with q | ⟨w,mw,q⟩
 ·simp at q; omega
 ·obtain⟨l,ml,rfl⟩:=bP.mp mw
  exact .inr ((yD (h l ml)).1 c q)
theorem IY {ls:List Ln}(h : ∀ l∈ls,LineG l)(h5:ls.length≤5):(jnS SC (ls.map lnT)).length≤2530:=by
 have:=HY (sep:=SC) (n:=504) (ws:=ls.map lnT) fun w m=>by
  obtain⟨l,ml,rfl⟩:=bP.mp m
  exact(yD (h l ml)).2
 rw[cX] at this
 have h2:ls.length*(504+SC.length)≤5*506:=AX _ h5
 omega
theorem KG {a:Al}(h:AltW a){c:Nat}(m:c∈eJ a):c=58 \/ c=44 \/ c=32 \/ okC c=true:=by
 rcases iR.mp m with m | m
 ·exact .inr (.inr (UG h.tms m))
 rcases cN.mp m with m | m
 ·exact .inl m
 ·split at m
  ·simp at m
  ·rcases cN.mp m with m | m
   ·exact .inr (.inr (.inl m))
   ·exact .inr (VH h.lns m)
theorem IH {a:Al}(h:AltW a):(eJ a).length≤2820:=by
 have h1:=HR h.tms h.four
 have h2:=IY h.lns h.five
 unfold eJ
 split
 ·simp; omega
 ·simp; omega
theorem LJ {c:Nat}(h:c=58 \/ c=44 \/ c=32 \/ okC c=true):c<128:=by
 rcases h with h | h | h | h
 ·omega
 ·omega
 ·omega
 ·exact(sR h).1
theorem XW {as:List Al}(h : ∀ a∈as,AltW a)(h3:as.length≤3):(qT as).length≤8469:=by
 unfold qT
 split
 ·simp
 ·have:=HY (sep:=SB) (n:=2820) (ws:=as.map eJ) fun w m=>by
   obtain⟨a,ma,rfl⟩:=bP.mp m
   exact IH (h a ma)
  rw[cX] at this
  have h2:as.length*(2820+SB.length)≤3*2823:=AX _ h3
  omega
theorem UE {sep p q:List Nat}{c:Nat}(hs:sep=p++c::q)(hp:c∉p){ws:List (List Nat)}(hn:ws≠[])(hf : ∀ w∈ws,c∉w)(hpl:L2.plain (jnS sep ws))(hps:L2.plain sep)(hl:(jnS sep ws).length≤90000):jM (.str (tx (jnS sep ws))) (.str (tx sep))=some (wdL ws):=by
 show(if ((tx sep).length == 0)=false/\(tx (jnS sep ws)).length+2≤sizeLine then some (rM ((lC (tx (jnS sep ws)) (tx sep)).map bN)) else none)=_
 rw[if_pos ⟨by rw[dD,hs]; simp,by rw[dD]; exact eL (by omega)⟩,Zn hs hp hn hf hpl hps,fS]
 rfl
theorem TN (ds:List aA)(d:aA):cutD (ds++[d]) none (some (-1))=ds:=by
 unfold cutD
 have e:HT.sIx (ds++[d]).length (ds++[d]).length (some (-1))=ds.length:=by
  show(if (-1:Int)<0 then((-1:Int)+((ds++[d]).length:Int)).toNat else min (-1:Int).toNat (ds++[d]).length)=_
  rw[if_pos (by decide)]
  simp
  omega
 rw[e,HT.Alr]
 simp
theorem Mq {a:Al}(h:AltW a):oJ [.str (tx (eJ a))]=some (bK a):=by
 refine dR rfl ?_
 have hl:=IH h
 have h4:=h.four
 let B:List Nat:=if a.2=[] then [] else 32::jnS SC (a.2.map lnT)
 have hA:58∉hdT a.1:=fun m=>by
  rcases UG h.tms m with q | q
  ·omega
  ·exact(sR q).2.2.1 rfl
 have ep:AC (.str (tx (eJ a))) (.str ":")=some (.tuple [.str (tx (hdT a.1)),.str (tx [58]),.str (tx B)]):=by
  show(if ((kF ":").length == 0)=false/\(tx (eJ a)).length≤sizeLine then some (fR ((part3 (tx (eJ a)) (tx [58])).map .str)) else none)=_
  rw[if_pos ⟨by decide,by rw[dD]; exact eL (by omega)⟩]
  unfold part3
  rw[show eJ a=hdT a.1++58::B from rfl,Jy hA]
  rfl
 let PD:aA:=.tuple [.str (tx (hdT a.1)),.str (tx [58]),.str (tx B)]
 refine eE (d:=PD) (bA (a:=.str (tx (eJ a))) (b:=.str ":") rfl rfl ep) (by simp) ?_
 let R1:bE:=[s0 (.str (tx (eJ a))),s0 PD,none]
 have hb:hdT a.1=jn (a.1.map wdK++[[]]):=by rw[OJ]; simp[hdT]
 have hlh:=HR h.tms h4
 have es:eOp jM (eOp gIx (aC 1) (eC (.int 0))) (eC (.str " ")) (vS R1)=some (wdL (a.1.map wdK++[[]])):=by
  refine bA (a:=.str (tx (hdT a.1))) (b:=.str " ") (bA (a:=PD) (b:=.int 0) rfl rfl rfl) rfl ?_
  rw[hb]
  refine PF (by simp) (fun w m q=>?_) (by rw[← hb]; omega)
  rcases iR.mp m with m | m
  ·obtain⟨k,mk,rfl⟩:=bP.mp m
   exact(sR ((vC (h.tms k mk)).1 32 q)).2.1 rfl
  ·rw[dX.mp m] at q; simp at q
 have ec:kL (eOp jM (eOp gIx (aC 1) (eC (.int 0))) (eC (.str " "))) oN (oS (eUn xT (eC (.int 1)))) (vS R1)=some (wdL (a.1.map wdK)):=by
  rw[yA (ds:=(a.1.map wdK++[[]]).map fun w=>.str (tx w)) (l:=none) (u:=some (-1)) es rfl rfl,mV]
  show some (rM (cutD (_++[.str (tx [])]) none (some (-1))))=_
  rw[TN]
 refine eE (d:=tK a.1) (aZ (ds:=[wdL (a.1.map wdK)]) (bW ec rfl) (UQ h.tms (by omega))) (by simp) ?_
 let R2:bE:=[s0 (.str (tx (eJ a))),s0 PD,s0 (tK a.1)]
 have ix2 : ∀ ρ:List (Option aA),aC 1 ρ=some PD->eOp gIx (aC 1) (eC (.int 2)) ρ=some (.str (tx B)):=fun ρ q=>bA (a:=PD) (b:=.int 2) q rfl rfl
 have e0:("" : aB)=tx []:=by decide
 have tb:bV .s (bOf (eOp gEq (eOp gIx (aC 1) (eC (.int 2))) (eC (.str "")))) R2=some (decide (B=[])):=by
  refine(gH (bA (a:=.str (tx B)) (b:=.str "") (ix2 _ rfl) rfl (qQ _ _))).trans ?_
  congr 1
  rw[decide_eq_decide,e0]
  exact⟨uX,fun q=>by rw[q]⟩
 by_cases hn:a.2=[]
 ·have hB:B=[]:=if_pos hn
  refine fH (eQ (tb.trans (by rw[decide_eq_true hB])) (cF (d:=.tuple [tK a.1,.tuple []]) (pF (bW rfl (bW rfl rfl)) (by simp)) ⟨_,rfl,?_⟩))
  unfold bK
  rw[hn]
  rfl
 ·have hB:B=32::jnS SC (a.2.map lnT):=if_neg hn
  refine dG (ρ':=R2) (fC (tb.trans (by rw[hB]; rfl))) ?_
  have hlL:=IY h.lns h.five
  have h5:=h.five
  have esl:eSl (eOp gIx (aC 1) (eC (.int 2))) (oS (eC (.int 1))) oN (vS R2)=some (.str (tx (jnS SC (a.2.map lnT)))):=by
   unfold eSl
   rw[ix2 _ rfl,cH]
   show(if (tx B).length≤sizeLine then some (bN (gO (tx B) (some ((1:Nat):Int)) none)) else none)=_
   rw[if_pos (by rw[dD,hB]; simp; exact eL (by omega)),JK (by rw[hB]; simp),hB]
   rfl
  have esp:eOp jM (eSl (eOp gIx (aC 1) (eC (.int 2))) (oS (eC (.int 1))) oN) (eC (.str ", ")) (vS R2)=some (wdL (a.2.map lnT)):=by
   refine bA (a:=.str (tx (jnS SC (a.2.map lnT)))) (b:=.str (tx SC)) esl rfl ?_
   refine UE (sep:=SC) (p:=[]) (q:=[32]) (c:=44) rfl (by simp) (by simpa using hn) (fun w m q=>?_) (fun c m=>LJ (.inr (VH h.lns m))) (by unfold L2.plain; decide) (by omega)
   obtain⟨l,ml,rfl⟩:=bP.mp m
   rcases(yD (h.lns l ml)).1 44 q with z | z
   ·omega
   ·exact(sR z).2.2.2.1 rfl
  have e1:((a.2.map lnT).map fun w=>bN (tx w))=a.2.map fun l=>.str (tx (lnT l)):=by rw[fS]; rfl
  have lc:=jP (cap:=[none]) (T:=gB 0) (t:=cQ) (f:=aL nH (aF (aC 0) aJ)) (ρ:=vS R2) (xs:=a.2) (q:=fun l=>.str (tx (lnT l))) (fun _=>true) bG ((kA esp).trans (by rw[e1])) (by omega) (fun l m=>⟨[some (.str (tx (lnT l)))],rfl,rfl,fun _=>aZ (ds:=[.str (tx (lnT l))]) rfl (Vm (h.lns l m))⟩)
  rw[lL.mpr fun _ _=>rfl] at lc
  exact cF (d:=bK a) (pF (bW rfl (bW (aZ (ds:=[.list (a.2.map bG)]) (bW lc rfl) rfl) rfl)) (by simp)) rfl
theorem JC {as:List Al}(h : ∀ a∈as,AltW a)(h3:as.length≤3):wM [.str (tx (qT as))]=some (.list (as.map bK)):=by
 refine dR rfl ?_
 have e0:("none" : aB)=tx [110,111,110,101]:=by decide
 have tb:bV .s (bOf (eOp gEq (aC 0) (eC (.str "none")))) [s0 (.str (tx (qT as)))]=some (decide (qT as=[110,111,110,101])):=by
  refine(gH (bA (a:=.str (tx (qT as))) (b:=.str "none") rfl rfl (qQ _ _))).trans ?_
  congr 1
  rw[decide_eq_decide,e0]
  exact⟨uX,fun q=>by rw[q]⟩
 by_cases hn:as=[]
 ·subst hn
  exact fH (eQ (tb.trans (by decide)) (cF (d:=.list []) rfl ⟨_,rfl,rfl⟩))
 ·have hq:qT as=jnS SB (as.map eJ):=if_neg hn
  have h58:58∈qT as:=by
   rw[hq]
   obtain⟨a,r,rfl⟩:=MO hn
   have:58∈eJ a:=by simp[eJ]
   cases r with
   | nil=>exact this
   | cons b r=>exact tZ _ this
  refine dG (ρ':=[s0 (.str (tx (qT as)))]) (fC (tb.trans (by rw[decide_eq_false (fun z=>by rw[z] at h58; simp at h58)]))) ?_
  have hl:=XW h h3
  have esp:eOp jM (aC 0) (eC (.str " | ")) (vS [s0 (.str (tx (qT as)))])=some (wdL (as.map eJ)):=by
   refine bA (a:=.str (tx (jnS SB (as.map eJ)))) (b:=.str (tx SB)) (by rw[← hq]; rfl) rfl ?_
   refine UE (sep:=SB) (p:=[32]) (q:=[32]) (c:=124) rfl (by decide) (by simpa using hn) (fun w m q=>?_) (fun c m=>?_) (by unfold L2.plain; decide) (by rw[← hq]; omega)
   ·obtain⟨a,ma,rfl⟩:=bP.mp m
    rcases KG (h a ma) q with z | z | z | z
    ·omega
    ·omega
    ·omega
    ·exact(sR z).2.2.2.2 rfl
   ·rcases DC m with q | ⟨w,mw,q⟩
    ·simp at q; omega
    ·obtain⟨a,ma,rfl⟩:=bP.mp mw
     exact LJ (KG (h a ma) q)
  have e1:((as.map eJ).map fun w=>bN (tx w))=as.map fun a=>.str (tx (eJ a)):=by rw[fS]; rfl
  have lc:=jP (cap:=[none]) (T:=gB 0) (t:=cQ) (f:=aL oJ (aF (aC 0) aJ)) (ρ:=vS [s0 (.str (tx (qT as)))]) (xs:=as) (q:=fun a=>.str (tx (eJ a))) (fun _=>true) bK ((kA esp).trans (by rw[e1])) (by omega) (fun a m=>⟨[some (.str (tx (eJ a)))],rfl,rfl,fun _=>aZ (ds:=[.str (tx (eJ a))]) rfl (Mq (h a m))⟩)
  rw[lL.mpr fun _ _=>rfl] at lc
  exact cF (d:=.list (as.map bK)) lc rfl
theorem SA {sep:List Nat}(hs:sep.length≤10){ws:List (List Nat)}(hl : ∀ w∈ws,w.length≤9000)(hn:ws.length≤100):nC (.str (tx sep)) (wdL ws)=some (.str (tx (jnS sep ws))):=by
 show((mI (ws.map fun w=>.str (tx w))).bind fun ys=>if (ys.map (·.length)).sum+ys.length*(tx sep).length≤16777216 then some (bN (cU (tx sep) ys)) else none)=_
 rw[IP,cH]
 have h1:=LM hl
 have h2:ws.length*9000≤100*9000:=AX _ hn
 have h3:ws.length*sep.length≤100*10:=Nat.mul_le_mul hn hs
 rw[if_pos (by rw[cX,dD]; omega)]
 exact congrArg (fun x=>some (bN x)) (QI sep ws)
theorem yB {k:aO}(h:hJ k):shB (kD k)/\wdD (kD k)=wdK k:=by
 cases k with
 | inl i=>
  have h:i.natAbs<10 ^ 60:=h
  exact⟨iQ h LB,rfl⟩
 | inr z=>
  refine⟨?_,rfl⟩
  have:=(RT h).2.2
  show z.length≤600
  have e:z.length=z.cps.toList.length:=by simp[AN]
  omega
theorem Vl {l:Ln}(h:LineG l):wB [bG l]=some (.str (tx (lnT l))):=by
 refine dR rfl ?_
 have h6:=h.six
 refine cF (aZ (ds:=[.tuple ([.str l.1]++l.2.map kD)]) (bW (bA (a:=.tuple [.str l.1]) (b:=tK l.2) (pF (bW (bA (a:=bG l) (b:=.int 0) rfl rfl rfl) rfl) (by simp)) (bA (a:=bG l) (b:=.int 1) rfl rfl rfl) (YI (by simp; omega))) rfl) (QL (fun d m=>?_) (by simp; omega))) ?_
 ·rcases iR.mp m with m | m
  ·rw[dX.mp m]; exact(yB (k:=.inr l.1) h.name).1
  ·obtain⟨k,mk,rfl⟩:=bP.mp m
   exact(yB (h.tms k mk)).1
 ·have:([bN l.1]++l.2.map kD).map wdD=l.1.cps.toList::l.2.map wdK:=by
   rw[mV,fS]
   show l.1.cps.toList::_=_
   congr 1
   exact BC fun k mk=>(yB (h.tms k mk)).2
  rw[this]
  rfl
theorem Uy {a:Al}(h:AltW a):wQ [bK a]=some (.str (tx (eJ a))):=by
 refine dR rfl ?_
 have h4:=h.four
 have h5:=h.five
 have hlh:=HR h.tms h4
 have ew:(a.1.map kD++[bN ":"]).map wdD=a.1.map wdK++[[58]]:=by
  rw[mV,fS]
  congr 1
  exact BC fun k mk=>(yB (h.tms k mk)).2
 refine eE (d:=.str (tx (hdT a.1++[58]))) (aZ (ds:=[.tuple (a.1.map kD++[.str ":"])]) (bW (bA (a:=tK a.1) (b:=.tuple [.str ":"]) (bA (a:=bK a) (b:=.int 0) rfl rfl rfl) rfl (YI (by simp; omega))) rfl) ((QL (fun d m=>?_) (by simp; omega)).trans (by rw[ew,OJ]; rfl))) (by simp) ?_
 ·rcases iR.mp m with m | m
  ·obtain⟨k,mk,rfl⟩:=bP.mp m
   exact(yB (h.tms k mk)).1
  ·rw[dX.mp m]
   exact(by decide:(kF ":").length≤600)
 let R:bE:=[s0 (bK a),s0 (.str (tx (hdT a.1++[58])))]
 have ix : ∀ ρ:List (Option aA),aC 0 ρ=some (bK a)->eOp gIx (aC 0) (eC (.int 1)) ρ=some (lsD a.2):=fun ρ q=>bA (a:=bK a) (b:=.int 1) q rfl rfl
 have tb:bV .s (bOf (eOp gEq (aL cI (aF (eOp gIx (aC 0) (eC (.int 1))) aJ)) (eC (.int 0)))) R=some (decide (a.2=[])):=by
  refine(gH (bA (a:=.int (a.2.length:Nat)) (b:=.int 0) (aZ (ds:=[lsD a.2]) (bW (ix _ rfl) rfl) ((qR _).trans (by simp))) rfl (vJ _ _))).trans ?_
  congr 1
  rw[decide_eq_decide]
  constructor
  ·intro q
   exact uC (by omega)
  ·intro q
   rw[q]
   rfl
 unfold eJ
 by_cases hn:a.2=[]
 ·refine fH (eQ (tb.trans (by rw[decide_eq_true hn])) (cF (d:=.str (tx (hdT a.1++[58]))) rfl ⟨_,rfl,?_⟩))
  rw[if_pos hn]
 ·refine dG (ρ':=R) (fC (tb.trans (by rw[decide_eq_false hn]))) ?_
  have e1:(a.2.map fun l=>bN (tx (lnT l)))=(a.2.map lnT).map fun w=>.str (tx w):=by rw[fS]; rfl
  have lc:=jP (cap:=[none]) (T:=gB 0) (t:=cQ) (f:=aL wB (aF (aC 0) aJ)) (ρ:=vS R) (xs:=a.2) (q:=bG) (fun _=>true) (fun l=>.str (tx (lnT l))) (sU (ix _ rfl)) (by omega) (fun l m=>⟨[some (bG l)],rfl,rfl,fun _=>aZ (ds:=[bG l]) rfl (Vl (h.lns l m))⟩)
  rw[lL.mpr fun _ _=>rfl,e1] at lc
  have hlL:=IY h.lns h5
  have ej:=SA (sep:=SC) (by decide) (ws:=a.2.map lnT) (fun w m=>by
   obtain⟨l,ml,rfl⟩:=bP.mp m
   have:=(yD (h.lns l ml)).2
   omega) (by rw[cX]; omega)
  refine cF (d:=.str (tx (hdT a.1++[58]++[32]++jnS SC (a.2.map lnT)))) (bA (a:=.str (tx (hdT a.1++[58]++[32]))) (b:=.str (tx (jnS SC (a.2.map lnT)))) (bA (a:=.str (tx (hdT a.1++[58]))) (b:=.str (tx [32])) rfl rfl ?_) (bA (a:=.str (tx SC)) (b:=wdL (a.2.map lnT)) rfl lc ej) ?_) ?_
  ·show(if (tx (hdT a.1++[58])).length+(tx [32]).length≤sizeLine then some (bN (tx (hdT a.1++[58])++tx [32])) else none)=_
   rw[dD,dD,if_pos (eL (by simp; omega)),sO]
  ·show(if (tx (hdT a.1++[58]++[32])).length+(tx (jnS SC (a.2.map lnT))).length≤sizeLine then some (bN (tx (hdT a.1++[58]++[32])++tx (jnS SC (a.2.map lnT)))) else none)=_
   rw[dD,dD,if_pos (eL (by simp; omega)),sO]
  ·rw[if_neg hn]
   simp
theorem yM {as:List Al}(h : ∀ a∈as,AltW a)(h3:as.length≤3):mM [.list (as.map bK)]=some (.str (tx (qT as))):=by
 refine dR rfl ?_
 have tb:bV .s (bOf (eOp gEq (aL cI (aF (aC 0) aJ)) (eC (.int 0)))) [s0 (.list (as.map bK))]=some (decide (as=[])):=by
  refine(gH (bA (a:=.int (as.length:Nat)) (b:=.int 0) (aZ (ds:=[.list (as.map bK)]) rfl (by simp[cI])) rfl (vJ _ _))).trans ?_
  congr 1
  rw[decide_eq_decide]
  constructor
  ·intro q
   exact uC (by omega)
  ·intro q
   rw[q]
   rfl
 unfold qT
 by_cases hn:as=[]
 ·refine fH (eQ (tb.trans (by rw[decide_eq_true hn])) (cF (d:=.str (tx [110,111,110,101])) rfl ⟨_,rfl,?_⟩))
  rw[if_pos hn]
 ·refine dG (ρ':=[s0 (.list (as.map bK))]) (fC (tb.trans (by rw[decide_eq_false hn]))) ?_
  have e1:(as.map fun a=>bN (tx (eJ a)))=(as.map eJ).map fun w=>.str (tx w):=by rw[fS]; rfl
  have lc:=jP (cap:=[none]) (fi:=iIt (aC 0)) (T:=gB 0) (t:=cQ) (f:=aL wQ (aF (aC 0) aJ)) (ρ:=vS [s0 (.list (as.map bK))]) (xs:=as) (q:=bK) (fun _=>true) (fun a=>.str (tx (eJ a))) (kA rfl) (by omega) (fun a m=>⟨[some (bK a)],rfl,rfl,fun _=>aZ (ds:=[bK a]) rfl (Uy (h a m))⟩)
  rw[lL.mpr fun _ _=>rfl,e1] at lc
  rw[if_neg hn]
  exact cF (bA (a:=.str (tx SB)) (b:=wdL (as.map eJ)) rfl lc (SA (by decide) (fun w m=>by
   obtain⟨a,ma,rfl⟩:=bP.mp m
   have:=IH (h a ma)
   omega) (by rw[cX]; omega))) rfl
theorem QV {z:Option aB}{d r:aA}(h:yQ z [d,fnV "question_of",fnV "is_question",fnV "show_question"]=some r):pL z [d]=some r:=
 dR (body:=XO z) rfl (cF (aZ (ds:=[d,fnV "question_of",fnV "is_question",fnV "show_question"]) rfl h) rfl)
end Aw
namespace L2
open PySem PySem.Spec PyProof.Rows PySem.NumText
theorem QM {sep:aB} : ∀ {ys:List aB} {b:aB} {c:Nat},b∈ys->c∈b.cps.toList->c∈(cU sep ys).cps.toList
 | [],b,c,m,_=>by cases m
 | [x],b,c,m,h=>by
  have e:cU sep [x]=x:=by simp[cU]
  rw[e]
  rcases cN.mp m with rfl | m
  ·exact h
  ·cases m
 | x::y::r,b,c,m,h=>by
  have e:cU sep (x::y::r)=x++sep++cU sep (y::r):=by
   rw[cU]
   intro z; cases z
  rw[e]
  have e2:(x++sep++cU sep (y::r)).cps.toList=x.cps.toList++sep.cps.toList++(cU sep (y::r)).cps.toList:=by
   show(x.cps++sep.cps++(cU sep (y::r)).cps).toList=_
   simp
  rw[e2]
  rcases cN.mp m with rfl | m
  ·exact tZ _ (tZ _ h)
  ·exact nQ _ (QM m h)
theorem Xg {T:List Nat}(hp:plain T)(sep:aB) : ∃ ws:List (List Nat),lC (tx T) sep=ws.map tx/\ws≠[]/\(∀ w∈ws,plain w/\w.length≤T.length)/\ws.length≤T.length+2:=by
 refine⟨(lC (tx T) sep).map fun p=>p.cps.toList,?_,?_,fun w m=>?_,?_⟩
 ·rw[fS]
  conv=>lhs; rw[← List.map_id (lC (tx T) sep)]
  exact BC fun p _=>qK p
 ·intro z
  have:=split_pos (tx T) sep
  rw[List.map_eq_nil_iff.mp z] at this
  simp at this
 ·obtain⟨p,mp,rfl⟩:=bP.mp m
  refine⟨fun c mc=>?_,?_⟩
  ·have:=QM (sep:=sep) mp mc
   rw[Aq] at this
   exact hp c this
  ·have h:=part_short mp
   rw[dD] at h
   simpa [AN] using h
 ·have:=split_le (tx T) sep
  rw[dD] at this
  rw[cX]
  exact this
theorem WG (w:List Nat)(a:Nat):gO (tx w) (some (a:Int)) none=tx (w.drop a):=by
 by_cases h:a≤w.length
 ·exact JK h
 ·rw[yI w _ _ w.length w.length (by
   unfold oX
   simp only[show(1:Int) > 0 by decide,if_true]
   rw[if_neg (by omega),show max 0 (min (a:Int) (w.length:Int))=w.length by omega]) (bU _),AZ,Bz,GC (by omega)]
theorem Wg (w:List Nat)(a:Nat):gO (tx w) none (some (a:Int))=tx (w.take a):=by
 by_cases h:a≤w.length
 ·exact Lk h
 ·rw[yI w _ _ 0 w.length (by
   unfold oX
   simp only[show(1:Int) > 0 by decide,if_true]
   rw[if_neg (by omega),show max 0 (min (a:Int) (w.length:Int))=w.length by omega]
   rfl) (bU _),AZ,List.drop_zero,FY (by omega)]
theorem Wu (w:List Nat)(a b:Nat):gO (tx w) (some (a:Int)) (some (b:Int))=tx ((w.take b).drop a):=by
 rw[yI w _ _ (min a w.length) (min b w.length) (by
   unfold oX
   simp only[show(1:Int) > 0 by decide,if_true]
   rw[if_neg (by omega),if_neg (by omega),show max 0 (min (a:Int) (w.length:Int))=((min a w.length:Nat):Int) by omega,show max 0 (min (b:Int) (w.length:Int))=((min b w.length:Nat):Int) by omega]) (by omega)]
 congr 1
 have e1:w.take (min b w.length)=w.take b:=by
  by_cases h:b≤w.length
  ·rw[AY h]
  ·rw[MH (by omega),AZ,FY (by omega)]
 rw[e1]
 by_cases h:a≤w.length
 ·rw[AY h]
 ·rw[MH (by omega),GC (by simp; omega),GC (by simp; omega)]
end L2
namespace Aw
open PySem L2
noncomputable def nameB (w:List Nat):Bool:=decide (1≤w.length/\w.length≤12)&&((match w with | c::_=>letter c | []=>false)&&w.all fK)
theorem Mu : ∀ c<128,(false != !(iS ABF ⟨#[c]⟩ 0 ABF.length 1).isEmpty)=fK c:=by decide +kernel
theorem Kn : ∀ c<128,(false != !(iS AB ⟨#[c]⟩ 0 AB.length 1).isEmpty)=letter c:=by decide +kernel
theorem Hj {c:Nat}(h:c<128):gIn false (cM c) (.str ABF)=some (.bool (fK c)):=by
 show some (eO (false != !(iS ABF ⟨#[c]⟩ 0 ABF.length 1).isEmpty))=_
 rw[Mu c h]
theorem Ja {c:Nat}(h:c<128):gIn false (cM c) (.str AB)=some (.bool (letter c)):=by
 show some (eO (false != !(iS AB ⟨#[c]⟩ 0 AB.length 1).isEmpty))=_
 rw[Kn c h]
theorem Tt {w:List Nat}(hp:L2.plain w)(hl:w.length≤90000):kU [.str (tx w)]=some (.bool (nameB w)):=by
 refine dR rfl ?_
 let R:bE:=[s0 (.str (tx w))]
 have ec:iX gLe gLe (eC (.int 1)) (aL cI (aF (aC 0) aJ)) (eC (.int 12)) (vS R)=some (.bool (decide (1≤w.length/\w.length≤12))):=by
  rw[QW (n:=w.length) (aZ (ds:=[.str (tx w)]) rfl (len_str (by omega)))]
  congr 2
  rw[decide_eq_decide]
  omega
 have t1:=qL (a:=eK (bOf (eUn (gF "str") (aC 0)))) (b:=eK (bOf (iX gLe gLe (eC (.int 1)) (aL cI (aF (aC 0) aJ)) (eC (.int 12))))) (ρ:=vS R) (kQ (x:=true) rfl) (fun _=>kQ ec)
 unfold nameB
 cases hb:decide (1≤w.length/\w.length≤12) with
 | false=>
  rw[hb] at t1
  exact fH (eQ t1 (cF (d:=.bool false) rfl ⟨_,rfl,rfl⟩))
 | true=>
  rw[hb] at t1
  refine dG (fC t1) ?_
  cases w with
  | nil=>simp at hb
  | cons c r=>
   have ix:gIx (.str (tx (c::r))) (.int 0)=some (cM c):=by
    show(if (tx (c::r)).length≤sizeLine then(atI (tx (c::r)).cps.toList 0).bind fun c=>some (bN ⟨#[c]⟩) else none)=_
    rw[if_pos (by rw[dD]; exact eL (by omega)),HK]
    have e0:atI (c::r) 0=some c:=pK (xs:=c::r) (j:=0) rfl
    rw[e0]
    rfl
   have lc:=jP (cap:=[none]) (fi:=iIt (aC 0)) (T:=gB 0) (t:=cQ) (f:=eOp (gIn false) (aC 0) (eOp cB (eC (.str "abcdefghijklmnopqrstuvwxyz")) (eC (.str "0123456789")))) (ρ:=vS R) (xs:=c::r) (q:=cM) (fun _=>true) (fun c=>.bool (fK c)) (YX rfl (by omega)) (by omega) (fun x m=>⟨[some (cM x)],rfl,rfl,fun _=>bA (a:=cM x) (b:=.str ABF) rfl (bA (a:=.str AB) (b:=.str "0123456789") rfl rfl ZX) (Hj (hp x m))⟩)
   rw[lL.mpr fun _ _=>rfl] at lc
   exact cF (d:=.bool (letter c&&(c::r).all fK)) (oD (bA (a:=cM c) (b:=.str AB) (bA (a:=.str (tx (c::r))) (b:=.int 0) rfl rfl ix) rfl (Ja (hp c bQ))) fun _=>aZ (bW lc rfl) (all_map fK _)) (by simp)
theorem YU {z:aB}(h:nameB z.cps.toList=true):nameS z:=by
 unfold nameB at h
 simp only[jI,decide_eq_true_eq,dZ] at h
 obtain⟨⟨h1,h2⟩,h3,h4⟩:=h
 cases e:z.cps.toList with
 | nil=>rw[e] at h1; simp at h1
 | cons c r=>
  rw[e] at h3
  exact⟨c,r,e,h3,h4,h2⟩
def GO (z:aB):Prop:=L2.plain z.cps.toList/\z.cps.toList.length≤90000
def uL:aO->Prop
 | .inl _=>True
 | .inr z=>GO z
noncomputable def nW:aO->Bool
 | .inl i=>decide (i.natAbs<10 ^ 60)
 | .inr z=>nameB z.cps.toList
theorem RQ {z:aB}(h:GO z):kU [.str z]=some (.bool (nameB z.cps.toList)):=by
 have:=Tt h.1 h.2
 rwa [← qK] at this
theorem RM {k:aO}(h:uL k):nG [kD k]=some (.bool (nW k)):=by
 cases k with
 | inl i=>exact(CY (d:=.int i) (BY i) (name_kind (fun _ q=>nomatch q) (BY i))).trans (by rw[Bool.false_or]; rfl)
 | inr z=>exact(CY (d:=.str z) (OU z) (RQ h)).trans (by
   rw[show uI (.str z)=false from rfl,Co]
   rfl)
theorem QC {k:aO}(h:nW k=true):hJ k:=by
 cases k with
 | inl i=>
  have h:decide (i.natAbs<10 ^ 60)=true:=h
  exact(of_decide_eq_true h:i.natAbs<10 ^ 60)
 | inr z=>exact YU h
theorem UP {ks:List aO}(h : ∀ k∈ks,uL k)(lo hi:Nat)(hh:hi≤100):kT [tK ks,.int lo,.int hi]=some (.bool (decide (lo≤ks.length/\ks.length≤hi)&&ks.all nW)):=by
 by_cases hb:lo≤ks.length/\ks.length≤hi
 ·let f:aA->Bool:=fun d=>match nG [d] with | some (.bool b)=>b | _=>false
  have hf : ∀ k∈ks,f (kD k)=nW k:=fun k m=>by
   show(match nG [kD k] with | some (.bool b)=>b | _=>false)=nW k
   rw[RM (h k m)]
  have e:=SO (ds:=ks.map kD) f (fun d m=>by
   obtain⟨k,mk,rfl⟩:=bP.mp m
   rw[hf k mk]
   exact RM (h k mk)) (by rw[cX]; omega) lo hi
  rw[cX] at e
  refine e.trans ?_
  congr 3
  rw[GD]
  have : ∀ l:List aO,(∀ k∈l,f (kD k)=nW k)->l.all (f∘kD)=l.all nW:=fun l hl=>by
   induction l with
   | nil=>rfl
   | cons a r ih=>rw[MP,MP,ih fun k m=>hl k (cA _ m)]; congr 1; exact hl a bQ
  exact this ks hf
 ·rw[Zk (ds:=ks.map kD) (by rw[cX]; exact hb),decide_eq_false hb]
  rfl
def uV (l:Ln):Prop:=GO l.1 /\ ∀ k∈l.2,uL k
noncomputable def nX (l:Ln):Bool:=nameB l.1.cps.toList&&(decide (1≤l.2.length/\l.2.length≤6)&&l.2.all nW)
theorem RN {l:Ln}(h:uV l):nF [bG l]=some (.bool (nX l)):=line_of (RQ h.1) fun _=>UP h.2 1 6 (by decide)
theorem Kr {l:Ln}(h:nX l=true):LineG l:=by
 unfold nX at h
 simp only[jI,decide_eq_true_eq,dZ] at h
 exact⟨YU h.1,h.2.1.1,h.2.1.2,fun k m=>QC (h.2.2 k m)⟩
theorem Xy {ls:List Ln}(h : ∀ l∈ls,uV l):oI [lsD ls]=some (.bool (decide (ls.length≤5)&&ls.all nX)):=by
 by_cases hb:ls.length≤5
 ·let f:aA->Bool:=fun d=>match nF [d] with | some (.bool b)=>b | _=>false
  have hf : ∀ l∈ls,f (bG l)=nX l:=fun l m=>by
   show(match nF [bG l] with | some (.bool b)=>b | _=>false)=nX l
   rw[RN (h l m)]
  have e:=VI (ds:=ls.map bG) f (fun d m=>by
   obtain⟨l,ml,rfl⟩:=bP.mp m
   rw[hf l ml]
   exact RN (h l ml)) (by rw[cX]; omega)
  rw[cX] at e
  refine e.trans ?_
  congr 3
  rw[GD]
  have : ∀ l:List Ln,(∀ k∈l,f (bG k)=nX k)->l.all (f∘bG)=l.all nX:=fun l hl=>by
   induction l with
   | nil=>rfl
   | cons a r ih=>rw[MP,MP,ih fun k m=>hl k (cA _ m)]; congr 1; exact hl a bQ
  exact this ls hf
 ·rw[Pa (by rw[cX]; omega),decide_eq_false hb]
  rfl
def uF (a:Al):Prop:=(∀ k∈a.1,uL k) /\ ∀ l∈a.2,uV l
structure AltF (a:Al):Prop where
 w:AltW a
 std : ∀ k∈a.1,∀ z,k = .inr z->z∈fU a.2
 one:xY a.2
theorem AltF.t {a:Al}(A:AltF a) : ∀ l∈a.2,oZ l:=fun l m=>(A.w.lns l m).T
theorem Zb {a:Al}(A:AltF a):iB [bK a]=some (.bool true):=by
 obtain⟨b,eb,hb⟩:=IE (ls:=a.2) (D0:=lsD a.2) rfl A.t (by have:=A.w.five; omega)
 have e:=BZ (VG (lo:=0) (hi:=4) A.w.tms (by omega) A.w.four (by omega)) (fun _=>Oh A.w.lns A.w.five) (fun _ _=>UB (hd:=a.1) A.t (by have:=A.w.five; omega) (by have:=A.w.four; omega)) (fun _ _ _=>eb)
 refine e.trans ?_
 rw[hb.mpr A.one,Arw.mpr A.std]
 rfl
theorem HM {a:Al}(h:uF a) : ∃ b,iB [bK a]=some (.bool b)/\(b=true->AltF a):=by
 have e1:=UP h.1 0 4 (by decide)
 have e2:=Xy h.2
 by_cases hx:(decide (0≤a.1.length/\a.1.length≤4)&&a.1.all nW)=true
 ·by_cases hy:(decide (a.2.length≤5)&&a.2.all nX)=true
  ·have hx':=hx
   have hy':=hy
   simp only[jI,decide_eq_true_eq,dZ] at hx' hy'
   have W:AltW a:=⟨fun k m=>QC (hx'.2 k m),hx'.1.2,fun l m=>Kr (hy'.2 l m),hy'.1⟩
   have T : ∀ l∈a.2,oZ l:=fun l m=>(W.lns l m).T
   obtain⟨b,eb,hb⟩:=IE (ls:=a.2) (D0:=lsD a.2) rfl T (by have:=W.five; omega)
   have e:=BZ e1 (fun _=>e2) (fun _ _=>UB (hd:=a.1) T (by have:=W.five; omega) (by have:=W.four; omega)) (fun _ _ _=>eb)
   refine⟨_,e,fun q=>?_⟩
   simp only[jI] at q
   exact⟨W,Arw.mp q.1.2,hb.mp q.2⟩
  ·have hy2:(decide (a.2.length≤5)&&a.2.all nX)=false:=by simpa using hy
   refine⟨false,Ww (e1.trans (by rw[hx])) (e2.trans (by rw[hy2])),fun q=>nomatch q⟩
 ·have hx2:(decide (0≤a.1.length/\a.1.length≤4)&&a.1.all nW)=false:=by simpa using hx
  exact⟨false,Nn (e1.trans (by rw[hx2])),fun q=>nomatch q⟩
structure GQ (as:List Al):Prop where
 alt : ∀ a∈as,AltF a
 few:as.length≤3
 len : ∀ x∈as,∀ y∈as,x.1.length=y.1.length
 one:xY (kO as)
theorem AltF.a1 {a:Al}(A:AltF a):Alt1 a:=⟨Zb A,A.t,A.w.five⟩
theorem GQ.true {as:List Al}(G:GQ as):mC [.list (as.map bK)]=some (.bool true):=by
 obtain⟨b1,b2,e,h1,h2⟩:=RA (fun a m=>(G.alt a m).a1) G.few
 rw[e,h1.mpr G.len,h2.mpr G.one]
 rfl
theorem Nf {as:List Al}(h : ∀ a∈as,uF a) : ∃ b,mC [.list (as.map bK)]=some (.bool b)/\(b=true->GQ as):=by
 by_cases hl:3<as.length
 ·exact⟨false,VP (by rw[cX]; exact hl),fun q=>nomatch q⟩
 by_cases hall : ∀ a∈as,iB [bK a]=some (.bool true)
 ·have A : ∀ a∈as,AltF a:=fun a m=>by
   obtain⟨b,e,hb⟩:=HM (h a m)
   rw[hall a m] at e
   exact hb (by cases e; rfl)
  obtain⟨b1,b2,e,h1,h2⟩:=RA (fun a m=>(A a m).a1) (by omega)
  refine⟨_,e,fun q=>?_⟩
  simp only[jI] at q
  exact⟨A,by omega,h1.mp q.1,h2.mp q.2⟩
 ·have : ∃ a∈as,iB [bK a]=some (.bool false):=GH fun z=>hall fun a m=>by
   obtain⟨b,e,_⟩:=HM (h a m)
   cases b with
   | true=>exact e
   | false=>exact absurd ⟨a,m,e⟩ z
  obtain⟨a,m,e⟩:=this
  exact⟨false,Nr (fun d md=>by
   obtain⟨x,mx,rfl⟩:=bP.mp md
   obtain⟨b,e,_⟩:=HM (h x mx)
   exact⟨b,e⟩) (bP.mpr ⟨a,m,rfl⟩) e,fun q=>nomatch q⟩
noncomputable def jJ (w:List Nat):aO:=match jN w with
 | .int i=>.inl i
 | _=>.inr (tx w)
theorem PB {w:List Nat}(hp:L2.plain w)(hl:w.length≤90000):uL (jJ w):=by
 unfold jJ
 split
 ·trivial
 ·exact⟨hp,hl⟩
theorem Qc (w:List Nat):jN w = .none \/ ∃ i,jN w = .int i:=by
 unfold jN
 split
 ·exact .inr ⟨_,rfl⟩
 ·exact .inl rfl
theorem Ux {w:List Nat}(hp:L2.plain w)(hl:w.length≤90000):qW [.str (tx w)]=some (kD (jJ w)):=by
 refine dR rfl ?_
 refine eE (d:=jN w) (aZ (ds:=[.str (tx w)]) rfl (SS hp hl)) (by simp) ?_
 unfold jJ
 rcases Qc w with e | ⟨i,e⟩
 ·rw[e]; exact cF (d:=.str (tx w)) rfl rfl
 ·rw[e]; exact cF (d:=.int i) rfl rfl
theorem TL {ws:List (List Nat)}(h : ∀ w∈ws,L2.plain w/\w.length≤90000)(hl:ws.length≤95000):qZ [wdL ws]=some (tK (ws.map jJ)):=by
 refine dR rfl ?_
 have lc:=jP (cap:=[none]) (fi:=iIt (aC 0)) (T:=gB 0) (t:=cQ) (f:=aL qW (aF (aC 0) aJ)) (ρ:=vS [s0 (wdL ws)]) (xs:=ws) (q:=fun w=>.str (tx w)) (fun _=>true) (fun w=>kD (jJ w)) (kA rfl) (by omega) (fun w m=>⟨[some (.str (tx w))],rfl,rfl,fun _=>aZ (ds:=[.str (tx w)]) rfl (Ux (h w m).1 (h w m).2)⟩)
 rw[lL.mpr fun _ _=>rfl] at lc
 refine cF (aZ (bW lc rfl) rfl) ?_
 show Out.rt (.tuple (ws.map fun w=>kD (jJ w)))=Out.rt (.tuple ((ws.map jJ).map kD))
 rw[fS]
 rfl
theorem BV {T:List Nat}(hp:L2.plain T)(hl:T.length≤90000){sep:aB}(hs:(sep.length == 0)=false) : ∃ ws,jM (.str (tx T)) (.str sep)=some (wdL ws)/\ws≠[]/\(∀ w∈ws,L2.plain w/\w.length≤T.length)/\ws.length≤T.length+2:=by
 obtain⟨ws,e,h1,h2,h3⟩:=Xg hp sep
 refine⟨ws,?_,h1,h2,h3⟩
 show(if (sep.length == 0)=false/\(tx T).length+2≤sizeLine then some (rM ((lC (tx T) sep).map bN)) else none)=_
 rw[if_pos ⟨hs,by rw[dD]; exact eL (by omega)⟩,e,fS]
 rfl
theorem Ts {T:List Nat}(hp:L2.plain T)(hl:T.length≤90000) : ∃ l:Ln,nH [.str (tx T)]=some (bG l)/\uV l:=by
 obtain⟨ws,e,h1,h2,h3⟩:=BV hp hl (sep:=" ") (by decide)
 obtain⟨w,r,rfl⟩:=MO h1
 refine⟨(tx w,r.map jJ),dR rfl ?_,⟨(h2 w (by simp)).1,by have:=(h2 w (by simp)).2; show w.length≤90000; omega⟩,fun k m=>?_⟩
 ·refine eE (d:=wdL (w::r)) (bA (a:=.str (tx T)) (b:=.str " ") rfl rfl e) (by simp) ?_
  have c2:kL (aC 1) (oS (eC (.int 1))) oN (vS [s0 (.str (tx T)),s0 (wdL (w::r))])=some (wdL r):=by
   rw[yA (ds:=(w::r).map fun w=>.str (tx w)) (l:=some ((1:Nat):Int)) (u:=none) rfl rfl rfl,OV]
   rfl
  exact cF (d:=bG (tx w,r.map jJ)) (pF (bW (bA (a:=wdL (w::r)) (b:=.int ((0:Nat):Int)) rfl rfl (PU (j:=0) rfl)) (bW (aZ (ds:=[wdL r]) (bW c2 rfl) (TL (fun x m=>⟨(h2 x (by simp[m])).1,by have:=(h2 x (by simp[m])).2; omega⟩) (by simp at h3; omega))) rfl)) (by simp)) rfl
 ·obtain⟨x,mx,rfl⟩:=bP.mp m
  have:=h2 x (by simp[mx])
  exact PB this.1 (by omega)
theorem UW {T:List Nat}(hp:L2.plain T)(a b:Nat):L2.plain ((T.drop a).take b):=fun c m=>hp c (MM (FZ m))
theorem Lw {T:List Nat}(hp:L2.plain T)(hl:T.length≤90000) : ∃ a:Al,oJ [.str (tx T)]=some (bK a)/\uF a:=by
 have hparts : ∃ A M B,nO (tx T) ":" = (tx A,M,tx B)/\(L2.plain A/\A.length≤T.length)/\L2.plain B/\B.length≤T.length:=by
  unfold nO
  split
  ·exact⟨_,_,_,by rw[qM,qM],⟨UW hp _ _,by simp; omega⟩,UW hp _ _,by simp; omega⟩
  ·exact⟨T,_,[],rfl,⟨hp,bU _⟩,fun c m=>by simp at m,by simp⟩
 obtain⟨A,M,B,ep0,⟨pA,lA⟩,pB,lB⟩:=hparts
 have ep:AC (.str (tx T)) (.str ":")=some (.tuple [.str (tx A),.str M,.str (tx B)]):=by
  show(if ((kF ":").length == 0)=false/\(tx T).length≤sizeLine then some (fR ((part3 (tx T) ":").map .str)) else none)=_
  rw[if_pos ⟨by decide,by rw[dD]; exact eL (by omega)⟩]
  unfold part3
  rw[ep0]
  rfl
 let PD:aA:=.tuple [.str (tx A),.str M,.str (tx B)]
 obtain⟨ws,e,h1,h2,h3⟩:=BV pA (by omega) (sep:=" ") (by decide)
 obtain⟨us,u,rfl⟩ : ∃ us u,ws=us++[u]:=⟨ws.dropLast,ws.getLast h1,(List.dropLast_concat_getLast h1).symm⟩
 have hus : ∀ w∈us,L2.plain w/\w.length≤90000:=fun w m=>⟨(h2 w (by simp[m])).1,by have:=(h2 w (by simp[m])).2; omega⟩
 have hul:us.length≤95000:=by simp at h3; omega
 have hk : ∀ k∈us.map jJ,uL k:=fun k m=>by
  obtain⟨w,mw,rfl⟩:=bP.mp m
  exact PB (hus w mw).1 (hus w mw).2
 let HD:aA:=tK (us.map jJ)
 have common : ∀ {P:Out->Prop},Goes (bC (sIf .s (bOf (eOp gEq (eOp gIx (aC 1) (eC (.int 2))) (eC (.str "")))) (bY 0 .s (gX (aF (aC 2) (aF (gX aJ) aJ)))) dI)
   (bY 0 .s (gX (aF (aC 2) (aF (aL pE (aF (eLC [none] (iIt (eOp jM (eSl (eOp gIx (aC 1) (eC (.int 2))) (oS (eC (.int 1))) oN) (eC (.str ", ")))) (gB 0) cQ (aL nH (aF (aC 0) aJ))) aJ)) aJ))))) [s0 (.str (tx T)),s0 PD,s0 HD] P->Goes XT [s0 (.str (tx T)),none,none] P:=fun g=>by
  refine eE (d:=PD) (bA (a:=.str (tx T)) (b:=.str ":") rfl rfl ep) (by simp) ?_
  have es:eOp jM (eOp gIx (aC 1) (eC (.int 0))) (eC (.str " ")) (vS [s0 (.str (tx T)),s0 PD,none])=some (wdL (us++[u])):=bA (a:=.str (tx A)) (b:=.str " ") (bA (a:=PD) (b:=.int 0) rfl rfl rfl) rfl e
  have ec:kL (eOp jM (eOp gIx (aC 1) (eC (.int 0))) (eC (.str " "))) oN (oS (eUn xT (eC (.int 1)))) (vS [s0 (.str (tx T)),s0 PD,none])=some (wdL us):=by
   rw[yA (ds:=(us++[u]).map fun w=>.str (tx w)) (l:=none) (u:=some (-1)) es rfl rfl,mV]
   show some (rM (cutD (_++[.str (tx u)]) none (some (-1))))=_
   rw[TN]
  exact eE (d:=HD) (aZ (ds:=[wdL us]) (bW ec rfl) (TL hus hul)) (by simp) g
 let R2:bE:=[s0 (.str (tx T)),s0 PD,s0 HD]
 have ix2 : ∀ ρ:List (Option aA),aC 1 ρ=some PD->eOp gIx (aC 1) (eC (.int 2)) ρ=some (.str (tx B)):=fun ρ q=>bA (a:=PD) (b:=.int 2) q rfl rfl
 have e0:("" : aB)=tx []:=by decide
 have tb:bV .s (bOf (eOp gEq (eOp gIx (aC 1) (eC (.int 2))) (eC (.str "")))) R2=some (decide (B=[])):=by
  refine(gH (bA (a:=.str (tx B)) (b:=.str "") (ix2 _ rfl) rfl (qQ _ _))).trans ?_
  congr 1
  rw[decide_eq_decide,e0]
  exact⟨uX,fun q=>by rw[q]⟩
 by_cases hB:B=[]
 ·refine⟨(us.map jJ,[]),dR rfl (common ?_),hk,fun l m=>by simp at m⟩
  exact fH (eQ (tb.trans (by rw[decide_eq_true hB])) (cF (d:=bK (us.map jJ,[])) (pF (bW rfl (bW rfl rfl)) (by simp)) ⟨_,rfl,rfl⟩))
 ·have esl:eSl (eOp gIx (aC 1) (eC (.int 2))) (oS (eC (.int 1))) oN (vS R2)=some (.str (tx (B.drop 1))):=by
   unfold eSl
   rw[ix2 _ rfl,cH]
   show(if (tx B).length≤sizeLine then some (bN (gO (tx B) (some ((1:Nat):Int)) none)) else none)=_
   rw[if_pos (by rw[dD]; exact eL (by omega)),WG]
  have pD:L2.plain (B.drop 1):=fun c m=>pB c (MM m)
  have lD:(B.drop 1).length≤90000:=by rw[uA]; omega
  obtain⟨vs,ev,v1,v2,v3⟩:=BV pD lD (sep:=", ") (by decide)
  have hv : ∀ v:List Nat,∃ l:Ln,v∈vs->nH [.str (tx v)]=some (bG l)/\uV l:=fun v=>by
   by_cases m:v∈vs
   ·obtain⟨l,e,h⟩:=Ts (v2 v m).1 (by have:=(v2 v m).2; omega)
    exact⟨l,fun _=>⟨e,h⟩⟩
   ·exact⟨("",[]),fun z=>absurd z m⟩
  let LF:List Nat->Ln:=fun v=>(hv v).choose
  have hLF : ∀ v∈vs,nH [.str (tx v)]=some (bG (LF v))/\uV (LF v):=fun v=>(hv v).choose_spec
  have lc:=jP (cap:=[none]) (T:=gB 0) (t:=cQ) (f:=aL nH (aF (aC 0) aJ)) (ρ:=vS R2) (xs:=vs) (q:=fun v=>.str (tx v)) (fun _=>true) (fun v=>bG (LF v)) (kA (bA (fb:=eC (.str ", ")) (a:=.str (tx (B.drop 1))) (b:=.str ", ") esl rfl ev)) (by omega) (fun v m=>⟨[some (.str (tx v))],rfl,rfl,fun _=>aZ (ds:=[.str (tx v)]) rfl (hLF v m).1⟩)
  rw[lL.mpr fun _ _=>rfl] at lc
  refine⟨(us.map jJ,vs.map LF),dR rfl (common ?_),hk,fun l m=>?_⟩
  ·refine dG (ρ':=R2) (fC (tb.trans (by rw[decide_eq_false hB]))) ?_
   refine cF (d:=bK (us.map jJ,vs.map LF)) (pF (ds:=[HD,.tuple (vs.map fun v=>bG (LF v))]) (bW rfl (bW (aZ (ds:=[.list (vs.map fun v=>bG (LF v))]) (bW lc rfl) rfl) rfl)) (by simp) |>.trans ?_) rfl
   unfold bK
   rw[show lsD (vs.map LF) = .tuple ((vs.map LF).map bG) from rfl,fS]
   rfl
  ·obtain⟨v,mv,rfl⟩:=bP.mp m
   exact(hLF v mv).2
theorem Xv {T:List Nat}(hp:L2.plain T)(hl:T.length≤90000) : ∃ as:List Al,wM [.str (tx T)]=some (.list (as.map bK)) /\ ∀ a∈as,uF a:=by
 have e0:("none" : aB)=tx [110,111,110,101]:=by decide
 have tb:bV .s (bOf (eOp gEq (aC 0) (eC (.str "none")))) [s0 (.str (tx T))]=some (decide (tx T = "none")):=gH (bA (a:=.str (tx T)) (b:=.str "none") rfl rfl (qQ _ _))
 by_cases hn:tx T = "none"
 ·exact⟨[],dR rfl (fH (eQ (tb.trans (by rw[decide_eq_true hn])) (cF (d:=.list []) rfl ⟨_,rfl,rfl⟩))),fun a m=>by simp at m⟩
 ·obtain⟨vs,ev,v1,v2,v3⟩:=BV hp hl (sep:=" | ") (by decide)
  have hv : ∀ v:List Nat,∃ a:Al,v∈vs->oJ [.str (tx v)]=some (bK a)/\uF a:=fun v=>by
   by_cases m:v∈vs
   ·obtain⟨a,e,h⟩:=Lw (v2 v m).1 (by have:=(v2 v m).2; omega)
    exact⟨a,fun _=>⟨e,h⟩⟩
   ·exact⟨([],[]),fun z=>absurd z m⟩
  let AF':List Nat->Al:=fun v=>(hv v).choose
  have hAF : ∀ v∈vs,oJ [.str (tx v)]=some (bK (AF' v))/\uF (AF' v):=fun v=>(hv v).choose_spec
  have lc:=jP (cap:=[none]) (T:=gB 0) (t:=cQ) (f:=aL oJ (aF (aC 0) aJ)) (ρ:=vS [s0 (.str (tx T))]) (xs:=vs) (q:=fun v=>.str (tx v)) (fun _=>true) (fun v=>bK (AF' v)) (kA (bA (fa:=aC 0) (fb:=eC (.str " | ")) (a:=.str (tx T)) (b:=.str " | ") rfl rfl ev)) (by omega) (fun v m=>⟨[some (.str (tx v))],rfl,rfl,fun _=>aZ (ds:=[.str (tx v)]) rfl (hAF v m).1⟩)
  rw[lL.mpr fun _ _=>rfl] at lc
  refine⟨vs.map AF',dR rfl (dG (ρ':=[s0 (.str (tx T))]) (fC (tb.trans (by rw[decide_eq_false hn]))) (cF lc ?_)),fun a m=>?_⟩
  ·rw[fS]; rfl
  ·obtain⟨v,mv,rfl⟩:=bP.mp m
   exact(hAF v mv).2
theorem GQ.w {as:List Al}(G:GQ as) : ∀ a∈as,AltW a:=fun a m=>(G.alt a m).w
theorem IS (z:Option aB){as:List Al}(G:GQ as):pL z [.str (tx (qT as))]=some (.list (as.map bK)):=by
 refine QV (dR (body:=JJ z) rfl ?_)
 let D:aA:=.list (as.map bK)
 refine fH (eQ rfl ?_)
 refine eE (d:=D) (aZ (ds:=[.str (tx (qT as))]) rfl (JC G.w G.few)) (by simp) ?_
 let Q:bE:=[s0 (.str (tx (qT as))),s0 (fnV "question_of"),s0 (fnV "is_question"),s0 (fnV "show_question"),some (1,D)]
 have e3:=Af (a:=bOf (aL mC (aFn 2 "is_question" (aF (aC 4) aJ)))) (b:=bOf (eOp gEq (aL mM (aFn 3 "show_question" (aF (aC 4) aJ))) (aC 0))) (ρ:=vA Q) (x:=true) (y:=true)
  (gH (aZ (ds:=[D]) rfl G.true))
  (fun _=>gH (bA (a:=.str (tx (qT as))) (b:=.str (tx (qT as))) (aZ (ds:=[D]) rfl (yM G.w G.few)) rfl ((qQ _ _).trans (by simp))))
 exact eQ e3 ⟨_,rfl,_,rfl,rfl⟩
theorem Ui {T:List Nat}(hp:L2.plain T)(hl:T.length≤90000)(h : ∀ as,GQ as->qT as≠T):pL (some "NoText") [.str (tx T)]=some (rsD "NoText"):=by
 refine QV (dR (body:=JJ (some "NoText")) rfl ?_)
 obtain⟨as,eo,hP⟩:=Xv hp hl
 obtain⟨b,eb,hb⟩:=Nf hP
 let D:aA:=.list (as.map bK)
 let Q:bE:=[s0 (.str (tx T)),s0 (fnV "question_of"),s0 (fnV "is_question"),s0 (fnV "show_question"),some (1,D)]
 refine jO (fun ρ'=>ρ'=Q) ?_ ?_
 ·refine eQ rfl ?_
  refine eE (d:=D) (aZ (ds:=[.str (tx T)]) rfl eo) (by simp) ?_
  have e0:=gH (aZ (g:=mC) (fa:=aFn 2 "is_question" (aF (aC 4) aJ)) (ρ:=vA Q) (ds:=[D]) rfl eb)
  have e1:=Af (b:=bOf (eOp gEq (aL mM (aFn 3 "show_question" (aF (aC 4) aJ))) (aC 0))) (x:=b) (y:=false) e0 fun hr=>?_
  ·rw[Cq] at e1
   exact⟨_,fC e1,_,rfl,rfl⟩
  have G:=hb hr
  refine gH (bA (a:=.str (tx (qT as))) (b:=.str (tx T)) (aZ (ds:=[D]) rfl (yM G.w G.few)) rfl ((qQ _ _).trans ?_))
  congr 2
  rw[decide_eq_false_iff_not]
  exact fun e=>h as G (uX e)
 ·rintro _ rfl
  exact⟨_,rfl,rfl⟩
theorem qN {a b:List Nat}(h:a.length+b.length≤100000):cB (.str (tx a)) (.str (tx b))=some (.str (tx (a++b))):=by
 show(if (tx a).length+(tx b).length≤sizeLine then some (bN (tx a++tx b)) else none)=_
 rw[dD,dD,if_pos (eL h),sO]
theorem uO {f g:EF}{ρ:List (Option aA)}{T:List Nat}{a:Nat}(h:f ρ=some (.str (tx T)))(hg:g ρ=some (.int (a:Int)))(hl:T.length≤100000):eSl f oN (oS g) ρ=some (.str (tx (T.take a))):=by
 have eo:oS g ρ=some (some (a:Int)):=by unfold oS; rw[hg]; rfl
 unfold eSl
 rw[h,cH,eo]
 show(if (tx T).length≤sizeLine then some (bN (gO (tx T) none (some (a:Int)))) else none)=_
 rw[if_pos (by rw[dD]; exact eL hl),Wg]
theorem vL {f g:EF}{ρ:List (Option aA)}{T:List Nat}{a:Nat}(h:f ρ=some (.str (tx T)))(hg:g ρ=some (.int (a:Int)))(hl:T.length≤100000):eSl f (oS g) oN ρ=some (.str (tx (T.drop a))):=by
 have eo:oS g ρ=some (some (a:Int)):=by unfold oS; rw[hg]; rfl
 unfold eSl
 rw[h,cH,eo]
 show(if (tx T).length≤sizeLine then some (bN (gO (tx T) (some (a:Int)) none)) else none)=_
 rw[if_pos (by rw[dD]; exact eL hl),WG]
theorem Ii {f g k:EF}{ρ:List (Option aA)}{T:List Nat}{a b:Nat}(h:f ρ=some (.str (tx T)))(hg:g ρ=some (.int (a:Int)))(hk:k ρ=some (.int (b:Int)))(hl:T.length≤100000):eSl f (oS g) (oS k) ρ=some (.str (tx ((T.take b).drop a))):=by
 have eo:oS g ρ=some (some (a:Int)):=by unfold oS; rw[hg]; rfl
 have eo2:oS k ρ=some (some (b:Int)):=by unfold oS; rw[hk]; rfl
 unfold eSl
 rw[h,cH,eo,cH,eo2]
 show(if (tx T).length≤sizeLine then some (bN (gO (tx T) (some (a:Int)) (some (b:Int)))) else none)=_
 rw[if_pos (by rw[dD]; exact eL hl),Wu]
theorem Lh {S:aB}{l:List Nat}(e:S.cps.toList=l)(hS:S.length≤100000){j:Nat}(h:j<l.length):gIx (.str S) (.int (j:Nat))=some (.str (tx [l[j]])):=by
 show(if S.length≤sizeLine then(atI S.cps.toList (j:Int)).bind fun c=>some (bN ⟨#[c]⟩) else none)=_
 rw[if_pos (eL hS),e,pK (gV h)]
 rfl
theorem sV {T:List Nat}(h:L2.plain T)(a:Nat):L2.plain (T.take a):=fun c m=>h c (FZ m)
theorem sS {T:List Nat}(h:L2.plain T)(a:Nat):L2.plain (T.drop a):=fun c m=>h c (MM m)
theorem qO {T U:List Nat}(h:L2.plain T)(h2:L2.plain U):L2.plain (T++U):=fun c m=>by
 rcases iR.mp m with m | m
 ·exact h c m
 ·exact h2 c m
theorem RE {T:List Nat}(hp:L2.plain T)(hl:T.length≤90000):rA [.str (tx T)]=some (.bool true):=by
 refine dR rfl ?_
 by_cases h : ∃ as,GQ as/\qT as=T
 ·obtain⟨as,G,rfl⟩:=h
  have e1:=IS (some "NoText") G
  have e2:=IS none G
  refine dG (ρ':=[s0 (.str (tx (qT as))),some (1,.list (as.map bK))]) ((Mw (ds:=[.str (tx (qT as))]) rfl e1 rfl e2).trans rfl) ?_
  refine vH ?_
  refine dG (ρ':=[s0 (.str (tx (qT as))),s0 (.list (as.map bK))]) (fC (gH (bA (a:=.bool true) (b:=.bool true) (aZ (ds:=[.list (as.map bK)]) rfl G.true) rfl rfl))) ?_
  exact cF (d:=.bool true) (bA (a:=.str (tx (qT as))) (b:=.str (tx (qT as))) (aZ (ds:=[.list (as.map bK)]) rfl (yM G.w G.few)) rfl ((qQ _ _).trans (by simp))) rfl
 ·have e1:=Ui hp hl fun as G e=>h ⟨as,G,e⟩
  exact fH ⟨_,(Ht (ds:=[.str (tx T)]) rfl e1).trans rfl,_,rfl,rfl⟩
theorem Pc {T U:List Nat}(hp:L2.plain T)(hu:L2.plain U)(h1:1≤T.length)(h2:1≤U.length)(hl:T.length≤9000)(hl2:U.length≤9000)(c:Int) : ∃ V,rC [.str (tx T),.str (tx U),.int c]=some (.str (tx V))/\L2.plain V/\V.length≤90000:=by
 have : ∃ d,rC [.str (tx T),.str (tx U),.int c]=some d /\ ∃ V,d = .str (tx V)/\L2.plain V/\V.length≤90000:=by
  refine mJ rfl ?_
  have md : ∀ (k:Int) (n:Nat) (ρ:List (Option aA)) (g:EF),0≤k->k≤1000->0<n->aC 2 ρ=some (.int c)->g ρ=some (.int (n:Int))->eOp bT (aL dA (aF (aC 2) (aF (eC (.int k)) aJ))) g ρ=some (.int (bH c k%n)):=fun k n ρ g h0 h1 hn h hg=>bA (a:=.int (bH c k)) (b:=.int (n:Nat)) (aZ (ds:=[.int c,.int k]) (bW h rfl) (gP c k h0 (by omega))) hg (qH _ n hn)
  refine eE (d:=.int (bH c 7%(6:Nat))) (md 7 6 _ _ (by decide) (by decide) (by decide) rfl rfl) (by simp) ?_
  generalize bH c 7%(6:Nat)=W
  have hb:=eY (bH c 8) (show(0:Int)<((T.length:Nat):Int) by omega)
  obtain⟨at_,ha⟩:=kH hb.1
  have hat:at_<T.length:=by omega
  refine eE (d:=.int at_) ((md 8 T.length _ _ (by decide) (by decide) (by omega) rfl (aZ (ds:=[.str (tx T)]) rfl (len_str (by omega)))).trans (by rw[ha])) (by simp) ?_
  let Q:bE:=[s0 (.str (tx T)),s0 (.str (tx U)),s0 (.int c),s0 (.int W),s0 (.int at_),none,none,none]
  have t : ∀ k:Int,bV .s (bOf (eOp gEq (aC 3) (eC (.int k)))) Q=some (decide (W=k)):=fun k=>gH (bA (a:=.int W) (b:=.int k) rfl rfl (vJ _ _))
  have hlt : ∀ a,(T.take a).length≤9000:=fun a=>by rw[mW]; omega
  have hld : ∀ a,(T.drop a).length≤9000:=fun a=>by rw[uA]; omega
  by_cases w0:W=0
  ·exact fH (eQ ((t 0).trans (by rw[decide_eq_true w0])) (cF (bA (a:=.str (tx (T.take at_))) (b:=.str (tx (T.drop (at_+1)))) (uO (a:=at_) rfl rfl (by omega)) (vL (a:=at_+1) rfl rfl (by omega)) (qN (by have:=hlt at_; have:=hld (at_+1); omega))) ⟨_,rfl,_,rfl,_,rfl,qO (sV hp _) (sS hp _),by have:=hlt at_; have:=hld (at_+1); rw[fL]; omega⟩))
  refine dG (ρ':=Q) (fC ((t 0).trans (by rw[decide_eq_false w0]))) ?_
  have t3:bV .s (bOf (eOp gLt (aC 3) (eC (.int 3)))) Q=some (decide (W<3)):=gH (bA (a:=.int W) (b:=.int 3) rfl rfl rfl)
  by_cases w3:W<3
  ·refine fH (eQ (t3.trans (by rw[decide_eq_true w3])) ?_)
   have hb2:=eY (bH c 9) (show(0:Int)<(13:Nat) by decide)
   obtain⟨j,hj⟩:=kH hb2.1
   let l:List Nat:=[32,58,44,124,45,48,49,51,55,97,98,110,122]
   have hjl:j<l.length:=by show j<13; omega
   have hs : ∀ x∈l,x<128:=by decide
   have e1:=Lh (S:=" :,|-0137abnz") (l:=l) (by decide +kernel) (by decide) hjl
   have s1:=hs l[j] (GB hjl)
   generalize l[j]=s at *
   have pS:L2.plain [s]:=fun x m=>by rw[dX.mp m]; exact s1
   refine eE (d:=.str (tx [s])) (bA (a:=.str " :,|-0137abnz") (b:=.int j) rfl ((md 9 13 _ _ (by decide) (by decide) (by decide) rfl rfl).trans (by rw[hj])) e1) (show 5<8 by decide) ?_
   exact cF (bA (a:=.str (tx (T.take at_++[s]))) (b:=.str (tx (T.drop at_))) (bA (a:=.str (tx (T.take at_))) (b:=.str (tx [s])) (uO (a:=at_) rfl rfl (by omega)) rfl (qN (by have:=hlt at_; rw[xJ]; omega))) (vL (a:=at_) rfl rfl (by omega)) (qN (by have:=hlt at_; have:=hld at_; rw[fL,xJ]; omega))) ⟨_,rfl,_,rfl,_,rfl,qO (qO (sV hp _) pS) (sS hp _),by have:=hlt at_; have:=hld at_; rw[fL,fL,xJ]; omega⟩
  refine dG (ρ':=Q) (fC (t3.trans (by rw[decide_eq_false w3]))) ?_
  by_cases w33:W=3
  ·refine fH (eQ ((t 3).trans (by rw[decide_eq_true w33])) ?_)
   let V:List Nat:=(T.take (at_+2)).drop at_
   have hV:V.length≤9000:=by show((T.take (at_+2)).drop at_).length≤9000; rw[uA]; have:=hlt (at_+2); omega
   have pV:L2.plain V:=sS (sV hp _) _
   refine eE (d:=.str (tx V)) (Ii (a:=at_) (b:=at_+2) rfl rfl rfl (by omega)) (show 6<8 by decide) ?_
   have v1:(V.drop 1).length≤9000:=by rw[uA]; omega
   have v2:(V.take 1).length≤9000:=by rw[mW]; omega
   exact cF (bA (a:=.str (tx (T.take at_++V.drop 1++V.take 1))) (b:=.str (tx (T.drop (at_+2)))) (bA (a:=.str (tx (T.take at_++V.drop 1))) (b:=.str (tx (V.take 1))) (bA (a:=.str (tx (T.take at_))) (b:=.str (tx (V.drop 1))) (uO (a:=at_) rfl rfl (by omega)) (vL (a:=1) rfl rfl (by omega)) (qN (by have:=hlt at_; omega))) (uO (a:=1) rfl rfl (by omega)) (qN (by have:=hlt at_; rw[fL]; omega))) (vL (a:=at_+2) rfl rfl (by omega)) (qN (by have:=hlt at_; have:=hld (at_+2); rw[fL,fL]; omega))) ⟨_,rfl,_,rfl,_,rfl,qO (qO (qO (sV hp _) (sS pV _)) (sV pV _)) (sS hp _),by have:=hlt at_; have:=hld (at_+2); rw[fL,fL,fL]; omega⟩
  refine dG (ρ':=Q) (fC ((t 3).trans (by rw[decide_eq_false w33]))) ?_
  by_cases w4:W=4
  ·refine fH (eQ ((t 4).trans (by rw[decide_eq_true w4])) ?_)
   have hb2:=eY (bH c 10) (show(0:Int)<(9:Nat) by decide)
   obtain⟨j,hj⟩:=kH hb2.1
   refine eE (d:=.int j) ((md 10 9 _ _ (by decide) (by decide) (by decide) rfl rfl).trans (by rw[hj])) (show 7<8 by decide) ?_
   exact cF (bA (a:=.str (tx (T.take (at_+j)))) (b:=.str (tx (T.drop at_))) (uO (a:=at_+j) rfl rfl (by omega)) (vL (a:=at_) rfl rfl (by omega)) (qN (by have:=hlt (at_+j); have:=hld at_; omega))) ⟨_,rfl,_,rfl,_,rfl,qO (sV hp _) (sS hp _),by have:=hlt (at_+j); have:=hld at_; rw[fL]; omega⟩
  refine dG (ρ':=Q) (fC ((t 4).trans (by rw[decide_eq_false w4]))) ?_
  have hb2:=eY (bH c 11) (show(0:Int)<((U.length:Nat):Int) by omega)
  obtain⟨j,hj⟩:=kH hb2.1
  have ej:eOp bT (aL dA (aF (aC 2) (aF (eC (.int 11)) aJ))) (aL cI (aF (aC 1) aJ)) (vS Q)=some (.int (j:Int)):=(md 11 U.length _ _ (by decide) (by decide) (by omega) rfl (aZ (ds:=[.str (tx U)]) rfl (len_str (by omega)))).trans (by rw[hj])
  exact cF (bA (a:=.str (tx (T.take at_))) (b:=.str (tx (U.drop j))) (uO (a:=at_) rfl rfl (by omega)) (vL (a:=j) rfl ej (by omega)) (qN (by have:=hlt at_; rw[uA]; omega))) ⟨_,rfl,_,rfl,qO (sV hp _) (sS hu _),by have:=hlt at_; rw[fL,uA]; omega⟩
 obtain⟨d,e,V,rfl,h⟩:=this
 exact⟨V,e,h⟩
theorem PC {a b:aO}(h:kD a=kD b):a=b:=by
 cases a <;> cases b <;> simp[kD] at h <;> rw[h]
theorem RI {a b:Al}(h:bK a=bK b):a=b:=by
 obtain⟨h1,l1⟩:=a
 obtain⟨h2,l2⟩:=b
 unfold bK at h
 have e1:tK h1=tK h2/\lsD l1=lsD l2:=by simpa using h
 have e2:h1=h2:=(BB fun x y q=>PC q).mp (FS e1.1)
 have e3:l1=l2:=(BB fun(x y:Ln) (q:bG x=bG y)=>by
  obtain⟨x1,x2⟩:=x
  obtain⟨y1,y2⟩:=y
  have q:x1=y1/\x2.map kD=y2.map kD:=by simpa [bG] using q
  rw[q.1,(BB fun x y q=>PC q).mp q.2]).mp (FS e1.2)
 rw[e2,e3]
theorem Gr {as bs:List Al}(A:GQ as)(B:GQ bs)(h:qT as=qT bs):as=bs:=by
 have e1:=JC A.w A.few
 have e2:=JC B.w B.few
 rw[h,e2] at e1
 exact((BB fun x y q=>RI q).mp (PyData.list.inj (gU e1))).symm
theorem Ny {a:Al}(A:AltW a):bF (bK a)=true:=by
 have h1:=OM A.tms
 have h2:cG (a.2.map bG)=true:=CN fun t m=>by
  obtain⟨l,ml,rfl⟩:=bP.mp m
  exact Nq (A.lns l ml)
 simp[bK,bF,cG,h1,h2]
theorem NV {as bs:List Al}(A:GQ as)(B:GQ bs):gEq (.list (as.map bK)) (.list (bs.map bK))=some (.bool (decide (as=bs))):=by
 have ok : ∀ as:List Al,eA (.list (as.map bK))=true:=fun as=>by
  have h1:noDicts (as.map bK)=true:=yY fun t m=>by
   obtain⟨a,_,rfl⟩:=bP.mp m
   exact(SW a).2
  have h2:dJ (as.map bK)≤10:=DJ fun t m=>by
   obtain⟨a,_,rfl⟩:=bP.mp m
   exact(SW a).1
  simp[eA,noDict,h1,gA]
  omega
 have kd : ∀ {as:List Al},GQ as->cG (as.map bK)=true:=fun G=>CN fun t m=>by
  obtain⟨a,ma,rfl⟩:=bP.mp m
  exact Ny (G.w a ma)
 show(if (eA (.list (as.map bK))&&eA (.list (bs.map bK)))=true then some (eO (cV (.list (as.map bK)) (.list (bs.map bK)))) else none)=_
 rw[ok,ok]
 have e:=DH _ _ (kd A) (kd B)
 have:cV (.list (as.map bK)) (.list (bs.map bK))=decide (as=bs):=by
  simp only[cV]
  rw[e,decide_eq_decide]
  exact BB fun x y q=>RI q
 rw[this]
 rfl
theorem RF {as:List Al}(A:GQ as):L2.plain (qT as)/\1≤(qT as).length/\(qT as).length≤9000:=by
 have h3:=XW A.w A.few
 refine⟨?_,?_,by omega⟩
 ·unfold qT
  split
  ·unfold L2.plain; decide
  ·intro c m
   rcases DC m with q | ⟨w,mw,q⟩
   ·simp at q; omega
   ·obtain⟨a,ma,rfl⟩:=bP.mp mw
    exact LJ (KG (A.w a ma) q)
 ·unfold qT
  split
  ·simp
  ·rename_i hn
   obtain⟨a,r,rfl⟩:=MO hn
   have:58∈eJ a:=by simp[eJ]
   cases r with
   | nil=>exact List.length_pos_of_mem this
   | cons b r=>exact List.length_pos_of_mem (tZ _ this)
theorem Eb {ts:List (aB×Nat)}{size:Nat}{as:List Al}(G:QG ts size as):GQ as:=by
 refine⟨fun a m=>⟨⟨(G.alt a m).tms,(G.alt a m).hd4,(G.alt a m).good,(G.alt a m).few⟩,(G.alt a m).std,SQ (G.alt a m).tab (G.alt a m).lin⟩,G.few,fun x mx y my=>(G.len x mx).trans (G.len y my).symm,?_⟩
 by_cases q:as=[]
 ·rw[q]
  intro l m
  simp[kO] at m
 ·obtain⟨a,r,rfl⟩:=MO q
  exact SQ (G.alt a bQ).tab fun l m=>by
   obtain⟨x,mx,ml⟩:=BA.mp m
   exact(G.alt x mx).lin l ml
theorem Zi {ls:List Ln}(h : ∀ l∈ls,l.2.length≤6):(kM ls).length≤6*ls.length:=by
 induction ls with
 | nil=>simp[kM]
 | cons l r ih=>
  have h1:=h l bQ
  have h2:=ih fun x m=>h x (cA _ m)
  have e:(kM (l::r)).length=l.2.length+(kM r).length:=by simp[kM]
  rw[e,fI]
  omega
theorem WQ {ns:List Int}{st:Nat}(hs:st≤100) : ∃ as:List Al,tJ [.list (ns.map cO),.int st]=some (.list (as.map bK))/\GQ as:=by
 have : ∃ d,tJ [.list (ns.map cO),.int st]=some d /\ ∃ as:List Al,d = .list (as.map bK)/\GQ as:=by
  refine mJ rfl ?_
  let S:L2.Slot:=s0 (.list (ns.map cO))
  let ST:L2.Slot:=s0 (.int st)
  obtain⟨c,ec⟩:=qP (ns:=ns) (k:=(st:Int)) (by omega) (by omega)
  obtain⟨c1,ec1⟩:=qP (ns:=ns) (k:=1) (by omega) (by omega)
  refine eE (d:=.int c) (aZ (ds:=[.list (ns.map cO),.int st]) rfl ec) (by simp) ?_
  obtain⟨zs,ez,hzl,hz,_⟩:=QK c1 (n:=3) (by omega)
  refine eE (d:=.list (zs.map bN)) (aZ (ds:=[.int c1,.int (3:Nat)]) (bW (aZ (ds:=[.list (ns.map cO),.int 1]) rfl ec1) rfl) ez) (by simp) ?_
  obtain⟨ts,et,htl,hT⟩:=Ze c1 (n:=3) (by omega)
  refine eE (d:=.list (ts.map eX)) (aZ (ds:=[.int c1,.int (3:Nat)]) (bW (aZ (ds:=[.list (ns.map cO),.int 1]) rfl ec1) rfl) et) (by simp) ?_
  obtain⟨size,hsz⟩:=kH (eY (bH c 5) (show(0:Int)<(4:Nat) by decide)).1
  have hs4:size≤4:=by have:=(eY (bH c 5) (show(0:Int)<(4:Nat) by decide)).2; omega
  refine eE (d:=.int size) (bA (a:=.int (bH c 5)) (b:=.int (4:Nat)) (aZ (ds:=[.int c,.int 5]) rfl (gP c 5 (by decide) (by decide))) rfl ((qH _ 4 (by omega)).trans (by rw[hsz]))) (by simp) ?_
  refine eE (n:=1) (d:=.list []) rfl (by simp) ?_
  obtain⟨n,hn⟩:=kH (eY (bH c 6) (show(0:Int)<(4:Nat) by decide)).1
  have hn3:n≤3:=by have:=(eY (bH c 6) (show(0:Int)<(4:Nat) by decide)).2; omega
  let C:L2.Slot:=s0 (.int c)
  let Z:L2.Slot:=s0 (.list (zs.map bN))
  let TB:L2.Slot:=s0 (.list (ts.map eX))
  let SZ:L2.Slot:=s0 (.int size)
  refine jO (fun ρ'=>∃ (as:List Al) (x7 x8 x9 x10 x11 x12:L2.Slot),(as.length=n/\(∀ a∈as,AltG ts a.1 a.2) /\ ∀ a∈as,a.1.length=size)/\ρ'=[S,ST,C,Z,TB,SZ,some (1,.list (as.map bK)),x7,x8,x9,x10,x11,x12]) ?_ ?_
  ·refine IA (n:=n) (fun i ρ'=>∃ (as:List Al) (x7 x8 x9 x10 x11 x12:L2.Slot),(as.length=i/\(∀ a∈as,AltG ts a.1 a.2) /\ ∀ a∈as,a.1.length=size)/\ρ'=[S,ST,C,Z,TB,SZ,some (1,.list (as.map bK)),x7,x8,x9,x10,x11,x12]) (avS (sP (bW ((bA (a:=.int (bH c 6)) (b:=.int (4:Nat)) (aZ (ds:=[.int c,.int 6]) rfl (gP c 6 (by decide) (by decide))) rfl (qH _ 4 (by omega))).trans (by rw[hn])) rfl) (by omega))) ⟨[],none,none,none,none,none,none,⟨rfl,by simp,by simp⟩,rfl⟩ ?_ ?_
   ·rintro i _ hi ⟨as,x7,x8,x9,x10,x11,x12,⟨h1,h2,h3⟩,rfl⟩
    let AS:L2.Slot:=some (1,.list (as.map bK))
    let I:L2.Slot:=s0 (.int i)
    refine⟨[S,ST,C,Z,TB,SZ,AS,I,x8,x9,x10,x11,x12],rfl,?_⟩
    have est : ∀ (k:Nat) (ρ:List (Option aA)),aC 1 ρ=some (.int st)->aC 7 ρ=some (.int i)->eOp cB (eOp cB (aC 1) (eC (.int k))) (eOp fO (eC (.int 9)) (aC 7)) ρ=some (.int ((st+k+9*i:Nat):Int)):=fun k ρ q1 q2=>bA (a:=.int ((st:Int)+k)) (b:=.int (9*(i:Int))) (bA (a:=.int st) (b:=.int k) q1 rfl rfl) (bA (a:=.int 9) (b:=.int i) rfl q2 (Ea (by decide))) rfl
    obtain⟨e,ee⟩:=qP (ns:=ns) (k:=((st+2+9*i:Nat):Int)) (by omega) (by omega)
    refine eE (d:=.int e) (aZ (ds:=[.list (ns.map cO),.int ((st+2+9*i:Nat):Int)]) (bW rfl (bW (est 2 _ rfl rfl) rfl)) ee) (by simp) ?_
    let E:L2.Slot:=s0 (.int e)
    obtain⟨m,hm⟩:=kH (eY (bH e 25) (show(0:Int)<(4:Nat) by decide)).1
    have hm3:m≤3:=by have:=(eY (bH e 25) (show(0:Int)<(4:Nat) by decide)).2; omega
    obtain⟨ls,els,hls,hL⟩:=Vj (ns:=ns) (ts:=ts) (zs:=zs) (st:=st+3+9*i) (cnt:=m) (by omega) (by omega) (by omega) hT (by omega) hz
    have em:eOp bT (aL dA (aF (aC 8) (aF (eC (.int 25)) aJ))) (eC (.int 4)) (vS [S,ST,C,Z,TB,SZ,AS,I,E,x9,x10,x11,x12])=some (.int (m:Int)):=(bA (a:=.int (bH e 25)) (b:=.int (4:Nat)) (aZ (ds:=[.int e,.int 25]) rfl (gP e 25 (by decide) (by decide))) rfl (qH _ 4 (by omega))).trans (by rw[hm])
    refine eE (d:=.list (ls.map bG)) (aZ (ds:=[lI ns,.int ((st+3+9*i:Nat):Int),.list (ts.map eX),.list (zs.map bN),.int m]) (bW rfl (bW (est 3 _ rfl rfl) (bW rfl (bW rfl (bW em rfl))))) els) (by simp) ?_
    have gl : ∀ l∈ls,LineG l:=fun l m=>(hL l m).good hT
    have hfl:=Zi fun l m=>(gl l m).six
    let LL:L2.Slot:=s0 (.list (ls.map bG))
    have b44:=eY (bH e 44) (show(0:Int)<(9:Nat) by decide)
    let i0:aO:=.inl (bH e 44%(9:Nat) - 4)
    have hi0:hJ i0:=by
     show(bH e 44%(9:Nat) - 4).natAbs<10 ^ 60
     exact MI (show(bH e 44%(9:Nat) - 4).natAbs<1000 by omega) (by decide +kernel)
    refine eE (n:=1) (d:=lK [i0]) (LI (bW (bA (a:=.int (bH e 44%(9:Nat))) (b:=.int 4) (bA (a:=.int (bH e 44)) (b:=.int (9:Nat)) (aZ (ds:=[.int e,.int 44]) rfl (gP e 44 (by decide) (by decide))) rfl (qH _ 9 (by omega))) rfl rfl) rfl) (by simp)) (by simp) ?_
    refine jO (fun ρ'=>∃ x11:L2.Slot,ρ'=[S,ST,C,Z,TB,SZ,AS,I,E,LL,some (1,lK (i0::kM ls)),x11,x12]) ?_ ?_
    ·refine CJ (xs:=ls) (q:=bG) (b0:=([i0]:List aO)) (fun acc l=>acc++l.2) (fun i acc ρ'=>∃ x11:L2.Slot,acc.length≤1+6*i/\ρ'=[S,ST,C,Z,TB,SZ,AS,I,E,LL,some (1,lK acc),x11,x12]) (avS (kA rfl)) ⟨x11,by simp,rfl⟩ ?_ ?_
     ·rintro j l acc _ hx ⟨x11,ha,rfl⟩
      have g:=gl l (iH hx)
      have hj:j<ls.length:=(fN.mp hx).1
      have h6:=g.six
      refine⟨[S,ST,C,Z,TB,SZ,AS,I,E,LL,some (1,lK acc),s0 (bG l),x12],rfl,?_⟩
      exact ZE (ts:=l.2.map kD) (ds:=acc.map kD) (bA (a:=bG l) (b:=.int 1) rfl rfl rfl) rfl (by simp; omega) ⟨_,.inl rfl,_,by simp; omega,by rw[← mV]; rfl⟩
     ·rintro _ ⟨x11,_,rfl⟩
      have gen : ∀ (xs:List Ln) (b:List aO),xs.foldl (fun acc l=>acc++l.2) b=b++kM xs:=fun xs=>by
       induction xs with
       | nil=>intro b; simp[kM]
       | cons x xs ih=>intro b; rw[mX,ih]; simp[kM]
      rw[gen]
      exact⟨_,rfl,x11,rfl⟩
    rintro _ ⟨x11,rfl⟩
    refine vH ?_
    let FL:List aO:=i0::kM ls
    have hFl:FL.length≤31:=by show(i0::kM ls).length≤31; simp; omega
    have hF0:0<FL.length:=by show 0<(i0::kM ls).length; simp
    have hFt : ∀ k∈FL,hJ k:=fun k mk=>by
     rcases cN.mp mk with rfl | mk
     ·exact hi0
     ·obtain⟨l,ml,mk⟩:=BA.mp mk
      exact(gl l ml).tms k mk
    have hv : ∀ j:Nat,∃ k,j<5->(gIx (lK FL) (.int (bH e (40+(j:Int))%(FL.length:Nat)))=some (kD k)/\k∈FL):=fun j=>by
     obtain⟨x,d,hx,ed⟩:=LG (ds:=FL.map kD) (bH e (40+(j:Int))) (by rw[cX]; exact hF0)
     rw[fM] at hx
     obtain⟨k,hk1,rfl⟩:=lG.mp hx
     rw[cX] at ed
     exact⟨k,fun _=>⟨ed,iH hk1⟩⟩
    let V:Nat->aO:=fun j=>(hv j).choose
    have hV : ∀ j:Nat,j<5->(gIx (lK FL) (.int (bH e (40+(j:Int))%(FL.length:Nat)))=some (kD (V j))/\V j∈FL):=fun j=>(hv j).choose_spec
    let hd:List aO:=(cR size).map V
    have lc:=jP (cap:=[none,some 10,some 8]) (fi:=iR1 (aF (aC 5) aJ)) (T:=gB 0) (t:=cQ) (f:=eOp gIx (aC 1) (eOp bT (aL dA (aF (aC 2) (aF (eOp cB (eC (.int 40)) (aC 0)) aJ))) (aL cI (aF (aC 1) aJ)))) (ρ:=vS [S,ST,C,Z,TB,SZ,AS,I,E,LL,s0 (lK FL),x11,x12]) (xs:=cR size) (q:=fun(k:Nat)=>cO k) (fun _=>true) (fun j=>kD (V j)) (sP rfl (by omega)) (by simp; omega) (fun j mj=>by
     have hj:j<5:=by have:=iG.mp mj; omega
     refine⟨[some (.int j),some (lK FL),some (.int e)],rfl,rfl,fun _=>bA (a:=lK FL) (b:=.int (bH e (40+(j:Int))%(FL.length:Nat))) rfl (bA (a:=.int (bH e (40+(j:Int)))) (b:=.int (FL.length:Nat)) (aZ (ds:=[.int e,.int (40+(j:Int))]) rfl (gP e _ (by omega) (by omega))) (aZ (ds:=[lK FL]) rfl (by simp[cI])) (qH _ _ hF0)) (hV j hj).1⟩)
    rw[lL.mpr fun _ _=>rfl] at lc
    have ehd:(cR size).map (fun j=>kD (V j))=hd.map kD:=by show _=((cR size).map V).map kD; rw[fS]; rfl
    rw[ehd] at lc
    refine eE (n:=1) (d:=lK hd) lc (by simp[frz]) ?_
    refine vH ?_
    have hhd:hd.length=size:=by show((cR size).map V).length=size; simp
    have hhm : ∀ k∈hd,k∈FL:=fun k mk=>by
     obtain⟨j,mj,rfl⟩:=bP.mp mk
     exact(hV j (by have:=iG.mp mj; omega)).2
    have hA:AltG ts hd ls:=⟨hT,hL,by omega,by omega,fun k mk=>hFt k (hhm k mk),fun k mk z ez=>by
     rcases cN.mp (hhm k mk) with q | q
     ·exact nomatch (show(tT (bH e 44%(9:Nat) - 4):aO) = .inr z from q.symm.trans ez)
     ·rw[ez] at q; exact Ayy.mpr q⟩
    refine ZQ (d:=bK (hd,ls)) (ds:=as.map bK) (pF (ds:=[tK hd,lsD ls]) (bW (aZ (ds:=[lK hd]) rfl rfl) (bW (aZ (ds:=[.list (ls.map bG)]) rfl rfl) rfl))) rfl (by simp; omega) ⟨_,.inl rfl,as++[(hd,ls)],I,E,LL,s0 (lK FL),x11,s0 (lK hd),⟨by simp[h1],fun x mx=>?_,fun x mx=>?_⟩,by rw[mV]; rfl⟩
    ·rcases iR.mp mx with mx | mx
     ·exact h2 x mx
     ·rw[dX.mp mx]; exact hA
    ·rcases iR.mp mx with mx | mx
     ·exact h3 x mx
     ·rw[dX.mp mx]; exact hhd
   ·rintro _ ⟨as,x7,x8,x9,x10,x11,x12,h,rfl⟩
    exact⟨_,rfl,as,x7,x8,x9,x10,x11,x12,h,rfl⟩
  ·rintro _ ⟨as,x7,x8,x9,x10,x11,x12,⟨h1,h2,h3⟩,rfl⟩
   exact⟨_,rfl,_,rfl,as,rfl,Eb ⟨h2,h3,by omega,hs4⟩⟩
 obtain⟨d,e,as,rfl,h⟩:=this
 exact⟨as,e,h⟩
theorem Gw (ns:List Int)(hl:ns.length≤63):EY [.list (ns.map cO)]=some (.bool true):=by
 have : ∃ d,EY [.list (ns.map cO)]=some d/\d = .bool true:=by
  refine mJ rfl ?_
  let S:L2.Slot:=s0 (.list (ns.map cO))
  obtain⟨as,ea,A⟩:=WQ (ns:=ns) (st:=0) (by omega)
  obtain⟨bs0,eb,B0⟩:=WQ (ns:=ns) (st:=30) (by omega)
  let QA:aA:=.list (as.map bK)
  refine eE (d:=QA) (aZ (ds:=[.list (ns.map cO),.int ((0:Nat):Int)]) rfl ea) (by simp) ?_
  refine eE (d:=.list (bs0.map bK)) (aZ (ds:=[.list (ns.map cO),.int ((30:Nat):Int)]) rfl eb) (by simp) ?_
  obtain⟨c60,ec60⟩:=qP (ns:=ns) (k:=60) (by omega) (by omega)
  obtain⟨c61,ec61⟩:=qP (ns:=ns) (k:=61) (by omega) (by omega)
  obtain⟨c62,ec62⟩:=qP (ns:=ns) (k:=62) (by omega) (by omega)
  have tb:bV .s (bOf (eOp gEq (eOp bT (aL dA (aF (aL fX (aF (aC 0) (aF (eC (.int 60)) aJ))) (aF (eC (.int 12)) aJ))) (eC (.int 3))) (eC (.int 0)))) [S,s0 QA,s0 (.list (bs0.map bK)),none,none,none]=some (decide (bH c60 12%(3:Nat)=0)):=gH (bA (a:=.int (bH c60 12%(3:Nat))) (b:=.int 0) (bA (a:=.int (bH c60 12)) (b:=.int (3:Nat)) (aZ (ds:=[.int c60,.int 12]) (bW (aZ (ds:=[.list (ns.map cO),.int 60]) rfl ec60) rfl) (gP c60 12 (by decide) (by decide))) rfl (qH _ 3 (by omega))) rfl (vJ _ _))
  refine jO (fun ρ'=>∃ bs,GQ bs/\ρ'=[S,s0 QA,s0 (.list (bs.map bK)),none,none,none]) ?_ ?_
  ·by_cases q:bH c60 12%(3:Nat)=0
   ·exact eQ (tb.trans (by rw[decide_eq_true q])) (HP (d:=QA) (aZ (ds:=[QA]) rfl rfl) (by simp) ⟨_,rfl,as,A,rfl⟩)
   ·exact⟨_,fC (tb.trans (by rw[decide_eq_false q])),_,rfl,bs0,B0,rfl⟩
  rintro _ ⟨bs,B,rfl⟩
  let QB:aA:=.list (bs.map bK)
  let TA:aA:=.str (tx (qT as))
  let TB:aA:=.str (tx (qT bs))
  let TS:aA:=.list [TA,TB]
  refine eE (d:=TS) (LI (bW (aZ (ds:=[QA]) rfl (yM A.w A.few)) (bW (aZ (ds:=[QB]) rfl (yM B.w B.few)) rfl)) (by simp)) (by simp) ?_
  let R:L2.Slot->L2.Slot->bE:=fun x4 x5=>[S,s0 QA,s0 QB,s0 TS,x4,x5]
  have hd:decide (tx (qT as)=tx (qT bs))=decide (as=bs):=decide_eq_decide.mpr ⟨fun q=>Gr A B (uX q),fun q=>by rw[q]⟩
  have e1:bV .s (bOf (eOp gNe (eOp gEq (eOp gIx (aC 3) (eC (.int 0))) (eOp gIx (aC 3) (eC (.int 1)))) (eOp gEq (aC 1) (aC 2)))) (R none none)=some false:=by
   refine gH (bA (a:=.bool (decide (as=bs))) (b:=.bool (decide (as=bs))) (bA (a:=TA) (b:=TB) (bA (a:=TS) (b:=.int 0) rfl rfl rfl) (bA (a:=TS) (b:=.int 1) rfl rfl rfl) ((qQ _ _).trans (by rw[hd]))) (bA (a:=QA) (b:=QB) rfl rfl (NV A B)) ?_)
   cases decide (as=bs) <;> rfl
  refine dG (ρ':=R none none) (fC e1) ?_
  have hqa:=RF A
  have hqb:=RF B
  refine jO (fun ρ'=>∃ x4 x5,ρ'=R x4 x5) ?_ ?_
  ·let D:List aA:=[.int c61,.int c62]++(ns.map cO).take 22
   have hD : ∀ d∈D,∃ c,d = .int c:=fun d m=>by
    rcases iR.mp m with m | m
    ·simp only[cN,Bq,or_false] at m
     rcases m with rfl | rfl
     ·exact⟨_,rfl⟩
     ·exact⟨_,rfl⟩
    ·obtain⟨c,_,rfl⟩:=bP.mp (FZ m)
     exact⟨c,rfl⟩
   have eD:iIt (eOp xX (lN (aF (aL fX (aF (aC 0) (aF (eC (.int 61)) aJ))) (aF (aL fX (aF (aC 0) (aF (eC (.int 62)) aJ))) aJ))) (kL (aC 0) oN (oS (eC (.int 22))))) (vS (R none none))=some D:=by
    refine kA (bA (a:=.list [.int c61,.int c62]) (b:=.list ((ns.map cO).take 22)) (LI (bW (aZ (ds:=[.list (ns.map cO),.int 61]) rfl ec61) (bW (aZ (ds:=[.list (ns.map cO),.int 62]) rfl ec62) rfl)) (by simp)) ?_ ?_)
    ·rw[yA (ds:=ns.map cO) (l:=none) (u:=some ((22:Nat):Int)) rfl rfl rfl,Hb]
    ·exact Nc (by simp; omega)
   refine CC (ds:=D) (fun _ ρ'=>∃ x4 x5,ρ'=R x4 x5) (avS eD) ⟨none,none,rfl⟩ ?_ ?_
   ·rintro i d _ hd ⟨x4,x5,rfl⟩
    obtain⟨c,rfl⟩:=hD d (iH hd)
    refine⟨R (s0 (.int c)) x5,rfl,?_⟩
    obtain⟨w,hw⟩:=kH (eY (bH c 13) (show(0:Int)<(2:Nat) by decide)).1
    have hw2:w<2:=by have:=(eY (bH c 13) (show(0:Int)<(2:Nat) by decide)).2; omega
    refine eE (d:=.int w) ((bA (a:=.int (bH c 13)) (b:=.int (2:Nat)) (aZ (ds:=[.int c,.int 13]) rfl (gP c 13 (by decide) (by decide))) rfl (qH _ 2 (by omega))).trans (by rw[hw])) (show 5<6 by decide) ?_
    have key : ∀ (T U:List Nat),(L2.plain T/\1≤T.length/\T.length≤9000)->(L2.plain U/\1≤U.length/\U.length≤9000)->gIx TS (.int (w:Int))=some (.str (tx T))->gIx TS (.int (1 - (w:Int)))=some (.str (tx U))->bV .s (eK (bOf (aL rA (aF (aL rC (aF (eOp gIx (aC 3) (aC 5)) (aF (eOp gIx (aC 3) (eOp nD (eC (.int 1)) (aC 5))) (aF (aC 4) aJ)))) aJ)))) (R (s0 (.int c)) (s0 (.int w)))=some (!true):=fun T U hT hU iT iU=>by
     obtain⟨V,eV,pV,lV⟩:=Pc hT.1 hU.1 hT.2.1 hU.2.1 hT.2.2 hU.2.2 c
     exact kQ (x:=true) (ρ:=vS (R (s0 (.int c)) (s0 (.int w)))) (aZ (ds:=[.str (tx V)]) (bW (aZ (ds:=[.str (tx T),.str (tx U),.int c]) (bW (bA (a:=TS) (b:=.int (w:Int)) rfl rfl iT) (bW (bA (a:=TS) (b:=.int (1 - (w:Int))) rfl (bA (a:=.int 1) (b:=.int w) rfl rfl rfl) iU) rfl)) eV) rfl) (RE pV lV))
    have fin:bV .s (eK (bOf (aL rA (aF (aL rC (aF (eOp gIx (aC 3) (aC 5)) (aF (eOp gIx (aC 3) (eOp nD (eC (.int 1)) (aC 5))) (aF (aC 4) aJ)))) aJ)))) (R (s0 (.int c)) (s0 (.int w)))=some (!true):=by
     rcases(show w=0 \/ w=1 by omega) with rfl | rfl
     ·exact key (qT as) (qT bs) hqa hqb rfl rfl
     ·exact key (qT bs) (qT as) hqb hqa rfl rfl
    exact⟨_,fC fin,_,.inl rfl,_,_,rfl⟩
   ·rintro _ ⟨x4,x5,rfl⟩
    exact⟨_,rfl,x4,x5,rfl⟩
  rintro _ ⟨x4,x5,rfl⟩
  refine cF (d:=.bool (true&&true)) (oD (aZ (ds:=[TA]) (bW (bA (a:=TS) (b:=.int 0) rfl rfl rfl) rfl) (RE hqa.1 (by omega))) fun _=>bA (a:=QB) (b:=QB) (aZ (ds:=[TB]) (bW (bA (a:=TS) (b:=.int 1) rfl rfl rfl) rfl) (IS none B)) rfl ((NV B B).trans (by simp))) ⟨_,rfl,rfl⟩
 obtain⟨d,e,rfl⟩:=this
 exact e
noncomputable def EV (K:aK):Sp:=fun vs H Q _=>∃ (a:aD) (ns:List Int),vs=[.ref a]/\SqL K H a (ns.map V.int)/\ns.length≤63 /\ ∀ H',Q (.bl true) H'
theorem Ho {K:aK} : ∀ vs H Q E,EV K vs H Q E->spF K 0 EY vs H Q E:=fun vs H Q E gh=>by
 obtain⟨a,ns,ev,hS,hl,k⟩:=gh
 subst ev
 have e0:hid H (fun _=>False)=H:=by
  funext b
  unfold hid
  rw[if_neg (fun z=>z)]
 refine⟨fun _=>False,[.list (ns.map cO)],.bool true,fun _ z=>z.elim,?_,Gw ns hl,dB fun v H' _ r=>?_⟩
 ·rw[e0]
  exact Aao.mpr ⟨_,_,rfl,Abp.mpr ⟨a,_,rfl,hS,UL ns⟩,Aax.mpr rfl⟩
 ·rw[Aas.mp r]
  exact k H'
def Hl (K:aK)(n:aB)(st:bR)(f:aD):Prop:=∃ (od an:Option aD) (sl:Array (Option aE)) (oc kV dc pm cd ct:aE),dE K cK n=some (some (.ref f))/\K.lookup f=some ⟨oc,od,.func (lF n n (mB st) (jG st) (bJ st) .none kV dc pm an cd ct),sl⟩/\AO K cd n=true/\rL K (.ref f)=true
def Hs (K:aK)(n:aB)(st:bR)(f:aD):Prop:=∃ fd,Fun K n n st f fd/\dE K cK n=some (some (.ref f))/\rL K (.ref f)=true
section
variable {K:aK}{n:aB}{st:bR}{f:aD}
theorem Bhs {od an:Option aD}{sl:Array (Option aE)}{oc kV dc pm cd ct:aE}(a:dE K cK n=some (some (.ref f)))(l:K.lookup f=some ⟨oc,od,.func (lF n n (mB st) (jG st) (bJ st) .none kV dc pm an cd ct),sl⟩)(c:AO K cd n=true)(k:rL K (.ref f)=true):Hl K n st f:=⟨_,_,_,_,_,_,_,_,_,a,l,c,k⟩
theorem Adc {od an:Option aD}{sl:Array (Option aE)}{oc kV dc pm cd ct:aE}(a:dE K cK n=some (some (.ref f)))(l:K.lookup f=some ⟨oc,od,.func (lF n n (mB st) (jG st) (bJ st) .none kV dc pm an cd ct),sl⟩)(c:AO K cd n=true)(k:rL K (.ref f)=true):Hs K n st f:=⟨_,PH (st:=st) l c k,a,k⟩
noncomputable def Hs.fd (h:Hs K n st f):gD:=Classical.choose h
theorem Hs.fn (h:Hs K n st f):Fun K n n st f h.fd:=(GG h).1
theorem Hs.dfX {P:bS}{w:bB}{mg:aB->Option aE}{h base:aU}{k:Nat}{ps:List aB}{sp:Sp}(X:K.In h)(G:h.Ns cK mg)(H:Hs K n st f)(ok:FnOk P w K mg base (CXR base P w) k f H.fd ps sp)(b:Binds K H.fd ps []):DefX P w K mg base n k ps sp:=⟨_,_,ok,lE X G (GG H).2.1,(GG H).2.2,b⟩
theorem Hs.fv (h:Hs K n st f):zX K n:=h.elim fun _ x=>⟨_,x.2.1⟩
theorem Hs.df {P:bS}{w:bB}{mg:aB->Option aE}{h base:aU}{k:Nat}{ps:List aB}{sp:Sp}(X:K.In h)(G:h.Ns cK mg)(H:Hs K n st f)(ok:FnOk P w K mg base CX0 k f H.fd ps sp)(b:Binds K H.fd ps []):Def P w K mg base n k ps sp:=⟨_,_,ok,lE X G (GG H).2.1,(GG H).2.2,b⟩
end
theorem kB {us:List aE}{n:Nat}(h:us.length=n+1) : ∃ a r,us=a::r/\r.length=n:=by
 cases us with
 | nil=>exact absurd h (by simp)
 | cons a r=>exact⟨a,r,rfl,Nat.succ.inj h⟩
theorem fJ {K:aK}{x qual:aB}{st:bR}{f:aD}{fd:gD}{ps:List aB}(F:Fun K x qual st f fd)(hp:ps.length=1)(h : ∀ (kV doc pm:aE) (an:Option aD) (cdv ct:aE) a,xD (lF x qual (mB st) (jG st) (bJ st) .none kV doc pm an cdv ct) ⟨[a],[]⟩=pure (ps.zip [a])):Binds K fd ps []:=F.binds fun kV doc pm an cdv ct u0 hl=>by
 have g0:=hl.trans hp
 clear hl
 obtain⟨a,u1,rfl,g1⟩:=kB g0
 cases uC g1
 exact h kV doc pm an cdv ct a
theorem sE {K:aK}{x qual:aB}{st:bR}{f:aD}{fd:gD}{ps:List aB}(F:Fun K x qual st f fd)(hp:ps.length=2)(h : ∀ (kV doc pm:aE) (an:Option aD) (cdv ct:aE) a b,xD (lF x qual (mB st) (jG st) (bJ st) .none kV doc pm an cdv ct) ⟨[a,b],[]⟩=pure (ps.zip [a,b])):Binds K fd ps []:=F.binds fun kV doc pm an cdv ct u0 hl=>by
 have g0:=hl.trans hp
 clear hl
 obtain⟨a,u1,rfl,g1⟩:=kB g0
 obtain⟨b,u2,rfl,g2⟩:=kB g1
 cases uC g2
 exact h kV doc pm an cdv ct a b
theorem NU {K:aK}{x qual:aB}{st:bR}{f:aD}{fd:gD}{ps:List aB}(F:Fun K x qual st f fd)(hp:ps.length=3)(h : ∀ (kV doc pm:aE) (an:Option aD) (cdv ct:aE) a b c,xD (lF x qual (mB st) (jG st) (bJ st) .none kV doc pm an cdv ct) ⟨[a,b,c],[]⟩=pure (ps.zip [a,b,c])):Binds K fd ps []:=F.binds fun kV doc pm an cdv ct u0 hl=>by
 have g0:=hl.trans hp
 clear hl
 obtain⟨a,u1,rfl,g1⟩:=kB g0
 obtain⟨b,u2,rfl,g2⟩:=kB g1
 obtain⟨c,u3,rfl,g3⟩:=kB g2
 cases uC g3
 exact h kV doc pm an cdv ct a b c
theorem Ds {K:aK}{x qual:aB}{st:bR}{f:aD}{fd:gD}{ps:List aB}(F:Fun K x qual st f fd)(hp:ps.length=4)(h : ∀ (kV doc pm:aE) (an:Option aD) (cdv ct:aE) a b c d,xD (lF x qual (mB st) (jG st) (bJ st) .none kV doc pm an cdv ct) ⟨[a,b,c,d],[]⟩=pure (ps.zip [a,b,c,d])):Binds K fd ps []:=F.binds fun kV doc pm an cdv ct u0 hl=>by
 have g0:=hl.trans hp
 clear hl
 obtain⟨a,u1,rfl,g1⟩:=kB g0
 obtain⟨b,u2,rfl,g2⟩:=kB g1
 obtain⟨c,u3,rfl,g3⟩:=kB g2
 obtain⟨d,u4,rfl,g4⟩:=kB g3
 cases uC g4
 exact h kV doc pm an cdv ct a b c d
theorem Cw {K:aK}{x qual:aB}{st:bR}{f:aD}{fd:gD}{ps:List aB}(F:Fun K x qual st f fd)(hp:ps.length=5)(h : ∀ (kV doc pm:aE) (an:Option aD) (cdv ct:aE) a b c d e,xD (lF x qual (mB st) (jG st) (bJ st) .none kV doc pm an cdv ct) ⟨[a,b,c,d,e],[]⟩=pure (ps.zip [a,b,c,d,e])):Binds K fd ps []:=F.binds fun kV doc pm an cdv ct u0 hl=>by
 have g0:=hl.trans hp
 clear hl
 obtain⟨a,u1,rfl,g1⟩:=kB g0
 obtain⟨b,u2,rfl,g2⟩:=kB g1
 obtain⟨c,u3,rfl,g3⟩:=kB g2
 obtain⟨d,u4,rfl,g4⟩:=kB g3
 obtain⟨e,u5,rfl,g5⟩:=kB g4
 cases uC g5
 exact h kV doc pm an cdv ct a b c d e
set_option maxHeartbeats 4000000 in
theorem all_mk {l:Bb}{w:bB}{K:aK}{h:aU}{mg:aB->Option aE}{fa f_is_whole f_is_name f_is_pair f_of_one_length f_names_of f_tables_of f_show_words f_whole_of f__law_cell f__law_mix f_is_number f_of_one_width f_stands_in f_show_line f_term_of f__law_names f__law_term f__law_changed f_is_term f_show_alternative f_terms_of f__law_tables f__law_lines f_are_terms f_show_question f_line_of f__law_question f_is_line f_alternative_of f_are_lines f_question_of f_is_alternative f_is_question f_read_by f_read_question f__law_holds f_law:aD}(X:K.In h)(G:h.Ns cK mg)(hfa:mg "law" = some (.ref fa)){t_LETTERS t_FIGURES t_MOST_SIGNS t_MOST_TERMS t_MOST_HEAD_TERMS t_MOST_LINES t_MOST_ALTERNATIVES t_MOST_FIGURES:Tok}
  (h_is_whole:Hs K "is_whole" KB f_is_whole) (h_is_name:Hs K "is_name" DM f_is_name) (h_is_pair:Hs K "is_pair" JS f_is_pair) (h_of_one_length:Hs K "of_one_length" EM f_of_one_length) (h_names_of:Hs K "names_of" KA f_names_of) (h_tables_of:Hs K "tables_of" DZ f_tables_of) (h_show_words:Hs K "show_words" EE f_show_words) (h_whole_of:Hs K "whole_of" DU f_whole_of) (h__law_cell:Hs K "_law_cell" KL f__law_cell) (h__law_mix:Hs K "_law_mix" KD f__law_mix) (h_is_number:Hs K "is_number" KJ f_is_number) (h_of_one_width:Hs K "of_one_width" EL f_of_one_width) (h_stands_in:Hs K "stands_in" EB f_stands_in) (h_show_line:Hs K "show_line" KM f_show_line) (h_term_of:Hs K "term_of" JW f_term_of) (h__law_names:Hs K "_law_names" wD f__law_names) (h__law_term:Hs K "_law_term" KO f__law_term) (h__law_changed:Hs K "_law_changed" KW f__law_changed) (h_is_term:Hs K "is_term" JF f_is_term) (h_show_alternative:Hs K "show_alternative" EO f_show_alternative) (h_terms_of:Hs K "terms_of" DR f_terms_of) (h__law_tables:Hs K "_law_tables" KR f__law_tables) (h__law_lines:Hs K "_law_lines" zF f__law_lines) (h_are_terms:Hs K "are_terms" DY f_are_terms) (h_show_question:Hs K "show_question" EN f_show_question) (h_line_of:Hs K "line_of" JV f_line_of) (h__law_question:Hs K "_law_question" zS f__law_question) (h_is_line:Hs K "is_line" JE f_is_line) (h_alternative_of:Hs K "alternative_of" ER f_alternative_of) (h_are_lines:Hs K "are_lines" EA f_are_lines) (h_question_of:Hs K "question_of" EI f_question_of) (h_is_alternative:Hs K "is_alternative" KY f_is_alternative) (h_is_question:Hs K "is_question" zL f_is_question) (h_read_by:Hs K "read_by" JQ f_read_by) (h_read_question:Hs K "read_question" LA f_read_question) (h__law_holds:Hs K "_law_holds" KU f__law_holds) (h_law:Hl K "law" sI f_law)
  {c_NoText:aD} (y_NoText:dE K cK "NoText" = some (some (.ref c_NoText)))
  (x_NoText:MC K c_NoText [.type "ValueError",.type "Exception",.type "BaseException",.type "object"] "ValueError.__new__" = true) (xc:XCls K c_NoText)
  (e_NoText:FQ K (.ref c_NoText) (.ref c_NoText)=some true)
  (z_isinstance:dE K cK "isinstance" = some none) (z_int:dE K cK "int" = some none) (z_bool:dE K cK "bool" = some none) (z_abs:dE K cK "abs" = some none) (z_range:dE K cK "range" = some none) (z_len:dE K cK "len" = some none) (z_str:dE K cK "str" = some none) (z_all:dE K cK "all" = some none) (z_any:dE K cK "any" = some none) (z_list:dE K cK "list" = some none) (z_tuple:dE K cK "tuple" = some none) (z_dict:dE K cK "dict" = some none) (z_set:dE K cK "set" = some none) (z_sorted:dE K cK "sorted" = some none) (z_sum:dE K cK "sum" = some none) (z_min:dE K cK "min" = some none) (z_max:dE K cK "max" = some none) (z_enumerate:dE K cK "enumerate" = some none) (z_zip:dE K cK "zip" = some none) (z_reversed:dE K cK "reversed" = some none) (z_ValueError:dE K cK "ValueError" = some none) (g_LETTERS:dE K cK "LETTERS" = some (some (.str "abcdefghijklmnopqrstuvwxyz" t_LETTERS))) (g_FIGURES:dE K cK "FIGURES" = some (some (.str "0123456789" t_FIGURES))) (g_MOST_SIGNS:dE K cK "MOST_SIGNS" = some (some (.int 12 t_MOST_SIGNS))) (g_MOST_TERMS:dE K cK "MOST_TERMS" = some (some (.int 6 t_MOST_TERMS))) (g_MOST_HEAD_TERMS:dE K cK "MOST_HEAD_TERMS" = some (some (.int 4 t_MOST_HEAD_TERMS))) (g_MOST_LINES:dE K cK "MOST_LINES" = some (some (.int 5 t_MOST_LINES))) (g_MOST_ALTERNATIVES:dE K cK "MOST_ALTERNATIVES" = some (some (.int 3 t_MOST_ALTERNATIVES))) (g_MOST_FIGURES:dE K cK "MOST_FIGURES" = some (some (.int 70 t_MOST_FIGURES))) :
  ∃ fd:gD,(∀ (s:aG) (v:aE),xQ s fd ⟨[v],[]⟩ [("_law_script",v)]) /\ ∀ base:aU,K.In base->base.Ns cK mg->FnOk l.prog w K mg base CX0 12 fa fd ["_law_script"] (EV K):=by
 obtain⟨_,an_law,_,_,kV_law,dc_law,pm_law,cd_law,ct_law,a_law,l_law,c_law,k_law⟩:=h_law
 have e:=hfa.symm.trans (lE X G a_law)
 cases e
 have B:Blt mg:=⟨iF X G z_isinstance,iF X G z_int,iF X G z_bool,iF X G z_abs,iF X G z_range,iF X G z_len,iF X G z_str,iF X G z_all,iF X G z_any,iF X G z_list,iF X G z_tuple,iF X G z_dict,iF X G z_set,iF X G z_sorted,iF X G z_sum,iF X G z_min,iF X G z_max,iF X G z_enumerate,iF X G z_zip,iF X G z_reversed,iF X G z_ValueError⟩
 have C:Cst mg:=⟨⟨_,lE X G g_LETTERS⟩,⟨_,lE X G g_FIGURES⟩,⟨_,lE X G g_MOST_SIGNS⟩,⟨_,lE X G g_MOST_TERMS⟩,⟨_,lE X G g_MOST_HEAD_TERMS⟩,⟨_,lE X G g_MOST_LINES⟩,⟨_,lE X G g_MOST_ALTERNATIVES⟩,⟨_,lE X G g_MOST_FIGURES⟩⟩
 have V:Xcs K mg:=⟨⟨_,y_NoText,x_NoText⟩,h_show_question.fv,h_is_question.fv,h_question_of.fv,⟨_,_,y_NoText,lE X G y_NoText,e_NoText⟩⟩
 refine⟨lF "law" "law" (mB sI) (jG sI) (bJ sI) .none kV_law dc_law pm_law an_law cd_law ct_law,fun s v=>.of_eq rfl,fun base _ _=>?_⟩
 have D_is_whole:Def l.prog w K mg base "is_whole" 1 zC (spF K 0 vX):=h_is_whole.df X G (Qi h_is_whole.fn B C V ) (fJ h_is_whole.fn (ps:=zC) rfl fun _ _ _ _ _ _ _=>rfl)
 have D_is_name:Def l.prog w K mg base "is_name" 1 vR (spF K 0 kU):=h_is_name.df X G (Nu h_is_name.fn B C V ) (fJ h_is_name.fn (ps:=vR) rfl fun _ _ _ _ _ _ _=>rfl)
 have D_is_pair:Def l.prog w K mg base "is_pair" 1 vW (spF K 0 qX):=h_is_pair.df X G (Pl h_is_pair.fn B C V ) (fJ h_is_pair.fn (ps:=vW) rfl fun _ _ _ _ _ _ _=>rfl)
 have D_of_one_length:Def l.prog w K mg base "of_one_length" 1 zQ (spF K 0 zR):=h_of_one_length.df X G (Ti h_of_one_length.fn B C V ) (fJ h_of_one_length.fn (ps:=zQ) rfl fun _ _ _ _ _ _ _=>rfl)
 have D_names_of:Def l.prog w K mg base "names_of" 1 yW (spF K 1 wA):=h_names_of.df X G (Rf h_names_of.fn B C V ) (fJ h_names_of.fn (ps:=yW) rfl fun _ _ _ _ _ _ _=>rfl)
 have D_tables_of:Def l.prog w K mg base "tables_of" 1 zB (spF K 0 wH):=h_tables_of.df X G (Rr h_tables_of.fn B C V ) (fJ h_tables_of.fn (ps:=zB) rfl fun _ _ _ _ _ _ _=>rfl)
 have D_show_words:Def l.prog w K mg base "show_words" 1 wG (spF K 0 tH):=h_show_words.df X G (Sd h_show_words.fn B C V ) (fJ h_show_words.fn (ps:=wG) rfl fun _ _ _ _ _ _ _=>rfl)
 have D_whole_of:Def l.prog w K mg base "whole_of" 1 yX (spF K 0 vY):=h_whole_of.df X G (Qe h_whole_of.fn B C V ) (fJ h_whole_of.fn (ps:=yX) rfl fun _ _ _ _ _ _ _=>rfl)
 have D__law_cell:Def l.prog w K mg base "_law_cell" 1 sZ (spF K 0 fX):=h__law_cell.df X G (Rp h__law_cell.fn B C V ) (sE h__law_cell.fn (ps:=sZ) rfl fun _ _ _ _ _ _ _ _=>rfl)
 have D__law_mix:Def l.prog w K mg base "_law_mix" 1 nJ (spF K 0 dA):=h__law_mix.df X G (Qo h__law_mix.fn B C V ) (sE h__law_mix.fn (ps:=nJ) rfl fun _ _ _ _ _ _ _ _=>rfl)
 have D_is_number:Def l.prog w K mg base "is_number" 2 zJ (spF K 0 yZ):=h_is_number.df X G (Rv h_is_number.fn B C V D_is_whole) (fJ h_is_number.fn (ps:=zJ) rfl fun _ _ _ _ _ _ _=>rfl)
 have D_of_one_width:Def l.prog w K mg base "of_one_width" 2 wO (spF K 0 rD):=h_of_one_width.df X G (Tc h_of_one_width.fn B C V D_tables_of) (fJ h_of_one_width.fn (ps:=wO) rfl fun _ _ _ _ _ _ _=>rfl)
 have D_stands_in:Def l.prog w K mg base "stands_in" 2 zA (spF K 0 wI):=h_stands_in.df X G (Sa h_stands_in.fn B C V D_names_of) (sE h_stands_in.fn (ps:=zA) rfl fun _ _ _ _ _ _ _ _=>rfl)
 have D_show_line:Def l.prog w K mg base "show_line" 2 zK (spF K 0 wB):=h_show_line.df X G (Ra h_show_line.fn B C V D_show_words) (fJ h_show_line.fn (ps:=zK) rfl fun _ _ _ _ _ _ _=>rfl)
 have D_term_of:Def l.prog w K mg base "term_of" 2 yV (spF K 0 qW):=h_term_of.df X G (Po h_term_of.fn B C V D_whole_of) (fJ h_term_of.fn (ps:=yV) rfl fun _ _ _ _ _ _ _=>rfl)
 have D__law_names:Def l.prog w K mg base "_law_names" 2 wC (spF K 1 rB):=h__law_names.df X G (Sb h__law_names.fn B C V D__law_mix) (sE h__law_names.fn (ps:=wC) rfl fun _ _ _ _ _ _ _ _=>rfl)
 have D__law_term:Def l.prog w K mg base "_law_term" 2 zI (spF K 0 sY):=h__law_term.df X G (Rb h__law_term.fn B C V D__law_mix) (sE h__law_term.fn (ps:=zI) rfl fun _ _ _ _ _ _ _ _=>rfl)
 have D__law_changed:Def l.prog w K mg base "_law_changed" 2 zT (spF K 0 rC):=h__law_changed.df X G (Sq h__law_changed.fn B C V D__law_mix) (NU h__law_changed.fn (ps:=zT) rfl fun _ _ _ _ _ _ _ _ _=>rfl)
 have D_is_term:Def l.prog w K mg base "is_term" 3 yS (spF K 0 nG):=h_is_term.df X G (Pk h_is_term.fn B C V D_is_name D_is_number) (fJ h_is_term.fn (ps:=yS) rfl fun _ _ _ _ _ _ _=>rfl)
 have D_show_alternative:Def l.prog w K mg base "show_alternative" 3 zW (spF K 0 wQ):=h_show_alternative.df X G (Tq h_show_alternative.fn B C V D_show_words D_show_line) (fJ h_show_alternative.fn (ps:=zW) rfl fun _ _ _ _ _ _ _=>rfl)
 have D_terms_of:Def l.prog w K mg base "terms_of" 3 vZ (spF K 0 qZ):=h_terms_of.df X G (Qs h_terms_of.fn B C V D_term_of) (fJ h_terms_of.fn (ps:=vZ) rfl fun _ _ _ _ _ _ _=>rfl)
 have D__law_tables:Def l.prog w K mg base "_law_tables" 3 zO (spF K 1 wL):=h__law_tables.df X G (Sz h__law_tables.fn B C V D__law_mix D__law_names) (sE h__law_tables.fn (ps:=zO) rfl fun _ _ _ _ _ _ _ _=>rfl)
 have D__law_lines:Def l.prog w K mg base "_law_lines" 3 zE (spF K 1 wF):=h__law_lines.df X G (Sk h__law_lines.fn B C V D__law_cell D__law_mix D__law_term) (Cw h__law_lines.fn (ps:=zE) rfl fun _ _ _ _ _ _ _ _ _ _ _=>rfl)
 have D_are_terms:Def l.prog w K mg base "are_terms" 4 wJ (spF K 0 kT):=h_are_terms.df X G (Ru h_are_terms.fn B C V D_is_term) (NU h_are_terms.fn (ps:=wJ) rfl fun _ _ _ _ _ _ _ _ _=>rfl)
 have D_show_question:Def l.prog w K mg base "show_question" 4 tL (spF K 0 mM):=h_show_question.df X G (Tg h_show_question.fn B C V D_show_alternative) (fJ h_show_question.fn (ps:=tL) rfl fun _ _ _ _ _ _ _=>rfl)
 have D_line_of:Def l.prog w K mg base "line_of" 4 yR (spF K 0 nH):=h_line_of.df X G (Ox h_line_of.fn B C V D_terms_of) (fJ h_line_of.fn (ps:=yR) rfl fun _ _ _ _ _ _ _=>rfl)
 have D__law_question:Def l.prog w K mg base "_law_question" 4 zP (spF K 1 tJ):=h__law_question.df X G (Th h__law_question.fn B C V D__law_cell D__law_mix D__law_names D__law_tables D__law_lines) (sE h__law_question.fn (ps:=zP) rfl fun _ _ _ _ _ _ _ _=>rfl)
 have D_is_line:Def l.prog w K mg base "is_line" 5 yT (spF K 0 nF):=h_is_line.df X G (Os h_is_line.fn B C V D_is_name D_is_pair D_are_terms) (fJ h_is_line.fn (ps:=yT) rfl fun _ _ _ _ _ _ _=>rfl)
 have D_alternative_of:Def l.prog w K mg base "alternative_of" 5 zV (spF K 0 oJ):=h_alternative_of.df X G (Tn h_alternative_of.fn B C V D_terms_of D_line_of) (fJ h_alternative_of.fn (ps:=zV) rfl fun _ _ _ _ _ _ _=>rfl)
 have D_are_lines:Def l.prog w K mg base "are_lines" 6 zH (spF K 0 oI):=h_are_lines.df X G (Sh h_are_lines.fn B C V D_is_line) (fJ h_are_lines.fn (ps:=zH) rfl fun _ _ _ _ _ _ _=>rfl)
 have D_question_of:Def l.prog w K mg base "question_of" 6 zM (spF K 1 wM):=h_question_of.df X G (Sw h_question_of.fn B C V D_alternative_of) (fJ h_question_of.fn (ps:=zM) rfl fun _ _ _ _ _ _ _=>rfl)
 have D_is_alternative:Def l.prog w K mg base "is_alternative" 7 zU (spF K 0 iB):=h_is_alternative.df X G (To h_is_alternative.fn B C V D_is_pair D_of_one_width D_stands_in D_are_terms D_are_lines) (fJ h_is_alternative.fn (ps:=zU) rfl fun _ _ _ _ _ _ _=>rfl)
 have D_is_question:Def l.prog w K mg base "is_question" 8 wK (spF K 0 mC):=h_is_question.df X G (Sv h_is_question.fn B C V D_of_one_length D_of_one_width D_is_alternative) (fJ h_is_question.fn (ps:=wK) rfl fun _ _ _ _ _ _ _=>rfl)
 have D_read_by:DefX l.prog w K mg base "read_by" 9 yP (spX K 1 yQ):=h_read_by.dfX X G (Oc h_read_by.fn B C V D_show_question D_question_of D_is_question) (Ds h_read_by.fn (ps:=yP) rfl fun _ _ _ _ _ _ _ _ _ _=>rfl)
 have D_read_question:DefX l.prog w K mg base "read_question" 10 wN (spX K 1 pL):=h_read_question.dfX X G (Te h_read_question.fn B C V D_read_by) (fJ h_read_question.fn (ps:=wN) rfl fun _ _ _ _ _ _ _=>rfl)
 have D__law_holds:Def l.prog w K mg base "_law_holds" 11 zD (spF K 0 rA):=h__law_holds.df X G (Se h__law_holds.fn B C V D_show_question D_is_question D_read_question) (fJ h__law_holds.fn (ps:=zD) rfl fun _ _ _ _ _ _ _=>rfl)
 exact(Jc (PH (st:=sI) l_law c_law k_law) B C V D__law_cell D__law_mix D__law_changed D_show_question D__law_question D_read_question D__law_holds).imp Ho
theorem walk {l:Bb}{q:bS}{loose:List aB}{XP:(aB->Option aE)->aU->Prop}{YP:bB->aU->Prop}{d:DefRec}{K:Params->aK}(hn:l.most=some 63)(hdf:d.params.defaults=[])
  (hY : ∀ (w:bB) (h:aU),YP w h->(K w.params).In h)
  (F : ∀ (w:bB) (mg:aB->Option aE) (fa:aD) (h:aU),(K w.params).In h->h.Ns cK mg->mg d.name=some (.ref fa) ->
   ∃ fd:gD,(∀ (s:aG) (u:aE),xQ s fd ⟨[u],[]⟩ [("_law_script",u)]) /\ ∀ base:aU,(K w.params).In base->base.Ns cK mg->FnOk l.prog w (K w.params) mg base CX0 12 fa fd ["_law_script"] (EV (K w.params))) :
  PySem.W.WalkO q loose XP YP l.row.toRowW d [] (fun f vs=>PySem.call f vs):=
 L2.Bc6 (n:=63) (k:=12) (x:="_law_script") (CX:=fun _=>CX0) (sp:=fun w=>EV (K w.params)) hn (by decide) hdf ⟨rfl,by decide,by decide⟩ hY F (fun _ _ a ns hl _ hS=>⟨a,ns,rfl,hS,hl,fun _=>rfl⟩) fun _ _ _ _ _ z=>z
end Aw
def PySem.W.Fast.tw16034422220157222564:=0
def PySem.W.Fast.tw13912053005985210198:=0
def PySem.W.Fast.tw1746046369474492041:=0
def PySem.W.Fast.tw3895700194730006195:=0
def PySem.W.Fast.tw10045453359846926751:=0
def PySem.W.Fast.tw7087108943604315373:=0
def PySem.W.Fast.tw18046250525856212170:=0
def PySem.W.Fast.tw1384681579668402902:=0
def PySem.W.Fast.tw5615032199214659407:=0
def PySem.W.Fast.tw6118715700678516491:=0
def PySem.W.Fast.tw18352007433962182910:=0
def PySem.W.Fast.tw11986353936740129600:=0
def PySem.W.Fast.tw12279059960062627877:=0
def PySem.W.Fast.tw230769785972510388:=0
def PySem.W.Fast.tw16930823090857354196:=0
def PySem.W.Fast.tw9035274483093591738:=0
def PySem.W.Fast.tw14819456123695037851:=0
def PySem.W.Fast.tw6372328234312224927:=0
def PySem.W.Fast.tw17465778607838733881:=0
def PySem.W.Fast.tw10311879983649100607:=0
def PySem.W.Fast.tw14381712842936448712:=0
def PySem.W.Fast.tw9747691668411487992:=0
def PySem.W.Fast.tw4417880412563281130:=0
def PySem.W.Fast.tw6750134232961173757:=0
def PySem.W.Fast.tw1697569811916173709:=0
def PySem.W.Fast.tw4011538739004528705:=0
def PySem.W.Fast.tw12161285058484173050:=0
def PySem.W.Fast.tw3842780907746235131:=0
def PySem.W.Fast.tw16357451841598148223:=0
def PySem.W.Fast.tw7169420590346407054:=0
def PySem.W.Fast.tw5859416914475234407:=0
def PySem.W.Fast.tw2177306809403311825:=0
def PySem.W.Fast.tw15300679191454915173:=0
def PySem.W.Fast.tw8693700592822077871:=0
def PySem.W.Fast.tw3259838079890031398:=0
def PySem.W.Fast.tw13251050437875261836:=0
def PySem.W.Fast.tw8259887082940533695:=0
def PySem.W.Fast.tw16240487151464783595:=0
def PySem.W.Fast.tw11963661948102127131:=0
def PySem.W.Fast.tw14773749193899066626:=0
def PySem.W.Fast.tw1410558930729428635:=0
def PySem.W.Fast.tw1647445984198178492:=0
def PySem.W.Fast.tw12112241701337474713:=0
def PySem.W.Fast.tw2370124627577628276:=0
def PySem.W.Fast.tw3635071483728859776:=0
def PySem.W.Fast.tw5560564132008509241:=0
def PySem.W.Fast.tw193700743612257622:=0
def PySem.W.Fast.tw13081842486386068153:=0
def PySem.W.Fast.tw15496194730418113403:=0
def PySem.W.Fast.tw10509371696285129241:=0
def PySem.W.Fast.tw17551220852951421175:=0
def PySem.W.Fast.tw452743114864479347:=0
def PySem.W.Fast.tw11440614690583352641:=0
def PySem.W.Fast.tw11212687168544452685:=0
def PySem.W.Fast.tw6208821966886099422:=0
def PySem.W.Fast.tw1917969680164235194:=0
def PySem.W.Fast.tw10527934406377728723:=0
def PySem.W.Fast.tw9570048931746732870:=0
def PySem.W.Fast.tw17953553290003727163:=0
def PySem.W.Fast.tw17169531277618658904:=0
def PySem.W.Fast.tw10322573544785071:=0
def PySem.W.Fast.tw14050243455908952334:=0
def PySem.W.Fast.tw6296126824328514286:=0
def PySem.W.Fast.tw10686573867300156148:=0
def PySem.W.Fast.tw8868043889658415095:=0
def PySem.W.Fast.tw15761543359811311744:=0
def PySem.W.Fast.tw17978483600676133404:=0
def PySem.W.Fast.tw14698940048665710809:=0
def PySem.W.Fast.tw11937176487221737683:=0
def PySem.W.Fast.tw4510712888272506807:=0
def PySem.W.Fast.tw879942083025873089:=0
def PySem.W.Fast.tw5132299134838064418:=0
def PySem.W.Fast.tw12588805063589707554:=0
def PySem.W.Fast.tw823014821790562799:=0
def PySem.W.Fast.tw6435641627493791910:=0
def PySem.W.Fast.tw6989998088354648264:=0
def PySem.W.Fast.tw5683838946754636368:=0
def PySem.W.Fast.tw13524910751030868629:=0
def PySem.W.Fast.tw3310445622220178711:=0
def PySem.W.Fast.tw9519865354597217594:=0
def PySem.W.Fast.tw16148376987916021466:=0
def PySem.W.Fast.tw8296693603304130650:=0
def PySem.W.Fast.tw8597028648673368089:=0
def PySem.W.Fast.tw7741666342958107846:=0
def PySem.W.Fast.tw14868109092037695130:=0
def PySem.W.Fast.tw3121129472414467466:=0
def PySem.W.Fast.tw973774831064694882:=0
def PySem.W.Fast.tw17038787005533334307:=0
def PySem.W.Fast.tw15462754148423121272:=0
def PySem.W.Fast.tw17503389131799151009:=0
def PySem.W.Fast.tw10391272985237310019:=0
def PySem.W.Fast.tw6304791567095377156:=0
def PySem.W.Fast.tw6421531502259605456:=0
def PySem.W.Fast.tw1544155459127866130:=0
def PySem.W.Fast.tw2662678687419327000:=0
def PySem.W.Fast.tw14949268660798484479:=0
def PySem.W.Fast.tw5563861390538509189:=0
def PySem.W.Fast.tw3571791628521709289:=0
def PySem.W.Fast.tw2046883132058191653:=0
def PySem.W.Fast.tw9261158843272965525:=0
def PySem.W.Fast.tw4408313908454068047:=0
def PySem.W.Fast.tw6156183294021527781:=0
def PySem.W.Fast.tw716426622425510537:=0
def PySem.W.Fast.tw2225465265828797126:=0
def PySem.W.Fast.tw3745551887955008584:=0
def PySem.W.Fast.tw7585619218372068071:=0
def PySem.W.Fast.tw14986686560391032930:=0
def PySem.W.Fast.tw14635400036967201396:=0
def PySem.W.Fast.tw16805046045087025822:=0
def PySem.W.Fast.tw8225437749881598496:=0
def PySem.W.Fast.tw16789617250421930593:=0
def PySem.W.Fast.tw4667617659039530298:=0
def PySem.W.Fast.tw6628709969049467295:=0
def PySem.W.Fast.tw3045779218046115718:=0
def PySem.W.Fast.tw17825702924550949254:=0
def PySem.W.Fast.tw2587187160636969656:=0
def PySem.W.Fast.tw338080209633788184:=0
def PySem.W.Fast.tw10567990286182692438:=0
def PySem.W.Fast.tw9708720437224549098:=0
def PySem.W.Fast.tw7065304575883510764:=0
def PySem.W.Fast.tw3778377783231507980:=0
def PySem.W.Fast.tw13765229891620209701:=0
def PySem.W.Fast.tw5534297979629950513:=0
def PySem.W.Fast.tw17792154989841014795:=0
def PySem.W.Fast.tw5575770077874276563:=0
def PySem.W.Fast.tw3878596442977347729:=0
def PySem.W.Fast.tw11689368305337111438:=0
def PySem.W.Fast.tw12758837963279248999:=0
def PySem.W.Fast.tw9052185069358848631:=0
def PySem.W.Fast.tw15961811157468808312:=0
def PySem.W.Fast.tw15605458367138639830:=0
def PySem.W.Fast.tw15018076576683050087:=0
def PySem.W.Fast.tw18218741462839452142:=0
def PySem.W.Fast.tw6219698189541482813:=0
def PySem.W.Fast.tw3857334291151049883:=0
def PySem.W.Fast.tw14882356615181512066:=0
def PySem.W.Fast.tw18141821424299184954:=0
def PySem.W.Fast.tw8834390634245500800:=0
def PySem.W.Fast.tw14417503852481468284:=0
def PySem.W.Fast.tw14469334508021167373:=0
def PySem.W.Fast.tw3173468345024260059:=0
def PySem.W.Fast.tw12985634120905436123:=0
def PySem.W.Fast.tw11012410576418450556:=0
def PySem.W.Fast.tw1542019729099785323:=0
def PySem.W.Fast.tw10068609129202006542:=0
def PySem.W.Fast.tw10031607547736392300:=0
def PySem.W.Fast.tw5163622188088480968:=0
def PySem.W.Fast.tw17523054940939591024:=0
def PySem.W.Fast.tw14257507039122762044:=0
def PySem.W.Fast.tw16964872771589099655:=0
def PySem.W.Fast.tw718417092183029430:=0
def PySem.W.Fast.tw11510932293259985745:=0
def PySem.W.Fast.tw7853579286348496228:=0
def PySem.W.Fast.tw6199836045260187537:=0
def PySem.W.Fast.tw7831333916778481579:=0
def PySem.W.Fast.tw5385422482921469998:=0
def PySem.W.Fast.tw13311982977965486244:=0
def PySem.W.Fast.tw5366860756818817381:=0
def PySem.W.Fast.tw11100807963426496121:=0
def PySem.W.Fast.tw4633434783025705177:=0
def PySem.W.Fast.tw17783316433862679421:=0
def PySem.W.Fast.tw156509931157668264:=0
def PySem.W.Fast.tw5793055135156691899:=0
def PySem.W.Fast.tw14306243716450535749:=0
def PySem.W.Fast.tw12261893316660256884:=0
def PySem.W.Fast.tw13858019340859818645:=0
def PySem.W.Fast.tw3495900205521500521:=0
def PySem.W.Fast.tw15198057716650643106:=0
def PySem.W.Fast.tw5768940657420127170:=0
def PySem.W.Fast.tw15634426396202561316:=0
def PySem.W.Fast.tw4306152984352498238:=0
def PySem.W.Fast.tw861805174100763628:=0
def PySem.W.Fast.tw6182463475506289290:=0
def PySem.W.Fast.tw4209084465342346838:=0
def PySem.W.Fast.tw1375077956216444336:=0
def PySem.W.Fast.tw15358991207881386718:=0
def PySem.W.Fast.tw8485221621270322943:=0
def PySem.W.Fast.tw4846776177582428482:=0
def PySem.W.Fast.tw6750665871346331265:=0
def PySem.W.Fast.tw2588324319205930472:=0
def PySem.W.Fast.tw5278520738869990641:=0
def PySem.W.Fast.tw2950974651082441689:=0
def PySem.W.Fast.tw7183295238279327065:=0
def PySem.W.Fast.tw10021435181510794168:=0
def PySem.W.Fast.tw15282617815472581706:=0
def PySem.W.Fast.tw7914109450133894866:=0
def PySem.W.Fast.tw12999553964286123705:=0
def PySem.W.Fast.tw972777203903491327:=0
def PySem.W.Fast.tw10706457370403165088:=0
def PySem.W.Fast.tw15430919114143065607:=0
def PySem.W.Fast.tw3482342075724109299:=0
def PySem.W.Fast.tw9614867809564056764:=0
def PySem.W.Fast.tw16886603068596403781:=0
def PySem.W.Fast.tw17723166860554758719:=0
def PySem.W.Fast.tw4252807182116383208:=0
def PySem.W.Fast.tw1092008687572203801:=0
def PySem.W.Fast.tw239824449869106778:=0
def PySem.W.Fast.tw15076812209408370520:=0
def PySem.W.Fast.tw14572034042565477218:=0
def PySem.W.Fast.tw13334549517429354527:=0
def PySem.W.Fast.tw14451129266298806447:=0
def PySem.W.Fast.tw1606855239674300489:=0
def PySem.W.Fast.tw8893622058925284578:=0
def PySem.W.Fast.tw3137482295269224101:=0
def PySem.W.Fast.tw14508651081129387966:=0
def PySem.W.Fast.tw6282746887007212848:=0
def PySem.W.Fast.tw18371926593084097275:=0
def PySem.W.Fast.tw2949246229514295788:=0
def PySem.W.Fast.tw14376452012522352176:=0
def PySem.W.Fast.tw11264659112259394116:=0
def PySem.W.Fast.tw389723553634050277:=0
def PySem.W.Fast.tw17368682976891166122:=0
def PySem.W.Fast.tw3289825853648871720:=0
def PySem.W.Fast.tw14139750306984404339:=0
def PySem.W.Fast.tw6968078387977545329:=0
def PySem.W.Fast.tw2913454913406549551:=0
def PySem.W.Fast.tw15738088366356922412:=0
def PySem.W.Fast.tw267303512678770415:=0
def PySem.W.Fast.tw8235430465952879940:=0
def PySem.W.Fast.tw9970275384864588411:=0
def PySem.W.Fast.tw9435964835270981867:=0
def PySem.W.Fast.tw12728921767580144254:=0
def PySem.W.Fast.tw1000269765885530649:=0
def PySem.W.Fast.tw16318944938764773151:=0
def PySem.W.Fast.tw874895983646372720:=0
def PySem.W.Fast.tw938938437600540551:=0
def PySem.W.Fast.tw14304929064015407558:=0
def PySem.W.Fast.tw8607777526489795870:=0
def PySem.W.Fast.tw17611117370758905983:=0
def PySem.W.Fast.tw9306281927461619475:=0
def PySem.W.Fast.tw6484929802880828806:=0
def PySem.W.Fast.tw10738930704767922593:=0
def PySem.W.Fast.tw5895030532988654694:=0
def PySem.W.Fast.tw17680196279580487368:=0
def PySem.W.Fast.tw17207094756809185808:=0
def PySem.W.Fast.tw6612905386026612772:=0
open PySem PySem.W PyProof.Rows
set_option maxRecDepth 100000 in
set_option maxHeartbeats 0 in
theorem PySem.Challenge.cw_askwithin_k66_whole_texts_tell_one_quest_holds : PySem.Challenge.rw_askwithin_k66_whole_texts_tell_one_quest.Holds := by
 w_on; o_law; k_head; (case hw=>w_witness2)
 k_fill
 refine Aw.walk (l:=PySem.Challenge.rw_askwithin_k66_whole_texts_tell_one_quest) rfl rfl (fun w h Y=>PySem.W.kIn_of Y) ?F
 case F=>
  intro w mg fa h KX G hmg
  refine' Aw.all_mk KX G hmg (Aw.Adc ?a_is_whole ?l_is_whole ?c_is_whole ?k_is_whole) (Aw.Adc ?a_is_name ?l_is_name ?c_is_name ?k_is_name) (Aw.Adc ?a_is_pair ?l_is_pair ?c_is_pair ?k_is_pair) (Aw.Adc ?a_of_one_length ?l_of_one_length ?c_of_one_length ?k_of_one_length) (Aw.Adc ?a_names_of ?l_names_of ?c_names_of ?k_names_of) (Aw.Adc ?a_tables_of ?l_tables_of ?c_tables_of ?k_tables_of) (Aw.Adc ?a_show_words ?l_show_words ?c_show_words ?k_show_words) (Aw.Adc ?a_whole_of ?l_whole_of ?c_whole_of ?k_whole_of) (Aw.Adc ?a__law_cell ?l__law_cell ?c__law_cell ?k__law_cell) (Aw.Adc ?a__law_mix ?l__law_mix ?c__law_mix ?k__law_mix) (Aw.Adc ?a_is_number ?l_is_number ?c_is_number ?k_is_number) (Aw.Adc ?a_of_one_width ?l_of_one_width ?c_of_one_width ?k_of_one_width) (Aw.Adc ?a_stands_in ?l_stands_in ?c_stands_in ?k_stands_in) (Aw.Adc ?a_show_line ?l_show_line ?c_show_line ?k_show_line) (Aw.Adc ?a_term_of ?l_term_of ?c_term_of ?k_term_of) (Aw.Adc ?a__law_names ?l__law_names ?c__law_names ?k__law_names) (Aw.Adc ?a__law_term ?l__law_term ?c__law_term ?k__law_term) (Aw.Adc ?a__law_changed ?l__law_changed ?c__law_changed ?k__law_changed) (Aw.Adc ?a_is_term ?l_is_term ?c_is_term ?k_is_term) (Aw.Adc ?a_show_alternative ?l_show_alternative ?c_show_alternative ?k_show_alternative) (Aw.Adc ?a_terms_of ?l_terms_of ?c_terms_of ?k_terms_of) (Aw.Adc ?a__law_tables ?l__law_tables ?c__law_tables ?k__law_tables) (Aw.Adc ?a__law_lines ?l__law_lines ?c__law_lines ?k__law_lines) (Aw.Adc ?a_are_terms ?l_are_terms ?c_are_terms ?k_are_terms) (Aw.Adc ?a_show_question ?l_show_question ?c_show_question ?k_show_question) (Aw.Adc ?a_line_of ?l_line_of ?c_line_of ?k_line_of) (Aw.Adc ?a__law_question ?l__law_question ?c__law_question ?k__law_question) (Aw.Adc ?a_is_line ?l_is_line ?c_is_line ?k_is_line) (Aw.Adc ?a_alternative_of ?l_alternative_of ?c_alternative_of ?k_alternative_of) (Aw.Adc ?a_are_lines ?l_are_lines ?c_are_lines ?k_are_lines) (Aw.Adc ?a_question_of ?l_question_of ?c_question_of ?k_question_of) (Aw.Adc ?a_is_alternative ?l_is_alternative ?c_is_alternative ?k_is_alternative) (Aw.Adc ?a_is_question ?l_is_question ?c_is_question ?k_is_question) (Aw.Adc ?a_read_by ?l_read_by ?c_read_by ?k_read_by) (Aw.Adc ?a_read_question ?l_read_question ?c_read_question ?k_read_question) (Aw.Adc ?a__law_holds ?l__law_holds ?c__law_holds ?k__law_holds) (Aw.Bhs ?a_law ?l_law ?c_law ?k_law)  ?y_NoText ?x_NoText ⟨?xga,?xgh,?xcl,?xmo,?xmb,?xic⟩ ?e_NoText ?z_isinstance ?z_int ?z_bool ?z_abs ?z_range ?z_len ?z_str ?z_all ?z_any ?z_list ?z_tuple ?z_dict ?z_set ?z_sorted ?z_sum ?z_min ?z_max ?z_enumerate ?z_zip ?z_reversed ?z_ValueError ?g_LETTERS ?g_FIGURES ?g_MOST_SIGNS ?g_MOST_TERMS ?g_MOST_HEAD_TERMS ?g_MOST_LINES ?g_MOST_ALTERNATIVES ?g_MOST_FIGURES
  (case a_is_whole=>k_is); (case l_is_whole=>k_is); (case c_is_whole=>k_is); (case k_is_whole=>k_is)
  (case a_is_name=>k_is); (case l_is_name=>k_is); (case c_is_name=>k_is); (case k_is_name=>k_is)
  (case a_is_pair=>k_is); (case l_is_pair=>k_is); (case c_is_pair=>k_is); (case k_is_pair=>k_is)
  (case a_of_one_length=>k_is); (case l_of_one_length=>k_is); (case c_of_one_length=>k_is); (case k_of_one_length=>k_is)
  (case a_names_of=>k_is); (case l_names_of=>k_is); (case c_names_of=>k_is); (case k_names_of=>k_is)
  (case a_tables_of=>k_is); (case l_tables_of=>k_is); (case c_tables_of=>k_is); (case k_tables_of=>k_is)
  (case a_show_words=>k_is); (case l_show_words=>k_is); (case c_show_words=>k_is); (case k_show_words=>k_is)
  (case a_whole_of=>k_is); (case l_whole_of=>k_is); (case c_whole_of=>k_is); (case k_whole_of=>k_is)
  (case a__law_cell=>k_is); (case l__law_cell=>k_is); (case c__law_cell=>k_is); (case k__law_cell=>k_is)
  (case a__law_mix=>k_is); (case l__law_mix=>k_is); (case c__law_mix=>k_is); (case k__law_mix=>k_is)
  (case a_is_number=>k_is); (case l_is_number=>k_is); (case c_is_number=>k_is); (case k_is_number=>k_is)
  (case a_of_one_width=>k_is); (case l_of_one_width=>k_is); (case c_of_one_width=>k_is); (case k_of_one_width=>k_is)
  (case a_stands_in=>k_is); (case l_stands_in=>k_is); (case c_stands_in=>k_is); (case k_stands_in=>k_is)
  (case a_show_line=>k_is); (case l_show_line=>k_is); (case c_show_line=>k_is); (case k_show_line=>k_is)
  (case a_term_of=>k_is); (case l_term_of=>k_is); (case c_term_of=>k_is); (case k_term_of=>k_is)
  (case a__law_names=>k_is); (case l__law_names=>k_is); (case c__law_names=>k_is); (case k__law_names=>k_is)
  (case a__law_term=>k_is); (case l__law_term=>k_is); (case c__law_term=>k_is); (case k__law_term=>k_is)
  (case a__law_changed=>k_is); (case l__law_changed=>k_is); (case c__law_changed=>k_is); (case k__law_changed=>k_is)
  (case a_is_term=>k_is); (case l_is_term=>k_is); (case c_is_term=>k_is); (case k_is_term=>k_is)
  (case a_show_alternative=>k_is); (case l_show_alternative=>k_is); (case c_show_alternative=>k_is); (case k_show_alternative=>k_is)
  (case a_terms_of=>k_is); (case l_terms_of=>k_is); (case c_terms_of=>k_is); (case k_terms_of=>k_is)
  (case a__law_tables=>k_is); (case l__law_tables=>k_is); (case c__law_tables=>k_is); (case k__law_tables=>k_is)
  (case a__law_lines=>k_is); (case l__law_lines=>k_is); (case c__law_lines=>k_is); (case k__law_lines=>k_is)
  (case a_are_terms=>k_is); (case l_are_terms=>k_is); (case c_are_terms=>k_is); (case k_are_terms=>k_is)
  (case a_show_question=>k_is); (case l_show_question=>k_is); (case c_show_question=>k_is); (case k_show_question=>k_is)
  (case a_line_of=>k_is); (case l_line_of=>k_is); (case c_line_of=>k_is); (case k_line_of=>k_is)
  (case a__law_question=>k_is); (case l__law_question=>k_is); (case c__law_question=>k_is); (case k__law_question=>k_is)
  (case a_is_line=>k_is); (case l_is_line=>k_is); (case c_is_line=>k_is); (case k_is_line=>k_is)
  (case a_alternative_of=>k_is); (case l_alternative_of=>k_is); (case c_alternative_of=>k_is); (case k_alternative_of=>k_is)
  (case a_are_lines=>k_is); (case l_are_lines=>k_is); (case c_are_lines=>k_is); (case k_are_lines=>k_is)
  (case a_question_of=>k_is); (case l_question_of=>k_is); (case c_question_of=>k_is); (case k_question_of=>k_is)
  (case a_is_alternative=>k_is); (case l_is_alternative=>k_is); (case c_is_alternative=>k_is); (case k_is_alternative=>k_is)
  (case a_is_question=>k_is); (case l_is_question=>k_is); (case c_is_question=>k_is); (case k_is_question=>k_is)
  (case a_read_by=>k_is); (case l_read_by=>k_is); (case c_read_by=>k_is); (case k_read_by=>k_is)
  (case a_read_question=>k_is); (case l_read_question=>k_is); (case c_read_question=>k_is); (case k_read_question=>k_is)
  (case a__law_holds=>k_is); (case l__law_holds=>k_is); (case c__law_holds=>k_is); (case k__law_holds=>k_is)
  (case a_law=>k_is); (case l_law=>k_is); (case c_law=>k_is); (case k_law=>k_is)
  (case y_NoText=>k_is); (case x_NoText=>k_exc); (case xga=>k_is); (case xgh=>k_is); (case xcl=>k_is); (case xmo=>k_is); (case xmb=>k_is); (case xic=>k_is); (case e_NoText=>kts_exm)
  (case z_isinstance=>k_is); (case z_int=>k_is); (case z_bool=>k_is); (case z_abs=>k_is); (case z_range=>k_is); (case z_len=>k_is); (case z_str=>k_is); (case z_all=>k_is); (case z_any=>k_is); (case z_list=>k_is); (case z_tuple=>k_is); (case z_dict=>k_is); (case z_set=>k_is); (case z_sorted=>k_is); (case z_sum=>k_is); (case z_min=>k_is); (case z_max=>k_is); (case z_enumerate=>k_is); (case z_zip=>k_is); (case z_reversed=>k_is); (case z_ValueError=>k_is)
  (case g_LETTERS=>k_is); (case g_FIGURES=>k_is); (case g_MOST_SIGNS=>k_is); (case g_MOST_TERMS=>k_is); (case g_MOST_HEAD_TERMS=>k_is); (case g_MOST_LINES=>k_is); (case g_MOST_ALTERNATIVES=>k_is); (case g_MOST_FIGURES=>k_is)
