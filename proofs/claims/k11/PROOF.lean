import PyProof.Rows.All
import Wide.All
import OpenK.AllK
import Wide.FinOn
import Lean
import PyProof.EqAt
import PyProof.EqKinds
import PyProof.TupleCall
import PyProof.TupleOfStr
import PyProof.ListStr
import KE.KSortTup
import PyProof.Rows.SortShellK
import PyProof.MeetsSeq2
import PyProof.FactsAll.list_4
import PyProof.AutoSeq1
import PyProof.ConsumeWalk
import PyProof.ListMulRoad
import PyProof.Rows.SeqMore
import PyProof.FactsAll.tuple_2
import KE.KTryMore
import OpenK.KOwn
import PyProof.Rows.CatchBare
import KE.KIsAll
import PyProof.ExcArgsOwn
import PyProof.ExcAttrAll.ValueError
import KE.RegKTryMore
import KE.RegKIsAll
import PyProof.StrCalls2
import PyProof.StrLawsChain
import PyProof.StrLawsTight
import PyProof.Rows.StrNews
import KE.KIntText
import PyProof.Rows.StrNews2
import PyProof.Rows.StrLast
import PyProof.ZipIter
import PyProof.TupleIter
import PyProof.AttrMissHeap
import PyProof.Rows.SortStr
import PyProof.SetKind
import PyProof.Rows.SetFrom
import PyProof.AutoListH
import PyProof.ListNew
import PyProof.FactsAll.list_2
import PyProof.ListRange
import PyProof.CollectWalk
import PyProof.EnumMake
import PyProof.DictItemsLoops
import PyProof.DictWalks
import PyProof.DictValues
import PyProof.DictFindH
import PyProof.MeetsDictList
import PyProof.P3In
import PyProof.WalksMore
import PyProof.SeqI3
import PyProof.Rows.SumAny
import PyProof.IsRules
import PyProof.Rows.StrItems
import PySem.Challenge.RW_askwithin_k11_full_tables
open PySem renaming PyData->aA,Addr->aB,Str->aD,Value->aE,Shared->aG,wpAny_bind->aK,wpAny->aO,model->aP,Heap->aQ,Expr->aS,World->aW,Obj->aY,wpAny_pure->aZ,Program->bC,starEach->bD,Stmt->bG,eval->bI,Pos->bL,Around->bT,mainGlobals->bU,Paired->dI,Env->dN,compareOp->dR,FuncData->dS,backTo->eM,Scope->gM,sysModules->gW,wpAny_holding->iG,wpAny_mono->iV,codeAny->iW,bootBuiltins->iX,boot_len->jK,holding->kB,binaryOp->kC,Spec->kI,NameKind->lA,swapsWith->mG,merged->mH,atKey->mI,DictEntry->mM,standAt->nM,getItem->nN,Result->nO,ReadsAll->nP,Reads->nQ,IsPart->nV,wpAny_newObj_type->pD,attributeBase->pE,wpAny_truthy_bool->qS,wpAny_call_entry->qT,stored->qU,isTrue->qV,foldedSetIterable->qW,codeAny_mono->qX,codeAny_builtin->qY,BindsTo->rK,wpAny_typeOf->tJ,valueAt->tK,typeLookup->tL,sliceBounds->tM,sizeLine_eq->tN,relabel->tO,keywordEach->tP,callerA->tQ,bindArgs->tR,backToKw->tT,GenState->uD,wpAny_dictEntries->wX,setFlight->wY,getMethod->wZ,behindInMarks->xA,SetTable->xD,wpAny_specialOf->AG,wpAny_passesOwn->AH,wpAny_execs_nil->AI,wpAny_callSpecial?_slot->AJ,scanBound->AK,plainId_quiet->AM,mem_of_lookup->AR,wpAny_typeNameOf_keyiter->HW,wpAny_typeNameOfWhole_keyiter->HX,wpAny_pyIter_list->HY,wpAny_newList->HZ,wpAny_Call_Name_kw->IA,subscripted->IB,letOwnedTupleGo->ID,concat_meets->IE,wpAny_notOrdered_dict->UC,wpAny_isInstance->UD,wpAny_execs_cons->UE,unbindBehindTheSuite->UF,noFill_tuple_add->UG,codeAny_call_builtin->UH,SetTable->US,Builtin->UX
open PySem.W renaming Frag->aH,nsIn->cI,mg_of->eU,mg_none_of->fR,kitOne->fY,fnOf->iY,kia_one->kG,findIn->kH,keepIn->kX,emptyDict->mJ,instObj->nR,exmOne->tV,codeIn->tW,excIn->xE,plainGet->AS,lookIn->IF,isFn->IG,hideAll_get->IH,hasDictIn->II,callWith_K->IJ,takerIn->UI,plainOver->UJ,plainGet_of->UK,of_hideAll->UL,methodObj->UM,methodCall_KW->UN,makesIn->UO,kitx_list->UP,kitx_dict->UQ,OpenLaw->UR
open PySem.PyData renaming int->bA,eqv->cO,depthAll->cW,canLay0->dE,str->dH,bool->eX,tuple->gY,depth->iZ,eqvAll->pF,dict->qZ,canLayAll0->xF
open Or renaming inr->bE,inl->bH
open Option renaming bind_some->bM,map_some->rB,map_eq_some_iff->tX,isSome_iff_exists->xH,join_some->AV,none->IM,isSome_map->VB
open Nat renaming le_refl->bX,ne_of_lt->dA,zero_le->fH,lt_of_lt_of_le->fL,le_trans->jM,lt_irrefl->kZ,ne_of_gt->rC,le_succ->AW,lt_trans->IP,lt_succ_of_lt->IQ,le_of_lt->IR,le_of_eq->IS,add_assoc->IT,min_eq_left->VC
open List renaming mem_cons_self->bY,mem_cons_of_mem->cA,mem_cons->cJ,mem_map->cL,length_map->cP,mem_singleton->dB,range->dF,map_cons->dJ,size_toArray->dM,length_cons->eE,getElem?_eq_some_iff->fI,nodup_cons->fS,find?_cons->gD,map_map->gN,getElem?_map->gZ,all_eq_true->iA,lookup->iI,getElem?_set_ne->jA,toArray->jN,mem_range->kJ,getElem?_set_self->kK,replicate->lB,getElem?_eq_getElem->lC,lookup_cons->lM,mem_append_right->mK,mem_append->nU,mem_flatten->pG,length_take->pH,mem_of_getElem?->rD,append_nil->rE,pairwise_map->tY,map_congr_left->tZ,length_append->uA,flatten_cons->uB,eq_nil_of_length_eq_zero->uC,mem_filter->xI,map_append->xJ,length->xK,getElem?_cons_zero->xM,getElem?_cons_succ->xN,filter_cons->xO,cons_lt_cons_iff->xP,not_mem_nil->AX,getElem?_append_left->AY,foldl_cons->AZ,any_cons->BB,nodup_append->IU,mem_of_mem_take->IV,map_take->IW,map_id->IY,filter_eq_self->IZ,zip_cons_cons->VD,take_of_length_le->VE,of_mem_zip->VF,nodup_range->VG,nodup_nil->VH,mem_or_eq_of_mem_set->VI,mem_filterMap->VJ,mem_append_left->VL,length_drop->VM,getElem?_append_right->VN,filterMap_cons->VO,drop_eq_getElem_cons->Ph
open PySem.Heap renaming lt_size->cD,get?_push_of_some->cN,get?_push_size->eY,SameBut->rF,get?_update_self->BC,size_push->JA,get?_update_other->JB
open PySem.Value renaming ref->cZ,none->fX,type->kE,builtin->xC,str->AN,int->AO
open Option.some renaming inj->eO,injEq->xG
open PySem.NameKind renaming free->fO
open True renaming intro->gL
open PyProof.Rows renaming envOfC->gX,seqObj->kW,AllBare->nY,slot_tuple_getitem->IC,slot_tuple_getitem->UY,boot_tuple->UZ,boot_sorted->VA,callWith_type1->Pg
open Sum renaming inr->iH,inl->tU
open False renaming elim->jB
open Ne renaming symm->jL
open PySem.Str renaming join->kF,ofString->AQ
open PySem.Obj renaming mapSeq->kY
open Bool renaming and_eq_true_iff->lN,false_eq_true->mO,false_ne_true->pI,and_eq_true->rJ,or_eq_true_iff->VW
open Int renaming ofNat->mL,eq_ofNat_of_zero_le->nX,toNat_natCast->VQ
open Array renaming length_toList->mP,toList_inj->JF,getElem?_eq_getElem->Pm
open PySem.Paired renaming length->nT
open Prod.mk renaming injEq->rA
open PySem.F renaming called_set->rG,slot_dict_keyiterator_next->BE,slot_tuple_hash->JC,slot_tuple_add->UT,slot_dict_pop->UU,entry_tuple_add->UV,args_tuple_add_2->UW,slot_list_getattribute->VR,plainAttrs_dict->Pe,excBase_ValueError->Pf,entry_dict_keyiterator_next->Pj,args_dict_keyiterator_next_1->Pk
open PySem.Builtin.Str renaming occurrences->rH
open Classical renaming choose_spec->uE,byContradiction->Pl
open ForInStep renaming yield->xQ
open PySem.Builtin.Tuple renaming tupleHashOf->xR,tupleExact->JD,tupleItemsOf->VU
open PySem.Around renaming under_plainId->xS
open PySem.PyData.tuple renaming inj->AU
open List.cons renaming injEq->BA
open PySem.Heap.SameBut renaming update->BD
open Array.Perm renaming refl->BG
open PySem.PyData.str renaming injEq->IK
open PySem.PyData.dict renaming injEq->IL
open PySem.Builtin.Slice renaming slicePlaces->JE,sliceAdjust->VV
open List.Nodup renaming length_le_of_subset->VP
open PyProof.Rows.F renaming plain_set_update_loop->VS
open PySem.Calls renaming call_function_entry->VT
open List.Perm renaming eq_of_pairwise->Pi
theorem XBs {α β:Type}{x:Option α}{f:α->Option β}{b:β}(h:x.bind f=some b) : ∃ a,x=some a/\f a=some b:=Option.bind_eq_some_iff.mp h
set_option Elab.async false
set_option bootstrap.genMatcherCode false
set_option genSizeOfSpec false
set_option linter.all false
set_option maxRecDepth 100000
set_option exponentiation.threshold 2000
namespace L2
open PySem PySem.Spec PyProof.Rows
noncomputable instance decEqData:DecidableEq aA:=fun a b=>Classical.propDecidable (a=b)
mutual
noncomputable def bJ:aA->Bool
 | .int _=>true
 | .str x=>dE (.str x)
 | .tuple ds=>bP ds
 | _=>false
noncomputable def bP:List aA->Bool
 | []=>true
 | d::r=>bJ d&&bP r
end
mutual
theorem FD : ∀ d:aA,bJ d=true->d.canLay0=true
 | .int _,_=>by simp[dE]
 | .str x,h=>by simpa [bJ] using h
 | .tuple ds,h=>by
  simp only[dE]
  exact PL ds (by simpa [bJ] using h)
 | .none,h=>by simp[bJ] at h
 | .bool _,h=>by simp[bJ] at h
 | .list _,h=>by simp[bJ] at h
 | .dict _,h=>by simp[bJ] at h
theorem PL : ∀ ds:List aA,bP ds=true->xF ds=true
 | [],_=>by simp[xF]
 | d::r,h=>by
  have h':bJ d=true/\bP r=true:=by simpa [bP] using h
  simp only[xF,FD d h'.1,PL r h'.2,Bool.and_self]
end
mutual
theorem EO : ∀ x y:aA,bJ x=true->bJ y=true->cO x y=decide (x=y)
 | .int i,.int j,_,_=>by
  by_cases e:i=j
  ·subst e; simp[cO]
  ·have : ¬ bA i = .int j:=fun q=>e (PyData.int.inj q)
   simp[cO,e]
 | .str i,.str j,_,_=>by
  by_cases e:i=j
  ·subst e; simp[cO]
  ·simp[cO,e]
 | .tuple xs,.tuple ys,h1,h2=>by
  have e:=FS xs ys (by simpa [bJ] using h1) (by simpa [bJ] using h2)
  simp only[cO,e]
  by_cases q:xs=ys
  ·subst q; simp
  ·have : ¬ gY xs = .tuple ys:=fun z=>q (AU z)
   rw[decide_eq_false q,decide_eq_false this]
 | .int _,.str _,_,_=>by simp[cO]
 | .int _,.tuple _,_,_=>by simp[cO]
 | .str _,.int _,_,_=>by simp[cO]
 | .str _,.tuple _,_,_=>by simp[cO]
 | .tuple _,.int _,_,_=>by simp[cO]
 | .tuple _,.str _,_,_=>by simp[cO]
 | .none,_,h,_=>by simp[bJ] at h
 | .bool _,_,h,_=>by simp[bJ] at h
 | .list _,_,h,_=>by simp[bJ] at h
 | .dict _,_,h,_=>by simp[bJ] at h
 | .int _,.none,_,h=>by simp[bJ] at h
 | .int _,.bool _,_,h=>by simp[bJ] at h
 | .int _,.list _,_,h=>by simp[bJ] at h
 | .int _,.dict _,_,h=>by simp[bJ] at h
 | .str _,.none,_,h=>by simp[bJ] at h
 | .str _,.bool _,_,h=>by simp[bJ] at h
 | .str _,.list _,_,h=>by simp[bJ] at h
 | .str _,.dict _,_,h=>by simp[bJ] at h
 | .tuple _,.none,_,h=>by simp[bJ] at h
 | .tuple _,.bool _,_,h=>by simp[bJ] at h
 | .tuple _,.list _,_,h=>by simp[bJ] at h
 | .tuple _,.dict _,_,h=>by simp[bJ] at h
theorem FS : ∀ xs ys:List aA,bP xs=true->bP ys=true->pF xs ys=decide (xs=ys)
 | [],[],_,_=>by simp[pF]
 | [],_::_,_,_=>by simp[pF]
 | _::_,[],_,_=>by simp[pF]
 | x::xs,y::ys,h1,h2=>by
  have h1':bJ x=true/\bP xs=true:=by simpa [bP] using h1
  have h2':bJ y=true/\bP ys=true:=by simpa [bP] using h2
  simp only[pF,EO x y h1'.1 h2'.1,FS xs ys h1'.2 h2'.2]
  by_cases e:x=y
  ·subst e
   by_cases q:xs=ys
   ·subst q; simp
   ·simp[q]
  ·simp[e]
end
mutual
noncomputable def oF (w:aW):aA->Int
 | .int i=>hashInt i
 | .str x=>hashStr w x
 | .tuple ds=>reduceHash (xR (jU w ds))
 | _=>0
noncomputable def jU (w:aW):List aA->List Int
 | []=>[]
 | d::r=>oF w d::jU w r
end
mutual
noncomputable def pK:aA->Nat
 | .tuple ds=>lY ds+1
 | _=>1
noncomputable def lY:List aA->Nat
 | []=>0
 | d::r=>pK d+lY r
end
theorem RW (a b:List aA):lY (a++b)=lY a+lY b:=by
 induction a with
 | nil=>simp[lY]
 | cons x r ih=>simp only[List.cons_append,lY,ih]; omega
theorem RT (w:aW)(a b:List aA):jU w (a++b)=jU w a++jU w b:=by
 induction a with
 | nil=>rfl
 | cons x r ih=>simp only[List.cons_append,jU,ih]
section
variable {prog:bC}{w:aW}
theorem sP {h:aQ}{v:aE}{ks:List aA}{as:List aB}(r:nQ h v (.tuple ks) as) : ∃ a o vs n,v = .ref a/\h.get? a=some o/\o.cls = .type "tuple" /\ o.data = .seq vs n/\nP h vs.toList ks as:=by
 cases r with
 | tuple h1 h2 h3 h4=>exact⟨_,_,_,_,rfl,h1,h2,h3,h4⟩
mutual
theorem QN : ∀ (d:aA) {A:bT} {E:aE->aG->Prop} {s:aG} {v:aE} {as:List aB} {Q:Int->aG->Prop},A.units+d.depth<cLine->bJ d=true->nQ s.heap v d as ->
  Q (oF w d) { s with toks:=s.toks+pK d }->aO (aP prog w) A (pyHash v) Q E s
 | .int i,A,E,s,v,as,Q,hu,hk,r,h=>by
  cases r with
  | int _ t=>exact wpAny_pyHash_int (by simpa [oF,pK] using h)
 | .str x,A,E,s,v,as,Q,hu,hk,r,h=>by
  cases r with
  | str _ t=>exact wpAny_pyHash_str (by simpa [oF,pK] using h)
 | .tuple ks,A,E,s,v,as,Q,hu,hk,r,h=>by
  obtain⟨a,o,items,n,rfl,ho,hc,hd,hi⟩:=sP r
  have hT:s.TypeIs (.ref a) "tuple":=⟨o,ho,hc⟩
  have hdep:A.units+(cW ks+1)<cLine:=by simpa [iZ] using hu
  unfold pyHash
  first | unfold pyHashByItsType | skip
  first | refine aK (wpAny_cRoomFor_or (.inr (by omega)) ?_) | skip
  refine aK (AG hT JC.lookup ?_)
  rw[if_neg (by rw[beq_builtin_none]; exact pI)]
  refine aK (AG hT JC.lookup ?_)
  refine aK (wpAny_callSpecialIfBoundUnlessNone?_slot hT JC (qT JC hT F.entry_tuple_hash ?_ (F.args_tuple_hash_1 _)))
  show aO _ _ (VU (.ref a) >>= _) _ _ s
  refine aK (wpAny_tupleItemsOf ho hd ?_)
  refine aK ?_
  rw[← Array.forIn_toList]
  refine wpAny_forIn_list _
   (fun rest (b:Array Int) s'=>∃ done left bs,ks=done++left/\nP s.heap rest left bs/\b.toList=jU w done/\s' = { s with toks:=s.toks+lY done })
   _ ?_ ?_ _ _ ⟨[],ks,as,rfl,hi,rfl,rfl⟩
  ·rintro x rest b s' ⟨done,left,bs,e,hl,hb,rfl⟩
   cases hl with
   | @cons _ _ d ds as1 bs1 h1 hl'=>
    have hm:d∈ks:=by rw[e]; exact mK _ bY
    have hk':bP ks=true:=by simpa [bJ] using hk
    refine aK (RF ks hm (by
     have:A.in1.units=A.units+1:=rfl
     omega) hk' h1 ?_)
    first
     | exact aZ ⟨done++[d],ds,bs1,by simp[e],hl',by simp[hb,RT,jU],by simp[RW,lY,IT]⟩
     | exact aK (aZ (aZ ⟨done++[d],ds,bs1,by simp[e],hl',by simp[hb,RT,jU],by simp[RW,lY,IT]⟩))
  ·rintro b s' ⟨done,left,bs,e,hl,hb,rfl⟩
   cases hl
   rw[rE] at e
   subst e
   show aO _ _ (retInt (xR b.toList)) _ _ _
   rw[hb]
   refine wpAny_ret_mkInt ?_
   show aO _ _ (if (decide (-(2:Int) ^ 63≤xR (jU w ks))&&decide (xR (jU w ks)<2 ^ 63))=true then _ else _) Q E _
   simp only[oF,pK] at h
   unfold reduceHash at h
   by_cases hr:(decide (-(2:Int) ^ 63≤xR (jU w ks))&&decide (xR (jU w ks)<2 ^ 63))=true
   ·rw[if_pos hr]
    rw[if_pos hr] at h
    exact aZ (by simpa [IT] using h)
   ·rw[if_neg hr]
    rw[if_neg hr] at h
    exact aK (wpAny_rule (aZ (by simpa [IT] using h)))
 | .none,A,E,s,v,as,Q,hu,hk,r,h=>by simp[bJ] at hk
 | .bool _,A,E,s,v,as,Q,hu,hk,r,h=>by simp[bJ] at hk
 | .list _,A,E,s,v,as,Q,hu,hk,r,h=>by simp[bJ] at hk
 | .dict _,A,E,s,v,as,Q,hu,hk,r,h=>by simp[bJ] at hk
theorem RF : ∀ (ks:List aA) {d:aA},d∈ks -> ∀ {A:bT} {E:aE->aG->Prop} {s:aG} {v:aE} {as:List aB} {Q:Int->aG->Prop},A.units+cW ks<cLine->bP ks=true->nQ s.heap v d as ->
  Q (oF w d) { s with toks:=s.toks+pK d }->aO (aP prog w) A (pyHash v) Q E s
 | [],_,hm,_,_,_,_,_,_,_,_,_,_=>by simp at hm
 | k::ks,d,hm,A,E,s,v,as,Q,hu,hk,r,h=>by
  have hk':bJ k=true/\bP ks=true:=by simpa [bP] using hk
  have hdep:A.units+max k.depth (cW ks)<cLine:=by simpa [cW] using hu
  by_cases e:d=k
  ·exact QN k (by omega) hk'.1 (e ▸ r) (by rw[← e]; exact h)
  ·have hm':d∈ks:=by
    rcases cJ.mp hm with q | q
    ·exact absurd q e
    ·exact q
   exact RF ks hm' (by omega) hk'.2 r h
end
end
section
variable {prog:bC}{w:aW}
mutual
theorem OZ : ∀ (d:aA) (n:Nat) {A:bT} {E:aE->aG->Prop} {s:aG} {v:aE} {as:List aB} {Q:Bool->aG->Prop},d.depth≤n->bJ d=true->nQ s.heap v d as ->
  Q true s->aO (aP prog w) A (eqIsQuiet n v) Q E s
 | .int i,n,A,E,s,v,as,Q,hu,hk,r,h=>by
  cases r with
  | int _ t=>
   rw[eqIsQuiet_byValue n (by rfl)]
   exact aZ h
 | .str x,n,A,E,s,v,as,Q,hu,hk,r,h=>by
  cases r with
  | str _ t=>
   rw[eqIsQuiet_byValue n (by rfl)]
   exact aZ h
 | .tuple ks,n,A,E,s,v,as,Q,hu,hk,r,h=>by
  obtain⟨a,o,items,m,rfl,ho,hc,hd,hi⟩:=sP r
  have hT:s.TypeIs (.ref a) "tuple":=⟨o,ho,hc⟩
  have hdep:cW ks+1≤n:=by simpa [iZ] using hu
  obtain⟨n,rfl⟩ : ∃ m,n=m+1:=⟨n - 1,by omega⟩
  have hk':bP ks=true:=by simpa [bJ] using hk
  unfold eqIsQuiet
  refine aK (AG hT F.slot_tuple_eq.lookup ?_)
  refine aK (UD hT isSubtype_tuple_tuple ?_)
  simp only[Bool.not_true,mO,if_false]
  refine aK (wpAny_seqItems ho hd ?_)
  refine aK ?_
  rw[← Array.forIn_toList]
  refine wpAny_forIn_list _ (fun rest r s'=>r.1=none/\s'=s /\ ∃ ds bs,nP s.heap rest ds bs /\ ∀ d∈ds,d∈ks) _ ?_ ?_ _ _ ⟨rfl,rfl,ks,as,hi,fun _ h=>h⟩
  ·rintro v rest r s' ⟨hr,rfl,ds,bs,hl,hall⟩
   cases hl with
   | @cons _ _ d ds as1 bs1 h1 hl'=>
    refine aK (QK ks (hall d bY) n (by omega) hk' h1 ?_)
    simp only[Bool.not_true,mO,if_false]
    exact aZ ⟨rfl,rfl,ds,bs1,hl',fun u hu'=>hall u (cA _ hu')⟩
  ·rintro⟨r1,r2⟩ s' ⟨hr,rfl,_⟩
   simp only at hr
   subst hr
   exact aZ h
 | .none,n,A,E,s,v,as,Q,hu,hk,r,h=>by simp[bJ] at hk
 | .bool _,n,A,E,s,v,as,Q,hu,hk,r,h=>by simp[bJ] at hk
 | .list _,n,A,E,s,v,as,Q,hu,hk,r,h=>by simp[bJ] at hk
 | .dict _,n,A,E,s,v,as,Q,hu,hk,r,h=>by simp[bJ] at hk
theorem QK : ∀ (ks:List aA) {d:aA},d∈ks -> ∀ (n:Nat) {A:bT} {E:aE->aG->Prop} {s:aG} {v:aE} {as:List aB} {Q:Bool->aG->Prop},cW ks≤n->bP ks=true->nQ s.heap v d as ->
  Q true s->aO (aP prog w) A (eqIsQuiet n v) Q E s
 | [],_,hm,_,_,_,_,_,_,_,_,_,_,_=>by simp at hm
 | k::ks,d,hm,n,A,E,s,v,as,Q,hu,hk,r,h=>by
  have hk':bJ k=true/\bP ks=true:=by simpa [bP] using hk
  have hdep:max k.depth (cW ks)≤n:=by simpa [cW] using hu
  by_cases e:d=k
  ·exact OZ k n (by omega) hk'.1 (e ▸ r) h
  ·have hm':d∈ks:=by
    rcases cJ.mp hm with q | q
    ·exact absurd q e
    ·exact q
   exact QK ks hm' n (by omega) hk'.2 r h
end
mutual
theorem QO {h h':aQ}(kp : ∀ b o vs n,h.get? b=some o->o.cls = .type "tuple" -> o.data = .seq vs n->h'.get? b=some o) : ∀ (d:aA) {v:aE} {as:List aB},bJ d=true->nQ h v d as->nQ h' v d as
 | .int i,v,as,hk,r=>by
  cases r with
  | int _ t=>exact .int i t
 | .str x,v,as,hk,r=>by
  cases r with
  | str _ t=>exact .str x t
 | .tuple ks,v,as,hk,r=>by
  obtain⟨a,o,items,m,rfl,ho,hc,hd,hi⟩:=sP r
  exact .tuple (kp _ _ _ _ ho hc hd) hc hd (RV kp ks (by simpa [bJ] using hk) hi)
 | .none,v,as,hk,r=>by simp[bJ] at hk
 | .bool _,v,as,hk,r=>by simp[bJ] at hk
 | .list _,v,as,hk,r=>by simp[bJ] at hk
 | .dict _,v,as,hk,r=>by simp[bJ] at hk
theorem RV {h h':aQ}(kp : ∀ b o vs n,h.get? b=some o->o.cls = .type "tuple" -> o.data = .seq vs n->h'.get? b=some o) : ∀ (ds:List aA) {vs:List aE} {as:List aB},bP ds=true->nP h vs ds as->nP h' vs ds as
 | [],vs,as,hk,r=>by
  cases r with
  | nil=>exact .nil
 | d::ds,vs,as,hk,r=>by
  have hk':bJ d=true/\bP ds=true:=by simpa [bP] using hk
  cases r with
  | cons r1 r2=>exact .cons (QO kp d hk'.1 r1) (RV kp ds hk'.2 r2)
end
def Aju (h:aQ)(ks:List aA)(a:aB):Prop:=bP ks=true/\cW ks≤6 /\ ∃ as,nQ h (.ref a) (.tuple ks) as
theorem Aju.keep {h h':aQ}{ks:List aA}{a:aB}(kp : ∀ b o vs n,h.get? b=some o->o.cls = .type "tuple" -> o.data = .seq vs n->h'.get? b=some o)(k:Aju h ks a):Aju h' ks a:=
 ⟨k.1,k.2.1,k.2.2.choose,QO kp (.tuple ks) (by simpa [bJ] using k.1) k.2.2.choose_spec⟩
noncomputable def mC (prog:bC)(w:aW):HeapKind prog w (List aA) where
 is:=Aju
 hash:=fun ks=>oF w (.tuple ks)
 draws:=fun ks=>pK (.tuple ks)
 room:=fun A=>A.units+20<cLine
 inj:=fun {h a x y} hx hy=>by
  obtain⟨k1,_,as,r1⟩:=hx
  obtain⟨k2,_,bs,r2⟩:=hy
  exact AU (reads_det (fun _ _ e _=>e) r2 r1).1
 keeps:=fun {h h' k a d o es ep} x ho hd hs=>x.keep fun b ob vs n hb _ hd'=>by
  have hne:b≠d:=by
   rintro rfl
   rw[ho] at hb
   cases hb
   rw[hd] at hd'
   cases hd'
  exact(hs.2 b hne).trans hb
 pyHash:=fun {A E s k a Q} hu hk h=>by
  obtain⟨k1,k2,as,r⟩:=hk
  exact QN (.tuple k) (by simp only[iZ]; omega) (by simpa [bJ] using k1) r h
 eqBool:=fun {A E s x y a b Q} hu hx hy h=>by
  obtain⟨k1,d1,as,r1⟩:=hx
  obtain⟨k2,d2,bs,r2⟩:=hy
  have e:=EO (.tuple x) (.tuple y) (by simpa [bJ] using k1) (by simpa [bJ] using k2)
  have e2:decide ((gY x) = .tuple y)=decide (x=y):=by
   by_cases q:x=y
   ·subst q; simp
   ·rw[decide_eq_false q,decide_eq_false (fun z=>q (AU z))]
  have:=SeqAt.eqAt_reads (.tuple x) (.tuple y) A s (.ref a) (.ref b) as bs r1 r2 (FD _ (by simpa [bJ] using k1)) (FD _ (by simpa [bJ] using k2)) (by simp only[iZ]; omega)
  rw[e,e2] at this
  exact this prog w E Q h
 quiet:=fun {A E s k a Q} hk h=>by
  obtain⟨k1,k2,as,r⟩:=hk
  exact OZ (.tuple k) 8 (by simp only[iZ]; omega) (by simpa [bJ] using k1) r h
end
abbrev aN:=Sum Int aD
noncomputable def rN:aN->aE->Bool
 | .inl k,v=>Value.isInt k v
 | .inr x,v=>Value.isStrOf x v
noncomputable def WC (w:aW):aN->Int
 | .inl k=>hashInt k
 | .inr x=>hashStr w x
theorem lI : ∀ {k:aN} {v:aE},rN k v=true->(∃ i t,k=tU i/\v=AO i t) \/ (∃ x t,k=iH x/\v=AN x t)
 | .inl i,v,h=>by
  obtain⟨t,e⟩:=Value.isInt_shape (k:=i) (v:=v) h
  exact .inl ⟨i,t,rfl,e⟩
 | .inr x,v,h=>by
  obtain⟨t,e⟩:=Value.isStrOf_shape (x:=x) (v:=v) h
  exact .inr ⟨x,t,rfl,e⟩
theorem Dk (i:Int)(t:Tok):rN (.inl i) (.int i t)=true:=by simp[rN,Value.isInt]
theorem Bp (x:aD)(t:Tok):rN (.inr x) (.str x t)=true:=by simp[rN,Value.isStrOf]
theorem Ir (a b:Int):decide ((tU a:aN)=tU b)=(a == b):=by
 by_cases e:a=b
 ·subst e; simp
 ·have h : ¬ (tU a:aN)=tU b:=fun q=>e (Sum.inl.inj q)
  rw[decide_eq_false h]
  exact(beq_eq_false_iff_ne.mpr e).symm
theorem Je (a b:aD):decide ((iH a:aN)=iH b)=decide (a=b):=by
 by_cases e:a=b
 ·subst e; simp
 ·have h : ¬ (iH a:aN)=iH b:=fun q=>e (Sum.inr.inj q)
  rw[decide_eq_false h,decide_eq_false e]
theorem ZN (a:Int)(b:aD):decide ((tU a:aN)=iH b)=false:=decide_eq_false (fun q=>nomatch q)
theorem Ii (a:aD)(b:Int):decide ((iH a:aN)=tU b)=false:=decide_eq_false (fun q=>nomatch q)
noncomputable def eA (prog:bC)(w:aW):PySem.KeyKind prog w aN where
 is:=rN
 hash:=WC w
 inj:=fun v a b ha hb=>by
  rcases lI ha with⟨i,t,rfl,rfl⟩ | ⟨x,t,rfl,rfl⟩
  ·rcases lI hb with⟨j,u,rfl,e⟩ | ⟨y,u,rfl,e⟩
   ·injection e with e1 _; rw[e1]
   ·exact nomatch e
  ·rcases lI hb with⟨j,u,rfl,e⟩ | ⟨y,u,rfl,e⟩
   ·exact nomatch e
   ·injection e with e1 _; rw[e1]
 byValue:=fun k v h=>by
  rcases lI h with⟨i,t,rfl,rfl⟩ | ⟨x,t,rfl,rfl⟩ <;> rfl
 pyHash:=fun hv h=>by
  rcases lI hv with⟨i,t,rfl,rfl⟩ | ⟨x,t,rfl,rfl⟩
  ·exact wpAny_pyHash_int h
  ·exact wpAny_pyHash_str h
 eqBool:=fun hu hv h=>by
  rcases lI hu with⟨i,t,rfl,rfl⟩ | ⟨x,t,rfl,rfl⟩
  ·rcases lI hv with⟨j,u,rfl,rfl⟩ | ⟨y,u,rfl,rfl⟩
   ·rw[Ir] at h; exact wpAny_eqBool_int h
   ·rw[ZN] at h; exact SeqAt.EqAt.int_str i t y u _ _ _ _ h
  ·rcases lI hv with⟨j,u,rfl,rfl⟩ | ⟨y,u,rfl,rfl⟩
   ·rw[Ii] at h; exact SeqAt.EqAt.str_int x t j u _ _ _ _ h
   ·rw[Je] at h; exact wpAny_eqBool_str h
 «strs»:=fun k x t v h=>by
  rcases lI h with⟨i,u,rfl,e⟩ | ⟨y,u,rfl,e⟩
  ·exact nomatch e
  ·injection e with e1 _
   subst e1
   cases v <;> rfl
theorem GS (prog:bC)(w:aW)(i:Int)(t:Tok):(eA prog w).is (.inl i) (.int i t)=true:=Dk i t
theorem GQ (prog:bC)(w:aW)(x:aD)(t:Tok):(eA prog w).is (.inr x) (.str x t)=true:=Bp x t
inductive V where
 | non | bl (b:Bool) | int (i:Int) | str (x:aD) | byt (b:Array UInt8) | flt (b:UInt64) | ref (a:aB) | ty (n:String)
 deriving DecidableEq
def RelV:V->aE->Prop
 | .non,u=>u=fX
 | .bl b,u=>u=Value.bool b
 | .int i,u=>∃ t,u=AO i t
 | .str x,u=>∃ t,u=AN x t
 | .byt b,u=>∃ t,u=Value.bytes b t
 | .flt b,u=>∃ t,u=Value.float b t
 | .ref a,u=>u=cZ a
 | .ty n,u=>u=kE n
abbrev Vals:List V->List aE->Prop:=dI RelV
theorem Vals.length {xs:List V}{us:List aE}(r:Vals xs us):xs.length=us.length:=nT r
theorem Vals.get : ∀ {xs:List V} {us:List aE} {i:Nat} {x:V},Vals xs us->xs[i]?=some x -> ∃ u,us[i]?=some u/\RelV x u
 | _,_,_,_,.nil,e=>by simp at e
 | _,_,0,_,.cons r _,e=>by simp at e; subst e; exact⟨_,rfl,r⟩
 | _,_,i+1,x,.cons _ t,e=>by
  obtain⟨u,h1,h2⟩:=Vals.get (i:=i) (x:=x) t (by simpa using e)
  exact⟨u,by simpa using h1,h2⟩
theorem Vals.set {x:V}{u:aE}(r:RelV x u) : ∀ {xs:List V} {us:List aE} (i:Nat),Vals xs us->Vals (xs.set i x) (us.set i u)
 | _,_,_,.nil=>.nil
 | _,_,0,.cons _ t=>.cons r t
 | _,_,i+1,.cons q t=>.cons q (Vals.set r i t)
theorem Vals.append : ∀ {xs ys:List V} {us ws:List aE},Vals xs us->Vals ys ws->Vals (xs++ys) (us++ws)
 | _,_,_,_,.nil,s=>s
 | _,_,_,_,.cons r t,s=>.cons r (Vals.append t s)
theorem Vals.take : ∀ {xs:List V} {us:List aE} (n:Nat),Vals xs us->Vals (xs.take n) (us.take n)
 | _,_,0,_=>.nil
 | _,_,_+1,.nil=>.nil
 | _,_,n+1,.cons r t=>.cons r (Vals.take n t)
theorem Vals.drop : ∀ {xs:List V} {us:List aE} (n:Nat),Vals xs us->Vals (xs.drop n) (us.drop n)
 | _,_,0,r=>r
 | _,_,_+1,.nil=>.nil
 | _,_,n+1,.cons _ t=>Vals.drop n t
def An8:Option V->Option aE->Prop
 | some v,some u=>RelV v u
 | none,none=>True
 | _,_=>False
def KV {κ:Type}:List (κ×V)->List (κ×aE)->Prop:=dI fun(p:κ×V) (q:κ×aE)=>p.1=q.1/\RelV p.2 q.2
noncomputable def kV:aN->V
 | .inl i=>.int i
 | .inr x=>.str x
inductive HO where
 | lst (xs:List V)
 | tup (xs:List V)
 | dK (ep:Nat) (kvs:List (aN×V)) | dT (ep:Nat) (kvs:List (List aA×V))
 | set (S:Int->Bool) (n:Nat)
 | ins (C dx:aB) (fs:List (aD×V))
 | own (x:aB)
 | xd (fs:List (aD×V))
 | met (f x:aB)
 | rng (lo hi:Int)
 | frz (o:aY) (u:HO)
 | tbl (ps:Array aE)
 | ext (φ:aQ->Prop)
abbrev Hp:=aB->Option HO
noncomputable def upd (H:Hp)(a:aB)(o:HO):Hp:=fun b=>if b=a then some o else H b
theorem eB {H:Hp}{a:aB}{o:HO}:upd H a o a=some o:=by unfold upd; rw[if_pos rfl]
theorem bN {H:Hp}{a b:aB}{o:HO}(h:b≠a):upd H a o b=H b:=by unfold upd; rw[if_neg h]
theorem SH {H:Hp}{a b:aB}{o u:HO}(h:H a=some o)(h':H b=some u)(d:o≠u):a≠b:=by
 intro e; subst e; rw[h] at h'; exact d (eO h')
theorem gK {H:Hp}{a b:aB}{o:HO}(h:H a=some o)(h':H b=none):a≠b:=by
 intro e; subst e; rw[h] at h'; cases h'
mutual
def Ahd (H:Hp):aA->V->Prop
 | .int i,v=>v = .int i
 | .str x,v=>v = .str x
 | .tuple ds,v=>∃ a xs,v = .ref a/\H a=some (.tup xs)/\Aeo H ds xs
 | _,_=>False
def Aeo (H:Hp):List aA->List V->Prop
 | [],vs=>vs=[]
 | d::r,vs=>∃ x rr,vs=x::rr/\Ahd H d x/\Aeo H r rr
end
mutual
theorem Ahd.keep {H H':Hp}(ht : ∀ b xs,H b=some (.tup xs)->H' b=some (.tup xs)) : ∀ {d:aA} {v:V},Ahd H d v->Ahd H' d v
 | .int _,_,k=>by simpa [Ahd] using k
 | .str _,_,k=>by simpa [Ahd] using k
 | .tuple ds,_,k=>by
  simp only[Ahd] at k ⊢
  obtain⟨a,xs,e,h,ks⟩:=k
  exact⟨a,xs,e,ht _ _ h,Aeo.keep ht ks⟩
 | .none,_,k=>by simp[Ahd] at k
 | .bool _,_,k=>by simp[Ahd] at k
 | .list _,_,k=>by simp[Ahd] at k
 | .dict _,_,k=>by simp[Ahd] at k
theorem Aeo.keep {H H':Hp}(ht : ∀ b xs,H b=some (.tup xs)->H' b=some (.tup xs)) : ∀ {ds:List aA} {vs:List V},Aeo H ds vs->Aeo H' ds vs
 | [],_,k=>by simpa [Aeo] using k
 | d::ds,_,k=>by
  simp only[Aeo] at k ⊢
  obtain⟨x,r,e,k1,k2⟩:=k
  exact⟨x,r,e,Ahd.keep ht k1,Aeo.keep ht k2⟩
end
def Ajf (H:Hp)(ks:List aA)(a:aB):Prop:=bP ks=true/\cW ks≤6 /\ ∃ xs,H a=some (.tup xs)/\Aeo H ks xs
theorem Ajf.keep {H H':Hp}{ks:List aA}{a:aB}(k:Ajf H ks a)(ht : ∀ b xs,H b=some (.tup xs)->H' b=some (.tup xs)):Ajf H' ks a:=
 ⟨k.1,k.2.1,k.2.2.choose,ht _ _ k.2.2.choose_spec.1,k.2.2.choose_spec.2.keep ht⟩
def A8n (h:aQ)(a:aB)(its:Array aE):Prop:=IsTup h a its /\ ∃ o,h.get? a=some o/\o.dict=none
theorem A8n.new (h:aQ)(its:Array aE):A8n (h.push { cls:=.type "tuple",data:=.seq its }) h.objs.size its:=⟨IsTup.new _ _,_,eY _ rfl,rfl⟩
section
variable (P:bC)(w:aW)
def Acs (H:Hp)(h:aQ)(a:aB):HO->Prop
 | .lst xs=>xs.length≤sizeLine /\ ∃ (its:List aE) (n:Nat),Vals xs its/\h.get? a=some { cls:=.type "list",data:=.seq its.toArray n }
 | .tup xs=>xs.length≤sizeLine /\ ∃ its:List aE,Vals xs its/\A8n h a its.toArray
 | .dK ep kvs=>kvs.length≤sizeLine/\(a == gW)=false /\ ∃ vs,KV kvs vs/\h.DictAt (eA P w) a vs ep
 | .dT ep kvs=>kvs.length≤sizeLine/\(a == gW)=false /\ ∃ xs:List (List aA×aB×aE),
   dI (fun(p:List aA×V) (q:List aA×aB×aE)=>p.1=q.1/\Ajf H p.1 q.2.1/\RelV p.2 q.2.2) kvs xs /\
   ∃ o es,h.get? a=some o/\o.ExactDict/\o.data = .dict es ep/\es.toList=xs.map (entryOfKey (mC P w))/\(xs.map (·.1)).Nodup
 | .set S n=>h.SetOf (intKind P w) a S n
 | .ins C dx fs=>H dx=some (.own a)/\fs.length≤1000/\dx≠a/\h.get? a=some (nR C dx) /\
   ∃ mA,h.Ns1 dx mA/\(∀ f,An8 (fs.lookup f) (mA f))/\PySem.Within mA (fs.map (·.1))
 | .own _=>∃ o,h.get? a=some o
 | .xd fs=>∃ mA,h.Ns1 a mA /\ ∀ f,An8 (fs.lookup f) (mA f)
 | .rng lo hi=>∃ t u v,h.get? a=some { cls:=.type "range",data:=.fields #[.int lo t,.int hi u,.int 1 v] }
 | .frz o u=>h.get? a=some o/\Acs H h a u
 | .tbl ps=>h.get? a=some { cls:=.none,data:=.fields ps }
 | .met f x=>h.get? a=some (UM (.ref f) (.ref x))
 | .ext φ=>φ h/\(∃ o,h.get? a=some o) /\ ∀ h1 h2:aQ,φ h1->(∀ o,h1.get? a=some o->h2.get? a=some o)->φ h2
def HOk (H:Hp)(h:aQ):Prop:=∀ a o,H a=some o->Acs P w H h a o
end
section
variable {P:bC}{w:aW}{H H':Hp}{h h':aQ}{a:aB}{o:HO}
theorem Acs.lt (x:Acs P w H h a o):a<h.objs.size:=by
 cases o with
 | lst xs=>obtain⟨_,_,_,_,e⟩:=x; exact cD e
 | tup xs=>obtain⟨_,_,_,p⟩:=x; exact p.1.lt
 | dK ep kvs=>obtain⟨_,_,_,_,o,_,e,_⟩:=x; exact cD e
 | dT ep kvs=>obtain⟨_,_,_,_,o,_,e,_⟩:=x; exact cD e
 | set S n=>obtain⟨o,_,_,_,e,_⟩:=x; exact cD e
 | ins C dx fs=>obtain⟨_,_,_,e,_⟩:=x; exact cD e
 | own y=>obtain⟨_,e⟩:=x; exact cD e
 | xd fs=>obtain⟨_,⟨_,_,_,e,_⟩,_⟩:=x; exact cD e
 | rng lo hi=>obtain⟨_,_,_,e⟩:=x; exact cD e
 | frz ob u=>obtain⟨e,_⟩:=x; exact cD e
 | tbl ps=>exact cD (show h.get? a=some _ from x)
 | met f y=>exact cD (show h.get? a=some _ from x)
 | ext φ=>obtain⟨_,⟨_,e⟩,_⟩:=x; exact cD e
theorem Paired.mapP {α β:Type}{F G:α->β->Prop} : ∀ {l₁:List α} {l₂:List β},dI F l₁ l₂->(∀ a b,F a b->G a b)->dI G l₁ l₂:=by
 intro l₁ l₂ h
 induction h with
 | nil=>exact fun _=>.nil
 | cons r _ ih=>exact fun f=>.cons (f _ _ r) (ih f)
theorem Acs.stay (x:Acs P w H h a o)(k : ∀ b u,(b=a \/ H b=some (.own a))->h.get? b=some u->h'.get? b=some u)
  (ho : ∀ b,H b=some (.own a)->H' b=some (.own a)) (ht : ∀ b xs,H b=some (.tup xs)->H' b=some (.tup xs)):Acs P w H' h' a o:=by
 induction o with
 | lst xs=>obtain⟨z,its,n,r,e⟩:=x; exact⟨z,its,n,r,k _ _ (.inl rfl) e⟩
 | tup xs=>obtain⟨z,its,r,⟨ob,e,c⟩,ob2,e2,c2⟩:=x; exact⟨z,its,r,⟨ob,k _ _ (.inl rfl) e,c⟩,ob2,k _ _ (.inl rfl) e2,c2⟩
 | dK ep kvs=>obtain⟨z,y,vs,r,ob,es,e,c⟩:=x; exact⟨z,y,vs,r,ob,es,k _ _ (.inl rfl) e,c⟩
 | dT ep kvs=>
  obtain⟨z,y,xs,r,ob,es,e,c⟩:=x
  exact⟨z,y,xs,Paired.mapP r fun p q z=>⟨z.1,z.2.1.keep ht,z.2.2⟩,ob,es,k _ _ (.inl rfl) e,c⟩
 | set S n=>obtain⟨ob,es,ep,t,e,c⟩:=x; exact⟨ob,es,ep,t,k _ _ (.inl rfl) e,c⟩
 | ins C dx fs=>
  obtain⟨d,z,ne,e,mA,⟨od,es,ep,e2,c⟩,r⟩:=x
  exact⟨ho _ d,z,ne,k _ _ (.inl rfl) e,mA,⟨od,es,ep,k _ _ (.inr d) e2,c⟩,r⟩
 | own y=>obtain⟨ob,e⟩:=x; exact⟨ob,k _ _ (.inl rfl) e⟩
 | xd fs=>obtain⟨mA,⟨od,es,ep,e,c⟩,r⟩:=x; exact⟨mA,⟨od,es,ep,k _ _ (.inl rfl) e,c⟩,r⟩
 | rng lo hi=>obtain⟨t,u,v,e⟩:=x; exact⟨t,u,v,k _ _ (.inl rfl) e⟩
 | frz ob u ih=>obtain⟨e,q⟩:=x; exact⟨k _ _ (.inl rfl) e,ih q⟩
 | tbl ps=>
  have e:h.get? a=some { cls:=.none,data:=.fields ps }:=x
  show h'.get? a=some { cls:=.none,data:=.fields ps }
  exact k a _ (.inl rfl) e
 | met f y=>
  have e:h.get? a=some (UM (.ref f) (.ref y)):=x
  show h'.get? a=some (UM (.ref f) (.ref y))
  exact k a _ (.inl rfl) e
 | ext φ=>obtain⟨p,⟨o,e⟩,st⟩:=x; exact⟨st _ _ p fun o q=>k _ _ (.inl rfl) q,⟨o,k _ _ (.inl rfl) e⟩,st⟩
theorem HOk.lt (x:HOk P w H h)(e:H a=some o):a<h.objs.size:=(x a o e).lt
theorem HOk.fresh (x:HOk P w H h)(e:h.objs.size≤a):H a=none:=by
 cases q:H a with
 | none=>rfl
 | some u=>exact absurd (fL (x.lt q) e) (kZ _)
theorem HOk.kept (x:HOk P w H h)(k : ∀ b u,h.get? b=some u->h'.get? b=some u):HOk P w H h':=fun a o e=>
 (x a o e).stay (fun b u _ q=>k b u q) (fun _ q=>q) fun _ _ q=>q
theorem HOk.laid (x:HOk P w H h)(k : ∀ b u,h.get? b=some u->h'.get? b=some u)(hp:h.objs.size≤a)(new:Acs P w (upd H a o) h' a o):HOk P w (upd H a o) h':=fun b u e=>by
 have hn:=x.fresh hp
 by_cases hb:b=a
 ·subst hb; rw[eB] at e; cases e; exact new
 ·rw[bN hb] at e
  exact(x b u e).stay (fun c v _ q=>k c v q) (fun c q=>by rw[bN (gK q hn)]; exact q) fun c xs q=>by rw[bN (gK q hn)]; exact q
end
def Rd (H:Hp)(a:aB)(u:HO):Prop:=H a=some u \/ ∃ o,H a=some (.frz o u)
theorem Rd.ok {P:bC}{w:aW}{H:Hp}{h:aQ}{a:aB}{u:HO}(r:Rd H a u)(x:HOk P w H h):Acs P w H h a u:=by
 rcases r with r | ⟨o,r⟩
 ·exact x a u r
 ·obtain⟨_,q⟩:=x a _ r
  exact q
def uF:Option HO->Prop
 | some (.lst _)=>True
 | some (.dK _ _)=>True
 | some (.dT _ _)=>True
 | some (.set _ _)=>True
 | some (.ins _ _ _)=>True
 | some (.ext _)=>True
 | _=>False
section
variable {P:bC}{w:aW}{H:Hp}{h h':aQ}{x e:aB}{o':HO}
theorem HOk.write (ok:HOk P w H h)(mu:uF (H x))(he:e=x \/ H e=some (.own x))(k : ∀ b u,b≠e->h.get? b=some u->h'.get? b=some u)(heo : ∃ u,h'.get? e=some u)
  (new:Acs P w (upd H x o') h' x o'):HOk P w (upd H x o') h':=fun b u q=>by
 have nown : ∀ c y,H c=some (.own y)->c≠x:=fun c y r z=>by subst z; rw[r] at mu; exact mu
 have ntup : ∀ c xs,H c=some (.tup xs)->c≠x:=fun c xs r z=>by subst z; rw[r] at mu; exact mu
 by_cases hb:b=x
 ·subst hb; rw[eB] at q; cases q; exact new
 ·rw[bN hb] at q
  by_cases hbe:b=e
  ·have q':H b=some (.own x):=by
    rcases he with z | z
    ·exact absurd (hbe.trans z) hb
    ·rw[hbe]; exact z
   rw[q] at q'; cases q'
   obtain⟨v,hv⟩:=heo
   exact⟨v,by rw[hbe]; exact hv⟩
  ·refine(ok b u q).stay (fun c v hc r=>k c v ?_ r) (fun c r=>by rw[bN (nown c b r)]; exact r) fun c xs r=>by rw[bN (ntup c xs r)]; exact r
   rcases hc with rfl | hc
   ·exact hbe
   ·rintro rfl
    rcases he with z | z
    ·exact nown c b hc z
    ·rw[hc] at z; cases z; exact hb rfl
end
structure Un (fs ex:List aB)(H H':Hp)(h h':aQ):Prop where
 keep : ∀ b o,h.get? b=some o->H b=none->b∉fs->b∉ex->h'.get? b=some o
 slot : ∀ b o,h.get? b=some o->H b=none->b∈fs->b∉ex -> ∃ sl,h'.get? b=some { o with slots:=sl }
 free : ∀ b o,h.get? b=some o->H b=none->b∉ex->H' b=none
 there : ∀ b o,h.get? b=some o->b∉ex -> ∃ o',h'.get? b=some o'
 tups : ∀ b xs,H b=some (.tup xs)->H' b=some (.tup xs)
 frzs : ∀ b o u,H b=some (.frz o u)->H' b=some (.frz o u)
 tbls : ∀ b ps,H b=some (.tbl ps) -> ∃ more,H' b=some (.tbl (ps++more))
section
variable {fs fs' ex ex':List aB}{H H1 H2:Hp}{h h1 h2 h':aQ}{a x e:aB}{o:HO}
theorem Un.any (u:Un fs ex H H1 h h1){b:aB}{ob:aY}(q:h.get? b=some ob)(n:H b=none)(hx:b∉ex) : ∃ sl,h1.get? b=some { ob with slots:=sl }:=by
 by_cases hb:b∈fs
 ·exact u.slot b ob q n hb hx
 ·exact⟨ob.slots,u.keep b ob q n hb hx⟩
theorem Un.trans (a:Un fs ex H H1 h h1)(b:Un fs ex H1 H2 h1 h2):Un fs ex H H2 h h2 where
 keep:=fun c ob q n hc hx=>b.keep c ob (a.keep c ob q n hc hx) (a.free c ob q n hx) hc hx
 slot:=fun c ob q n hc hx=>by
  obtain⟨sl,e1⟩:=a.slot c ob q n hc hx
  obtain⟨sl',e2⟩:=b.slot c _ e1 (a.free c ob q n hx) hc hx
  exact⟨sl',e2⟩
 free:=fun c ob q n hx=>by
  obtain⟨o',e1⟩:=a.there c ob q hx
  exact b.free c o' e1 (a.free c ob q n hx) hx
 there:=fun c ob q hx=>by
  obtain⟨o',e1⟩:=a.there c ob q hx
  exact b.there c o' e1 hx
 tups:=fun c xs q=>b.tups c xs (a.tups c xs q)
 frzs:=fun c ob xs q=>b.frzs c ob xs (a.frzs c ob xs q)
 tbls:=fun c ps q=>by
  obtain⟨m1,e1⟩:=a.tbls c ps q
  obtain⟨m2,e2⟩:=b.tbls c _ e1
  exact⟨m1++m2,by rw[e2,Array.append_assoc]⟩
theorem Un.kept (k : ∀ b u,h.get? b=some u->h'.get? b=some u):Un fs ex H H h h':=
 ⟨fun b ob q _ _ _=>k b ob q,fun b ob q _ _ _=>⟨ob.slots,k b ob q⟩,fun _ _ _ n _=>n,fun b ob q _=>⟨ob,k b ob q⟩,fun _ _ q=>q,fun _ _ _ q=>q,fun _ ps q=>⟨#[],by rw[q]; simp⟩⟩
theorem Un.refl:Un fs ex H H h h:=Un.kept fun _ _ q=>q
theorem Un.laid (k : ∀ b u,h.get? b=some u->h'.get? b=some u)(hp:h.objs.size≤a)(hn:H a=none):Un fs ex H (upd H a o) h h' where
 keep:=fun b u q _ _ _=>k b u q
 slot:=fun b u q _ _ _=>⟨u.slots,k b u q⟩
 free:=fun b u q n _=>by rw[bN (dA (fL (cD q) hp))]; exact n
 there:=fun b u q _=>⟨u,k b u q⟩
 tups:=fun b xs q=>by rw[bN (gK q hn)]; exact q
 frzs:=fun b u xs q=>by rw[bN (gK q hn)]; exact q
 tbls:=fun b ps q=>⟨#[],by rw[bN (gK q hn),q]; simp⟩
theorem Un.write (mu:uF (H x))(he:e=x \/ H e=some (.own x))(k : ∀ b u,b≠e->h.get? b=some u->h'.get? b=some u)(heo : ∃ u,h'.get? e=some u):Un fs ex H (upd H x o) h h':=by
 have hx : ∀ b,H b=none->b≠x:=fun b n z=>by subst z; rw[n] at mu; exact mu
 have hb : ∀ b,H b=none->b≠e:=fun b n z=>by
  subst z
  rcases he with r | r
  ·exact hx b n r
  ·rw[n] at r; cases r
 have hm : ∀ b u,H b=some u -> ¬ uF (some u)->b≠x:=fun b u q nm z=>by subst z; rw[q] at mu; exact nm mu
 refine⟨fun b u q n _ _=>k b u (hb b n) q,fun b u q n _ _=>⟨u.slots,k b u (hb b n) q⟩,fun b u q n _=>by rw[bN (hx b n)]; exact n,fun b u q _=>?_,
  fun b xs q=>by rw[bN (hm b _ q fun z=>z)]; exact q,fun b u xs q=>by rw[bN (hm b _ q fun z=>z)]; exact q,fun b ps q=>⟨#[],by rw[bN (hm b _ q fun z=>z),q]; simp⟩⟩
 by_cases hbe:b=e
 ·subst hbe; exact heo
 ·exact⟨u,k b u hbe q⟩
end
noncomputable def trk (h:aQ)(H:Hp):List aB:=(dF h.objs.size).filter fun a=>(H a).isSome
noncomputable def nD (h:aQ)(H:Hp):aQ:=PySem.W.hideAll h (trk h H)
theorem Bs (h:aQ)(H:Hp):(nD h H).objs.size=h.objs.size:=PySem.W.hideAll_size _ _
theorem Ox {h:aQ}{H:Hp}{b:aB}{o:aY}(e:h.get? b=some o)(n:H b=none):(nD h H).get? b=some o:=
 IH _ e fun hm=>by
  have q:(H b).isSome=true:=(xI.mp hm).2
  rw[n] at q; simp at q
theorem Ma {h:aQ}{H:Hp}{b:aB}{o:aY}(e:(nD h H).get? b=some o):h.get? b=some o/\H b=none:=by
 have e':h.get? b=some o:=UL (trk h H) e
 refine⟨e',?_⟩
 cases q:H b with
 | none=>rfl
 | some x=>
  have hm:b∈trk h H:=xI.mpr ⟨kJ.mpr (cD e'),by simp[q]⟩
  have z:(nD h H).get? b=none:=PySem.W.hideAll_none (trk h H) hm
  rw[z] at e; cases e
noncomputable def Ly (g h:aQ)(L:aB):List (aB×aY):=(dF h.objs.size).filterMap fun a=>if a=L \/ (g.get? a).isSome=true then none else(h.get? a).map fun o=>(a,o)
noncomputable def rest (g h:aQ)(L d:aB):List (aB×aY):=(Ly g h L).filter fun p=>decide (p.1≠d)
structure Mod (K:aH)(mg:aD->Option aE)(base:aQ):Prop where
 kin:K.In base
 glob:base.Ns bU mg
 blt : ∃ mb,base.Ns builtinsNs mb /\ ∀ x:aD,x ≠ "__name__" -> mb x=iX x
 nolimit:base.NoLimit
structure Cx where
 prog:bC
 w:aW
 K:aH
 mg:aD->Option aE
 base:aQ
 A:bT
 N:List aD
 s₀:aG
 H₀:Hp
 env:dN
 outer:List dN
 stack:List dN
 ex:List aB
 fn:aD->Bool
 calm:Bool
 pn:List (aB×aY)
 xe:aE->aG->Prop
noncomputable def frs (l:List dN):List aB:=l.filterMap (·.frame)
noncomputable abbrev Cx.fs (X:Cx):List aB:=frs X.outer
def lO (sc:gM)(x:aD):Prop:=sc.names.lookup x=some .local \/ sc.names.lookup x=some .cell \/ sc.names.lookup x=some .free
def lP (sc:gM)(x:aD):Prop:=sc.names.lookup x=some .local \/ sc.names.lookup x=some .cell
def Look (env:dN)(h:aQ)(m:aD->Option aE)(x:aD)(u:aE):Prop:=
 (env.kindOf x=some .local/\m x=some u) \/ ((env.kindOf x=some .cell \/ env.kindOf x=some .free) /\ ∃ c,env.cells.lookup x=some c/\h.IsCell c (some u))
structure Cx.Ok (X:Cx):Prop where
 mod:Mod X.K X.mg X.base
 kind:X.env.scope.kind = .function
 glob:X.env.globals=bU
 blt:X.env.builtins=builtinsNs
 above:X.s₀.heap.objs.size≤X.env.locals
 inj : ∀ x y c,X.env.cells.lookup x=some c->X.env.cells.lookup y=some c->x=y
 has : ∀ x,(X.env.kindOf x=some .cell \/ X.env.kindOf x=some .free) -> ∃ c,X.env.cells.lookup x=some c
 cab : ∀ x c,X.fn x=true->X.env.cells.lookup x=some c->X.s₀.heap.objs.size≤c
 hd:X.calm=true->X.A.handled=none
 frames:X.A.frames=some X.stack
 stk:X.stack=X.outer \/ (X.stack=X.env::X.outer/\X.env.frame=some X.env.locals)
 exf : ∀ b∈X.ex,b≠X.env.locals /\ ∀ x c,X.env.cells.lookup x=some c->c≠b
 bs : ∀ b o,X.base.get? b=some o->X.s₀.heap.get? b=some o/\X.H₀ b=none
 bsz:X.base.objs.size≤X.s₀.heap.objs.size
 noex : ∀ b o,X.base.get? b=some o->b∉X.ex
 exfs : ∀ b∈X.ex,b∉X.fs
 funs:X.s₀.heap.FunFrames X.base X.outer
 frf : ∀ b∈X.fs,X.H₀ b=none
structure Inv (X:Cx)(pins:List (aB×aY))(σ:List (Option V))(H:Hp)(s:aG):Prop where
 ok:X.Ok
 os:s.os=X.s₀.os
 bare:nY s.gens
 base:Un X.fs X.ex X.H₀ H X.s₀.heap s.heap
 loc : ∃ m,s.heap.Ns X.env.locals m /\ ∀ (i:Nat) (x:aD) (v:V),X.N[i]?=some x->σ[i]?=some (some v)->lO X.env.scope x -> ∃ u,RelV v u/\Look X.env s.heap m x u
 cell : ∀ x c,X.env.cells.lookup x=some c -> ∃ v,s.heap.IsCell c v
 free:H X.env.locals=none
 freeC : ∀ x c,X.env.cells.lookup x=some c->H c=none
 pin : ∀ p∈X.pn++pins,s.heap.get? p.1=some p.2/\H p.1=none/\p.1≠X.env.locals/\p.1∉X.fs /\ ∀ v,p.2.data ≠ .cell v
 hok:HOk X.prog X.w H s.heap
 len:σ.length=X.N.length
section
variable {X:Cx}{pins:List (aB×aY)}{σ:List (Option V)}{H H':Hp}{s:aG}{h':aQ}
theorem Cx.Ok.nofr (ok:X.Ok){b:aB}{o:aY}(e:X.base.get? b=some o):b∉X.fs:=fun hb=>by
 have:=(ok.funs.mem hb).1
 rw[e] at this; cases this
theorem Inv.bs (I:Inv X pins σ H s) : ∀ b o,X.base.get? b=some o->s.heap.get? b=some o/\H b=none:=fun b o e=>
 ⟨I.base.keep b o (I.ok.bs b o e).1 (I.ok.bs b o e).2 (I.ok.nofr e) (I.ok.noex b o e),I.base.free b o (I.ok.bs b o e).1 (I.ok.bs b o e).2 (I.ok.noex b o e)⟩
theorem Inv.bk (I:Inv X pins σ H s) : ∀ b o,X.base.get? b=some o->s.heap.get? b=some o:=fun b o e=>(I.bs b o e).1
theorem Inv.mod (I:Inv X pins σ H s):Mod X.K X.mg X.base:=I.ok.mod
theorem Inv.kIn (I:Inv X pins σ H s):X.K.In s.heap:=I.ok.mod.kin.keeps I.bk
theorem Inv.lt (I:Inv X pins σ H s):X.env.locals<s.heap.objs.size:=let ⟨_,hn,_⟩:=I.loc; hn.lt
theorem Inv.sz (I:Inv X pins σ H s):X.s₀.heap.objs.size≤s.heap.objs.size:=jM I.ok.above (IR I.lt)
theorem Inv.nofs (I:Inv X pins σ H s){a:aB}(h:s.heap.objs.size≤a):a∉X.fs:=fun hb=>by
 obtain⟨_,o,ho,_⟩:=I.ok.funs.mem hb
 exact absurd (fL (cD ho) (jM I.sz h)) (kZ _)
theorem Inv.cne (I:Inv X pins σ H s) : ∀ x c,X.env.cells.lookup x=some c->c≠X.env.locals:=fun x c e z=>by
 obtain⟨v,o,ho,hd⟩:=I.cell x c e
 obtain⟨m,⟨o',es,ep,ho',hd',_⟩,_⟩:=I.loc
 rw[z,ho'] at ho; cases ho; rw[hd'] at hd; cases hd
theorem Inv.funs (I:Inv X pins σ H s):s.heap.FunFrames X.base X.outer:=by
 have all : ∀ (l:List dN),(∀ b∈frs l,b∈X.fs)->X.s₀.heap.FunFrames X.base l->s.heap.FunFrames X.base l:=by
  intro l
  induction l with
  | nil=>intro _ _; trivial
  | cons env r ih=>
   intro hs hl
   obtain⟨hk,⟨L,o,hf,hn,ho,hd⟩,hr⟩:=hl
   have hL:L∈X.fs:=hs L (by unfold frs; rw[VO,hf]; exact bY)
   obtain⟨sl,e⟩:=I.base.slot L o ho (I.ok.frf L hL) hL fun z=>I.ok.exfs L z hL
   exact⟨hk,⟨L,_,hf,hn,e,hd⟩,ih (fun b hb=>hs b (by unfold frs; rw[VO,hf]; exact cA _ hb)) hr⟩
 exact all X.outer (fun _ hb=>hb) I.ok.funs
theorem Inv.stack (I:Inv X pins σ H s):s.heap.FunFrames X.base X.stack:=by
 rcases I.ok.stk with e | ⟨e,hf⟩
 ·rw[e]; exact I.funs
 ·rw[e]
  obtain⟨m,hn,_⟩:=I.loc
  refine .cons (by rw[I.ok.kind]; decide) hf hn ?_ I.funs
  exact Heap.get?_none_of_le (jM I.ok.bsz I.ok.above)
theorem Inv.stkSub (I:Inv X pins σ H s) : ∀ b∈frs X.stack,b∈X.env.locals::X.fs:=fun b hb=>by
 rcases I.ok.stk with e | ⟨e,hf⟩
 ·rw[e] at hb; exact cA _ hb
 ·rw[e] at hb
  unfold frs at hb
  rw[VO,hf] at hb
  exact hb
theorem Inv.stkFree (I:Inv X pins σ H s) : ∀ b∈frs X.stack,H b=none:=fun b hb=>by
 rcases cJ.mp (I.stkSub b hb) with e | hb
 ·rw[e]; exact I.free
 ·obtain⟨_,o,ho,_⟩:=I.ok.funs.mem hb
  exact I.base.free b o ho (I.ok.frf b hb) fun z=>I.ok.exfs b z hb
theorem Inv.step {g':Array uD}{t':Nat}{d':Drawn}{ch:List aB}(I:Inv X pins σ H s)
  (hch : ∀ b∈ch,(b∈X.ex \/ X.s₀.heap.objs.size≤b)/\b≠X.env.locals/\(∀ x c,X.env.cells.lookup x=some c->c≠b) /\ ∀ p∈X.pn++pins,p.1≠b)
  (keep : ∀ b o,b≠X.env.locals->b∉X.fs->b∉ch->s.heap.get? b=some o->H b=none->h'.get? b=some o)
  (slot : ∀ b o,b≠X.env.locals->b∈X.fs->b∉ch->s.heap.get? b=some o->H b=none -> ∃ sl,h'.get? b=some { o with slots:=sl }) (free : ∀ b o,b∉ch->s.heap.get? b=some o->H b=none->H' b=none)
  (there : ∀ b o,b∉ch->s.heap.get? b=some o -> ∃ o',h'.get? b=some o')
  (tups : ∀ b xs,H b=some (.tup xs)->H' b=some (.tup xs)) (frzs : ∀ b o u,H b=some (.frz o u)->H' b=some (.frz o u)) (tbls : ∀ b ps,H b=some (.tbl ps) -> ∃ more,H' b=some (.tbl (ps++more)))
  (ns : ∀ m,s.heap.Ns X.env.locals m->h'.Ns X.env.locals m) (hok:HOk X.prog X.w H' h') (hg:nY g') :
  Inv X pins σ H' { s with heap:=h',gens:=g',drawn:=d',toks:=t' }:=by
 have neL : ∀ b o,X.s₀.heap.get? b=some o->b≠X.env.locals:=fun b o e=>dA (fL (cD e) I.ok.above)
 have neC : ∀ b o,X.s₀.heap.get? b=some o->b∉X.ex->b∉ch:=fun b o e hx hb=>by
  rcases(hch b hb).1 with z | z
  ·exact hx z
  ·exact absurd (fL (cD e) z) (kZ _)
 have cellK : ∀ x c,X.env.cells.lookup x=some c -> ∀ v,s.heap.IsCell c v->h'.IsCell c v:=fun x c e v gh=>by
  obtain⟨o,ho,hd⟩:=gh
  have nch:c∉ch:=fun z=>(hch c z).2.2.1 x c e rfl
  by_cases hc:c∈X.fs
  ·obtain⟨sl,q⟩:=slot c o (I.cne x c e) hc nch ho (I.freeC x c e)
   exact⟨_,q,hd⟩
  ·exact⟨o,keep c o (I.cne x c e) hc nch ho (I.freeC x c e),hd⟩
 refine⟨I.ok,I.os,hg,⟨fun b o e n hb hx=>?_,fun b o e n hb hx=>?_,fun b o e n hx=>?_,fun b o e hx=>?_,fun b xs e=>tups b xs (I.base.tups b xs e),fun b o xs e=>frzs b o xs (I.base.frzs b o xs e),fun b ps e=>?_⟩,?_,fun x c e=>?_,?_,fun x c e=>?_,fun p hp=>?_,hok,I.len⟩
 ·exact keep b o (neL b o e) hb (neC b o e hx) (I.base.keep b o e n hb hx) (I.base.free b o e n hx)
 ·obtain⟨sl,e1⟩:=I.base.slot b o e n hb hx
  obtain⟨sl',e2⟩:=slot b _ (neL b o e) hb (neC b o e hx) e1 (I.base.free b o e n hx)
  exact⟨sl',e2⟩
 ·obtain⟨o',e1⟩:=I.base.there b o e hx
  exact free b o' (neC b o e hx) e1 (I.base.free b o e n hx)
 ·obtain⟨o',e1⟩:=I.base.there b o e hx
  exact there b o' (neC b o e hx) e1
 ·obtain⟨m1,e1⟩:=I.base.tbls b ps e
  obtain⟨m2,e2⟩:=tbls b _ e1
  exact⟨m1++m2,by rw[e2,Array.append_assoc]⟩
 ·obtain⟨m,hn,hl⟩:=I.loc
  refine⟨m,ns m hn,fun i x v e1 e2 e3=>?_⟩
  obtain⟨u,r,l⟩:=hl i x v e1 e2 e3
  refine⟨u,r,?_⟩
  rcases l with l | ⟨k,c,e,z⟩
  ·exact .inl l
  ·exact .inr ⟨k,c,e,cellK x c e _ z⟩
 ·obtain⟨v,z⟩:=I.cell x c e
  exact⟨v,cellK x c e v z⟩
 ·obtain⟨m,⟨o,_,_,ho,_⟩,_⟩:=I.loc
  exact free _ o (fun z=>(hch _ z).2.1 rfl) ho I.free
 ·obtain⟨v,o,ho,hd⟩:=I.cell x c e
  exact free c o (fun z=>(hch c z).2.2.1 x c e rfl) ho (I.freeC x c e)
 ·obtain⟨e,n,ne,nf,d⟩:=I.pin p hp
  have nch:p.1∉ch:=fun z=>(hch p.1 z).2.2.2 p hp rfl
  exact⟨keep p.1 p.2 ne nf nch e n,free p.1 p.2 nch e n,ne,nf,d⟩
theorem Inv.un {t':Nat}(I:Inv X pins σ H s)(u:Un X.fs [] H H' s.heap h')(hok:HOk X.prog X.w H' h'):Inv X pins σ H' { s with heap:=h',toks:=t' }:=by
 obtain⟨m,⟨o,es,ep,ho,r⟩,_⟩:=id I.loc
 obtain⟨sl,hL⟩:=u.any ho I.free (by simp)
 exact I.step (g':=s.gens) (d':=s.drawn) (ch:=[]) (fun _ z=>nomatch z) (fun b o _ hb _ e n=>u.keep b o e n hb (by simp)) (fun b o _ hb _ e n=>u.slot b o e n hb (by simp)) (fun b o _ e n=>u.free b o e n (by simp)) (fun b o _ e=>u.there b o e (by simp)) u.tups u.frzs u.tbls (fun m' hm=>by
  obtain⟨o',es',ep',ho',r'⟩:=hm
  rw[ho] at ho'; cases ho'
  exact⟨_,es',ep',hL,r'⟩) hok I.bare
theorem Inv.call {g':Array uD}{t':Nat}{d':Drawn}{ch:List aB}(I:Inv X pins σ H s)(u:Un (frs X.stack) ch H H' s.heap h')(hok:HOk X.prog X.w H' h')(hg:nY g')
  (hch : ∀ b∈ch,(b∈X.ex \/ X.s₀.heap.objs.size≤b)/\b≠X.env.locals/\(∀ x c,X.env.cells.lookup x=some c->c≠b) /\ ∀ p∈X.pn++pins,p.1≠b) :
  Inv X pins σ H' { s with heap:=h',gens:=g',drawn:=d',toks:=t' }:=by
 obtain⟨m,⟨o,es,ep,ho,r⟩,_⟩:=id I.loc
 obtain⟨sl,hL⟩:=u.any ho I.free fun z=>(hch _ z).2.1 rfl
 exact I.step (ch:=ch) hch (fun b o hL hb hc e n=>u.keep b o e n (fun z=>(cJ.mp (I.stkSub b z)).elim hL hb) hc) (fun b o _ _ hc e n=>u.any e n hc) (fun b o hc e n=>u.free b o e n hc) (fun b o hc e=>u.there b o e hc) u.tups u.frzs u.tbls (fun m' hm=>by
  obtain⟨o',es',ep',ho',r'⟩:=hm
  rw[ho] at ho'; cases ho'
  exact⟨_,es',ep',hL,r'⟩) hok hg
theorem Inv.turned {t':Nat}{it:aB}(I:Inv X pins σ H s)(k : ∀ b o,b≠it->s.heap.get? b=some o->h'.get? b=some o)(hn:H it=none)(hL:it≠X.env.locals)
  (h1:it∈X.ex \/ X.s₀.heap.objs.size≤it) (h2 : ∀ x c,X.env.cells.lookup x=some c->c≠it) (h3 : ∀ p∈X.pn++pins,p.1≠it):Inv X pins σ H { s with heap:=h',toks:=t' }:=by
 have nit : ∀ b u,H b=some u->b≠it:=fun b u e z=>by rw[z,hn] at e; cases e
 refine I.step (g':=s.gens) (d':=s.drawn) (ch:=[it]) (fun b hb=>?_) (fun b o _ _ hc e _=>k b o (fun z=>hc (by simp[z])) e) (fun b o _ _ hc e _=>⟨o.slots,k b o (fun z=>hc (by simp[z])) e⟩) (fun _ _ _ _ n=>n)
  (fun b o hc e=>⟨o,k b o (fun z=>hc (by simp[z])) e⟩) (fun _ _ e=>e) (fun _ _ _ e=>e) (fun b ps e=>⟨#[],by rw[e]; simp⟩) (fun m hm=>?_) (fun b u e=>?_) I.bare
 ·have e:b=it:=by simpa using hb
  subst e
  exact⟨h1,hL,h2,h3⟩
 ·obtain⟨o,es,ep,ho,r⟩:=hm
  exact⟨o,es,ep,k _ o (jL hL) ho,r⟩
 ·refine(I.hok b u e).stay (fun c v hc q=>k c v ?_ q) (fun _ q=>q) fun _ _ q=>q
  rcases hc with z | z
  ·rw[z]; exact nit b u e
  ·exact nit c _ z
theorem Inv.tok (I:Inv X pins σ H s)(t:Nat):Inv X pins σ H { s with toks:=t }:=I.un (h':=s.heap) (t':=t) Un.refl I.hok
theorem Inv.kept {t':Nat}(I:Inv X pins σ H s)(k : ∀ b u,s.heap.get? b=some u->h'.get? b=some u):Inv X pins σ H { s with heap:=h',toks:=t' }:=I.un (Un.kept k) (I.hok.kept k)
theorem Inv.laid {a:aB}{o:HO}{t':Nat}(I:Inv X pins σ H s)(k : ∀ b u,s.heap.get? b=some u->h'.get? b=some u)(hp:s.heap.objs.size≤a)(new:Acs X.prog X.w (upd H a o) h' a o) :
  Inv X pins σ (upd H a o) { s with heap:=h',toks:=t' }:=I.un (Un.laid k hp (I.hok.fresh hp)) (I.hok.laid k hp new)
theorem Inv.write {x e:aB}{o:HO}{t':Nat}(I:Inv X pins σ H s)(mu:uF (H x))(he:e=x \/ H e=some (.own x))(k : ∀ b u,b≠e->s.heap.get? b=some u->h'.get? b=some u)(heo : ∃ u,h'.get? e=some u)
  (new:Acs X.prog X.w (upd H x o) h' x o):Inv X pins σ (upd H x o) { s with heap:=h',toks:=t' }:=I.un (Un.write mu he k heo) (I.hok.write mu he k heo new)
theorem Inv.pins_of {pins':List (aB×aY)}(I:Inv X pins σ H s)(h : ∀ p∈pins',s.heap.get? p.1=some p.2/\H p.1=none/\p.1≠X.env.locals/\p.1∉X.fs /\ ∀ v,p.2.data ≠ .cell v):Inv X pins' σ H s:=
 ⟨I.ok,I.os,I.bare,I.base,I.loc,I.cell,I.free,I.freeC,fun p hp=>(nU.mp hp).elim (fun z=>I.pin p (VL _ z)) (h p),I.hok,I.len⟩
theorem FF {N:List aD}(hN:N.Nodup){i j:Nat}{x:aD}(a:N[i]?=some x)(b:N[j]?=some x):i=j:=by
 obtain⟨h1,e1⟩:=fI.mp a
 obtain⟨h2,e2⟩:=fI.mp b
 exact(List.getElem_inj hN).mp (e1.trans e2.symm)
theorem OW {M:Model}{A:bT}{E:aE->aG->Prop}{i:Nat}{x:aD}{v:V}{u:aE}{Q:Unit->aG->Prop}(I:Inv X pins σ H s)(hN:X.N.Nodup)(hi:X.N[i]?=some x)(hx:lP X.env.scope x)(r:RelV v u)
  (h : ∀ s',Inv X pins (σ.set i (some v)) H s'->(∃ a,rF a s.heap s'.heap/\(a=X.env.locals \/ X.env.cells.lookup x=some a))->Q () s') (hf:X.fn x=true \/ X.env.scope.names.lookup x=some .local:=by first | exact .inl rfl | exact .inr rfl | assumption):aO M A (storeName X.env x u) Q E s:=by
 obtain⟨m,hn,hl⟩:=id I.loc
 have hcls:(X.env.scope.kind == .class||(X.env.scope.kind == .module&&X.env.locals != X.env.globals))=false:=by rw[I.ok.kind]; rfl
 have hiσ:i<σ.length:=by rw[I.len]; exact(fI.mp hi).1
 have cne:=I.cne
 have tracked : ∀ {a:aB} {h':aQ},(∃ o,s.heap.get? a=some o/\H a=none)->rF a s.heap h'->HOk X.prog X.w H h':=fun {a h'} ha hs b ob e=>by
  obtain⟨_,_,hfree⟩:=ha
  refine(I.hok b ob e).stay (fun c w' hc q=>(hs.2 c ?_).trans q) (fun _ q=>q) fun _ _ q=>q
  rintro rfl
  rcases hc with rfl | hc
  ·rw[hfree] at e; cases e
  ·rw[hfree] at hc; cases hc
 rcases hx with hk | hk
 ·refine wpAny_storeName_local hk hn (fun h' hn' hs=>?_) hcls
  obtain⟨oL,_,_,hoL,_⟩:=id hn
  refine h _ ⟨I.ok,I.os,I.bare,⟨fun b o e n hb hx=>?_,fun b o e n hb hx=>?_,I.base.free,fun b o e hx=>?_,I.base.tups,I.base.frzs,I.base.tbls⟩,⟨_,hn',fun j y v' e1 e2 e3=>?_⟩,fun y c e=>?_,I.free,I.freeC,fun p hp=>?_,tracked ⟨oL,hoL,I.free⟩ hs,by simpa using I.len⟩ ⟨_,hs,.inl rfl⟩
  ·exact(hs.2 b (dA (fL (cD e) I.ok.above))).trans (I.base.keep b o e n hb hx)
  ·obtain⟨sl,e1⟩:=I.base.slot b o e n hb hx
   exact⟨sl,(hs.2 b (dA (fL (cD e) I.ok.above))).trans e1⟩
  ·obtain⟨o',e1⟩:=I.base.there b o e hx
   exact⟨o',(hs.2 b (dA (fL (cD e) I.ok.above))).trans e1⟩
  ·by_cases hj:j=i
   ·subst hj
    rw[hi] at e1; cases e1
    rw[kK hiσ] at e2
    cases e2
    exact⟨u,r,.inl ⟨hk,by simp⟩⟩
   ·rw[jA (jL hj)] at e2
    obtain⟨u',r',q⟩:=hl j y v' e1 e2 e3
    refine⟨u',r',?_⟩
    rcases q with⟨k,e⟩ | ⟨k,c,e,z⟩
    ·refine .inl ⟨k,?_⟩
     have:y≠x:=fun e=>hj (FF hN e1 (e ▸ hi))
     simp[this,e]
    ·exact .inr ⟨k,c,e,z.sameBut hs (cne y c e)⟩
  ·obtain⟨w',z⟩:=I.cell y c e
   exact⟨w',z.sameBut hs (cne y c e)⟩
  ·obtain⟨e,n,ne,nf,d⟩:=I.pin p hp
   exact⟨(hs.2 p.1 ne).trans e,n,ne,nf,d⟩
 ·have hfn:X.fn x=true:=by
   rcases hf with z | z
   ·exact z
   ·rw[z] at hk; cases hk
  obtain⟨c,hc⟩:=I.ok.has x (.inl hk)
  obtain⟨w',z⟩:=I.cell x c hc
  refine wpAny_storeName_cell I.ok.kind hk hc z (fun h' hc' hs=>?_)
  obtain⟨oc,hoc,hocd⟩:=id z
  refine h { s with heap:=h' } ⟨I.ok,I.os,I.bare,⟨fun b o e n hb hx=>?_,fun b o e n hb hx=>?_,I.base.free,fun b o e hx=>?_,I.base.tups,I.base.frzs,I.base.tbls⟩,⟨m,hn.sameBut hs (jL (cne x c hc)),fun j y v' e1 e2 e3=>?_⟩,fun y c' e=>?_,I.free,I.freeC,fun p hp=>?_,tracked ⟨oc,hoc,I.freeC x c hc⟩ hs,by simpa using I.len⟩ ⟨c,hs,.inr hc⟩
  ·exact(hs.2 b (dA (fL (cD e) (I.ok.cab x c hfn hc)))).trans (I.base.keep b o e n hb hx)
  ·obtain⟨sl,e1⟩:=I.base.slot b o e n hb hx
   exact⟨sl,(hs.2 b (dA (fL (cD e) (I.ok.cab x c hfn hc)))).trans e1⟩
  ·obtain⟨o',e1⟩:=I.base.there b o e hx
   exact⟨o',(hs.2 b (dA (fL (cD e) (I.ok.cab x c hfn hc)))).trans e1⟩
  ·by_cases hj:j=i
   ·subst hj
    rw[hi] at e1; cases e1
    rw[kK hiσ] at e2
    cases e2
    exact⟨u,r,.inr ⟨.inl hk,c,hc,hc'⟩⟩
   ·rw[jA (jL hj)] at e2
    obtain⟨u',r',q⟩:=hl j y v' e1 e2 e3
    refine⟨u',r',?_⟩
    rcases q with q | ⟨k,c',e,z'⟩
    ·exact .inl q
    ·refine .inr ⟨k,c',e,z'.sameBut hs ?_⟩
     rintro rfl
     exact hj (FF hN e1 (I.ok.inj _ _ _ e hc ▸ hi))
  ·by_cases hcc:c'=c
   ·subst hcc; exact⟨_,hc'⟩
   ·obtain⟨w2,z2⟩:=I.cell y c' e
    exact⟨w2,z2.sameBut hs hcc⟩
  ·obtain⟨e,n,ne,nf,d⟩:=I.pin p hp
   refine⟨(hs.2 p.1 ?_).trans e,n,ne,nf,d⟩
   intro q
   rw[q,hoc] at e
   have q':oc=p.2:=eO e
   exact d w' (by rw[← q']; exact hocd)
theorem ET {M:Model}{A:bT}{E:aE->aG->Prop}{i:Nat}{x:aD}{v:V}{u:aE}{Q:Unit->aG->Prop}(I:Inv X pins σ H s)(hN:X.N.Nodup)(hi:X.N[i]?=some x)(hx:lP X.env.scope x)(r:RelV v u)
  (h : ∀ s',Inv X pins (σ.set i (some v)) H s'->Q () s') (hf:X.fn x=true \/ X.env.scope.names.lookup x=some .local:=by first | exact .inl rfl | exact .inr rfl | assumption):aO M A (storeName X.env x u) Q E s:=
 OW I hN hi hx r (fun s' I' _=>h s' I') hf
theorem Inv.call' {s':aG}{ch:List aB}(I:Inv X pins σ H s)(ho:s'.os=s.os)(u:Un (frs X.stack) ch H H' s.heap s'.heap)(hok:HOk X.prog X.w H' s'.heap)(hg:nY s'.gens)
  (hch : ∀ b∈ch,(b∈X.ex \/ X.s₀.heap.objs.size≤b)/\b≠X.env.locals/\(∀ x c,X.env.cells.lookup x=some c->c≠b) /\ ∀ p∈X.pn++pins,p.1≠b):Inv X pins σ H' s':=by
 obtain⟨h',g',d',t',o'⟩:=s'
 have e:o'=s.os:=ho
 subst e
 exact I.call (g':=g') (t':=t') (d':=d') u hok hg hch
end
abbrev XK:=aE->Option aB->Hp->Prop
abbrev St:=List (Option V)
abbrev VK:=V->Hp->Prop
abbrev TE:=St->Hp->VK->Prop
abbrev TT:=St->Hp->(Bool->Hp->Prop)->Prop
abbrev TA:=St->Hp->(List V->Hp->Prop)->Prop
structure Ends where
 nx:St->Hp->Prop
 rt:VK
 bk:St->Hp->Prop:=fun _ _=>False
 ct:St->Hp->Prop:=fun _ _=>False
abbrev TS:=Ends->St->Hp->Prop
def EP (X:Cx)(pins:List (aB×aY))(σ:St)(Q:VK)(u:aE)(s':aG):Prop:=∃ v H',Inv X pins σ H' s'/\RelV v u/\Q v H'
def TP (X:Cx)(pins:List (aB×aY))(σ:St)(Q:Bool->Hp->Prop)(b:Bool)(s':aG):Prop:=∃ H',Inv X pins σ H' s'/\Q b H'
def AP (X:Cx)(pins:List (aB×aY))(σ:St)(Q:List V->Hp->Prop)(us:List aE)(s':aG):Prop:=∃ vs H',Inv X pins σ H' s'/\Vals vs us/\Q vs H'
def SP (X:Cx)(pins:List (aB×aY))(D:Ends)(f:Flow)(s':aG):Prop:=
 match f with
 | .next=>∃ σ' H',Inv X pins σ' H' s'/\D.nx σ' H'
 | .brk=>∃ σ' H',Inv X pins σ' H' s'/\D.bk σ' H'
 | .cont=>∃ σ' H',Inv X pins σ' H' s'/\D.ct σ' H'
 | .ret u=>∃ v σ' H',Inv X pins σ' H' s'/\RelV v u/\D.rt v H'
def PE (X:Cx)(e:aS)(t:TE):Prop:=
 ∀ (pins:List (aB×aY)) (s:aG) (σ:St) (H:Hp) (Q:VK),Inv X pins σ H s->t σ H Q->aO (aP X.prog X.w) X.A (bI e X.env) (EP X pins σ Q) X.xe s
def PT (X:Cx)(e:aS)(t:TT):Prop:=
 ∀ (pins:List (aB×aY)) (s:aG) (σ:St) (H:Hp) (Q:Bool->Hp->Prop),Inv X pins σ H s->t σ H Q->aO (aP X.prog X.w) X.A (qV e X.env (bI e X.env)) (TP X pins σ Q) X.xe s
def PW (X:Cx)(e:aS)(t:TT):Prop:=
 ∀ (whole:Sem aE) (pins:List (aB×aY)) (s:aG) (σ:St) (H:Hp) (Q:Bool->Hp->Prop),Inv X pins σ H s->t σ H Q->aO (aP X.prog X.w) X.A (qV e X.env whole) (TP X pins σ Q) X.xe s
theorem PW.pt {X:Cx}{e:aS}{t:TT}(h:PW X e t):PT X e t:=h _
def PA (X:Cx)(es:List aS)(t:TA):Prop:=
 ∀ (pos:bL) (pins:List (aB×aY)) (s:aG) (σ:St) (H:Hp) (Q:List V->Hp->Prop),Inv X pins σ H s->t σ H Q->aO (aP X.prog X.w) X.A (spliced (eM pos (bD es X.env))) (AP X pins σ Q) X.xe s
def PS (X:Cx)(st:bG)(t:TS):Prop:=
 ∀ (pins:List (aB×aY)) (s:aG) (σ:St) (H:Hp) (D:Ends),Inv X pins σ H s->t D σ H->aO (aP X.prog X.w) X.A (exec st X.env) (SP X pins D) X.xe s
def PSs (X:Cx)(st:List bG)(t:TS):Prop:=
 ∀ (pins:List (aB×aY)) (s:aG) (σ:St) (H:Hp) (D:Ends),Inv X pins σ H s->t D σ H->aO (aP X.prog X.w) X.A (execs st X.env) (SP X pins D) X.xe s
theorem thn {α:Type}{t:Sem α}{Q Q':α->aG->Prop}{M:Model}{A:bT}{E:aE->aG->Prop}{s:aG}(h:aO M A t Q E s)(hQ : ∀ a s,Q a s->Q' a s):aO M A t Q' E s:=iV h hQ fun _ _ x=>x
section
variable {X:Cx}
noncomputable abbrev uI (i:Nat):TE:=fun σ H Q=>∃ v,σ[i]?=some (some v)/\Q v H
noncomputable abbrev tC (v:V):TE:=fun _ H Q=>Q v H
theorem oJ {i:Nat}{x:aD}{pos:bL}(hN:X.N[i]?=some x)(hv:lO X.env.scope x)(hd:(x == ("__debug__" : aD))=false:=by decide)(hcd:(x == ("__classdict__" : aD))=false:=by decide):PE X (.Name x pos) (uI i):=by
 intro pins s σ H Q I h
 obtain⟨v,e,h⟩:=h
 obtain⟨m,hn,hl⟩:=I.loc
 obtain⟨u,r,l⟩:=hl i x v hN e hv
 have fin:EP X pins σ Q u s:=⟨v,H,I,r,h⟩
 rcases l with⟨hk,hm⟩ | ⟨hk,c,hc,hcell⟩
 ·exact wpAny_Name (wpAny_loadName_local I.ok.kind hk hn hm fin) hd
 ·rcases hk with hk | hk
  ·exact wpAny_Name (wpAny_loadName_cell I.ok.kind hk hc hcell fin) hd
  ·exact wpAny_Name (wpAny_loadName_free I.ok.kind hk hc hcell fin hcd) hd
theorem ZX {i j pos}:PE X (.Constant (.int i) j pos) (tC (.int i)):=fun _ _ _ H _ I h=>wpAny_Constant_int ⟨.int i,H,I.tok _,⟨_,rfl⟩,h⟩
theorem pO {b j pos}:PE X (.Constant (.bool b) j pos) (tC (.bl b)):=fun _ _ _ H _ I h=>Constant_bool ⟨.bl b,H,I,rfl,h⟩
theorem CA {j pos}:PE X (.Constant .none j pos) (tC .non):=fun _ _ _ H _ I h=>Constant_none ⟨.non,H,I,rfl,h⟩
theorem SK {x j pos}:PE X (.Constant (.str x) j pos) (tC (.str x)):=fun _ _ _ H _ I h=>Calls.Constant_str ⟨.str x,H,I.tok _,⟨_,rfl⟩,h⟩
def Gl (X:Cx)(x:aD):Prop:=X.env.kindOf x=some .globalImplicit
theorem sG {E:aE->aG->Prop}{pins:List (aB×aY)}{s:aG}{σ:St}{H:Hp}{x:aD}{u:aE}{pos:bL}{Q:aE->aG->Prop}(I:Inv X pins σ H s)(hg:Gl X x)(hm:X.mg x=some u)(h:Q u s)
  (hd:(x == ("__debug__" : aD))=false:=by decide):aO (aP X.prog X.w) X.A (bI (.Name x pos) X.env) Q E s:=
 Calls.Name_function_global I.ok.kind hg (Calls.loadGlobal_global (by rw[I.ok.glob]; exact I.mod.glob.keeps I.bk) hm h) hd
theorem yG {E:aE->aG->Prop}{pins:List (aB×aY)}{s:aG}{σ:St}{H:Hp}{x:aD}{u:aE}{pos:bL}{Q:aE->aG->Prop}(I:Inv X pins σ H s)(hg:Gl X x)(hm:X.mg x=none)(hv:iX x=some u)(h:Q u s)
  (hn:x ≠ "__name__":=by decide) (hd:(x == ("__debug__" : aD))=false:=by decide):aO (aP X.prog X.w) X.A (bI (.Name x pos) X.env) Q E s:=by
 obtain⟨mb,h1,h2⟩:=I.mod.blt
 exact Calls.Name_function_global I.ok.kind hg (Calls.loadGlobal_builtin (by rw[I.ok.glob]; exact I.mod.glob.keeps I.bk) hm (by rw[I.ok.blt]; exact h1.keeps I.bk) ((h2 x hn).trans hv) h) hd
theorem MF {x:aD}{v:V}{u:aE}{pos:bL}(hg:Gl X x)(hm:X.mg x=some u)(r:RelV v u)(hd:(x == ("__debug__" : aD))=false:=by decide):PE X (.Name x pos) (tC v):=
 fun _ _ _ H _ I h=>sG I hg hm ⟨v,H,I,r,h⟩ hd
theorem Lq {x:aD}{v:V}{u:aE}{pos:bL}(hg:Gl X x)(hm:X.mg x=none)(hv:iX x=some u)(r:RelV v u)(hn:x ≠ "__name__":=by decide)(hd:(x == ("__debug__" : aD))=false:=by decide):PE X (.Name x pos) (tC v):=
 fun _ _ _ H _ I h=>yG I hg hm hv ⟨v,H,I,r,h⟩ hn hd
variable {a b:aS}{ta tb:TE}{pos:bL}
noncomputable def tB (t:TE):TT:=fun σ H Q=>t σ H fun x H1=>∃ c,x = .bl c/\Q c H1
theorem CN {e:aS}{t:TE}(h:PE X e t)(he : ∀ whole,qV e X.env whole=(do let v ← whole; nM e.pos; kB [v] (truthy v)):=by intro _; rfl):PT X e (tB t):=by
 intro pins s σ H Q I hw
 refine isTrue_plain (thn (h pins s σ H _ I hw) fun v s1 ⟨x,H1,I1,r1,q1⟩=>?_) (he _)
 obtain⟨d,rfl,q⟩:=q1
 cases r1
 exact qS ⟨H1,I1,q⟩
variable {tA tB':TT}{rest:List aS}
noncomputable def WM (t u:TT):TT:=fun σ H Q=>t σ H fun c H1=>if c=true then u σ H1 Q else Q false H1
noncomputable def tOr (t u:TT):TT:=fun σ H Q=>t σ H fun c H1=>if c=true then Q true H1 else u σ H1 Q
noncomputable def WS (t:TT):TT:=fun σ H Q=>t σ H fun c H1=>Q (!c) H1
theorem Mo (ha:PT X a tA):PW X (.BoolOp .And [a] pos) tA:=by
 intro wh pins s σ H Q I h
 refine isTrue_and (thn (ha pins s σ H Q I h) fun c s1 e=>?_)
 cases c with
 | true=>exact isTrue_and_nil e
 | false=>exact e
theorem Iq (ha:PT X a tA):PW X (.BoolOp .Or [a] pos) tA:=by
 intro wh pins s σ H Q I h
 refine isTrue_or (thn (ha pins s σ H Q I h) fun c s1 e=>?_)
 cases c with
 | false=>exact isTrue_or_nil e
 | true=>exact e
theorem Ig (ha:PT X a tA)(hb:PW X (.BoolOp .And (b::rest) pos) tB'):PW X (.BoolOp .And (a::b::rest) pos) (WM tA tB'):=by
 intro wh pins s σ H Q I h
 refine isTrue_and (thn (ha pins s σ H _ I h) fun c s1 gh=>?_)
 obtain⟨H1,I1,q1⟩:=gh
 cases c with
 | true=>exact hb wh pins s1 σ H1 Q I1 q1
 | false=>exact⟨H1,I1,q1⟩
theorem XF (ha:PT X a tA)(hb:PW X (.BoolOp .Or (b::rest) pos) tB'):PW X (.BoolOp .Or (a::b::rest) pos) (tOr tA tB'):=by
 intro wh pins s σ H Q I h
 refine isTrue_or (thn (ha pins s σ H _ I h) fun c s1 gh=>?_)
 obtain⟨H1,I1,q1⟩:=gh
 cases c with
 | true=>exact⟨H1,I1,q1⟩
 | false=>exact hb wh pins s1 σ H1 Q I1 q1
theorem CU (ha:PT X a tA):PT X (.UnaryOp .Not a pos) (WS tA):=by
 intro pins s σ H Q I h
 exact isTrue_not (ha pins s σ H (fun c H1=>Q (!c) H1) I h)
noncomputable def XU (ta tb:TE):TE:=fun σ H Q=>ta σ H fun x H1=>∃ c,x = .bl c/\if c=true then tb σ H1 Q else Q (.bl false) H1
noncomputable def YE (ta:TE):TE:=fun σ H Q=>ta σ H fun x H1=>∃ c,x = .bl c/\Q (.bl (!c)) H1
theorem Ad {op}{t:TE}(h:PE X a t):PE X (.BoolOp op [a] pos) t:=fun pins s σ H Q I hw=>BoolOp_one (h pins s σ H Q I hw)
theorem Ae (ha:PE X a ta)(hb:PE X (.BoolOp .And (b::rest) pos) tb):PE X (.BoolOp .And (a::b::rest) pos) (XU ta tb):=by
 intro pins s σ H Q I h
 refine BoolOp_and (thn (ha pins s σ H _ I h) fun v s1 gh=>?_)
 obtain⟨x,H1,I1,r1,q1⟩:=gh
 obtain⟨c,rfl,q1⟩:=q1
 cases r1
 refine qS ?_
 cases c with
 | true=>exact hb pins s1 σ H1 Q I1 q1
 | false=>exact⟨.bl false,H1,I1,rfl,q1⟩
theorem Aa (ha:PE X a ta):PE X (.UnaryOp .Not a pos) (YE ta):=by
 intro pins s σ H Q I h
 refine UnaryOp_ (thn (ha pins s σ H _ I h) fun v s1 gh=>?_)
 obtain⟨x,H1,I1,r1,q1⟩:=gh
 obtain⟨c,rfl,q1⟩:=q1
 cases r1
 exact not_of (qS ⟨.bl (!c),H1,I1,rfl,q1⟩)
end
def SqL (K:aH)(H:Hp)(a:aB)(xs:List V):Prop:=
 Rd H a (.lst xs) \/
  ∃ (o:aY) (its:Array aE) (n:Nat),K.lookup a=some o/\o.cls = .type "list" /\ o.dict=none/\o.data = .seq its n/\its.size≤sizeLine/\Vals xs its.toList
def SqT (K:aH)(H:Hp)(a:aB)(xs:List V):Prop:=
 Rd H a (.tup xs) \/
  ∃ (o:aY) (its:Array aE) (n:Nat),K.lookup a=some o/\o.cls = .type "tuple" /\ o.data = .seq its n/\its.size≤sizeLine/\Vals xs its.toList
noncomputable def XC:aE->Option V
 | .none=>some .non
 | .bool b=>some (.bl b)
 | .int i _=>some (.int i)
 | .str x _=>some (.str x)
 | .bytes b _=>some (.byt b)
 | .float b _=>some (.flt b)
 | .ref a=>some (.ref a)
 | .type n=>some (.ty n)
 | _=>none
theorem RelV.abs {x:V}{u:aE}(r:RelV x u):XC u=some x:=by
 cases x with
 | non=>cases r; rfl
 | bl _=>cases r; rfl
 | int _=>obtain⟨t,rfl⟩:=r; rfl
 | str _=>obtain⟨t,rfl⟩:=r; rfl
 | byt _=>obtain⟨t,rfl⟩:=r; rfl
 | flt _=>obtain⟨t,rfl⟩:=r; rfl
 | ref _=>cases r; rfl
 | ty _=>cases r; rfl
theorem RelV.inj {x y:V}{u:aE}(r:RelV x u)(q:RelV y u):x=y:=eO (r.abs.symm.trans q.abs)
theorem Vals.inj : ∀ {xs ys:List V} {us:List aE},Vals xs us->Vals ys us->xs=ys:=by
 intro xs ys us h
 induction h generalizing ys with
 | nil=>intro h; cases h; rfl
 | cons r _ ih=>
  intro h
  cases h with
  | cons r' t'=>rw[r.inj r',ih t']
section
variable {X:Cx}{pins:List (aB×aY)}{σ:St}{H:Hp}{s:aG}{a:aB}{xs ys:List V}
theorem SqL.of {K:aH}(h:H a=some (.lst xs)):SqL K H a xs:=.inl (.inl h)
theorem SqT.of {K:aH}(h:H a=some (.tup xs)):SqT K H a xs:=.inl (.inl h)
theorem Inv.list (I:Inv X pins σ H s)(h:SqL X.K H a xs) : ∃ its:List aE,Vals xs its/\PlainL s.heap a its.toArray/\xs.length≤sizeLine:=by
 rcases h with h | ⟨o,its,n,hk,hc,hd,hs,hz,r⟩
 ·obtain⟨z,its,n,r,e⟩:=h.ok I.hok
  exact⟨its,r,⟨_,n,e,rfl,rfl,rfl⟩,z⟩
 ·refine⟨its.toList,r,⟨o,n,I.kIn a o hk,hc,hd,by simpa using hs⟩,?_⟩
  have e:=r.length
  simp only[mP] at e
  omega
theorem Inv.tuple (I:Inv X pins σ H s)(h:SqT X.K H a xs) : ∃ its:List aE,Vals xs its/\IsTup s.heap a its.toArray/\xs.length≤sizeLine:=by
 rcases h with h | ⟨o,its,n,hk,hc,hs,hz,r⟩
 ·obtain⟨z,its,r,p⟩:=h.ok I.hok
  exact⟨its,r,p.1,z⟩
 ·refine⟨its.toList,r,⟨o,I.kIn a o hk,hc,n,by simpa using hs⟩,?_⟩
  have e:=r.length
  simp only[mP] at e
  omega
theorem Inv.list_inj (I:Inv X pins σ H s)(h:SqL X.K H a xs)(h':SqL X.K H a ys):xs=ys:=by
 obtain⟨its,r,⟨o,n,e,_,_,d⟩,_⟩:=I.list h
 obtain⟨its',r',⟨o',n',e',_,_,d'⟩,_⟩:=I.list h'
 rw[e] at e'; cases e'
 rw[d] at d'
 injection d' with d1 _
 have:its=its':=by simpa using congrArg Array.toList d1
 subst this
 exact r.inj r'
theorem Inv.tuple_inj (I:Inv X pins σ H s)(h:SqT X.K H a xs)(h':SqT X.K H a ys):xs=ys:=by
 obtain⟨its,r,⟨o,e,_,n,d⟩,_⟩:=I.tuple h
 obtain⟨its',r',⟨o',e',_,n',d'⟩,_⟩:=I.tuple h'
 rw[e] at e'; cases e'
 rw[d] at d'
 injection d' with d1 _
 have:its=its':=by simpa using congrArg Array.toList d1
 subst this
 exact r.inj r'
end
noncomputable abbrev Cx.wish (X:Cx)(E:aE->aG->Prop):Cx:={ X with xe:=E }
noncomputable abbrev Cx.nox (X:Cx):Cx:=X.wish fun _ _=>False
theorem Cx.Ok.wish {X:Cx}(ok:X.Ok)(E:aE->aG->Prop):(X.wish E).Ok:=
 ⟨ok.mod,ok.kind,ok.glob,ok.blt,ok.above,ok.inj,ok.has,ok.cab,ok.hd,ok.frames,ok.stk,ok.exf,ok.bs,ok.bsz,ok.noex,ok.exfs,ok.funs,ok.frf⟩
theorem Cx.Ok.unwish {X:Cx}{E:aE->aG->Prop}(ok:(X.wish E).Ok):X.Ok:=
 ⟨ok.mod,ok.kind,ok.glob,ok.blt,ok.above,ok.inj,ok.has,ok.cab,ok.hd,ok.frames,ok.stk,ok.exf,ok.bs,ok.bsz,ok.noex,ok.exfs,ok.funs,ok.frf⟩
section
variable {X:Cx}{pins:List (aB×aY)}{σ:St}{H:Hp}{s:aG}{E:aE->aG->Prop}
theorem Inv.wish (I:Inv X pins σ H s)(E:aE->aG->Prop):Inv (X.wish E) pins σ H s:=⟨I.ok.wish E,I.os,I.bare,I.base,I.loc,I.cell,I.free,I.freeC,I.pin,I.hok,I.len⟩
theorem Inv.unwish (I:Inv (X.wish E) pins σ H s):Inv X pins σ H s:=⟨I.ok.unwish,I.os,I.bare,I.base,I.loc,I.cell,I.free,I.freeC,I.pin,I.hok,I.len⟩
theorem SP.unwish {D:Ends}{f:Flow}{s':aG}(h:SP (X.wish E) pins D f s'):SP X pins D f s':=by
 cases f with
 | next=>obtain⟨σ',H',I,q⟩:=h; exact⟨σ',H',I.unwish,q⟩
 | brk=>obtain⟨σ',H',I,q⟩:=h; exact⟨σ',H',I.unwish,q⟩
 | cont=>obtain⟨σ',H',I,q⟩:=h; exact⟨σ',H',I.unwish,q⟩
 | ret u=>obtain⟨v,σ',H',I,r,q⟩:=h; exact⟨v,σ',H',I.unwish,r,q⟩
theorem PSs.nox {st:List bG}{t:TS}(h:PSs X.nox st t):PSs X st t:=fun pins s σ H D I hw=>
 iV (h pins s σ H D (I.wish _) hw) (fun _ _ q=>q.unwish) fun _ _ z=>jB z
end
section
variable {X:Cx}{st:bG}{rest:List bG}{t u:TS}{e:aS}{te:TE}{pos:bL}
noncomputable def XH:TS:=fun D σ H=>D.nx σ H
noncomputable def WX (t u:TS):TS:=fun D σ H=>t { D with nx:=u D } σ H
theorem jZ:PSs X [] XH:=fun _ _ σ H _ I h=>AI ⟨σ,H,I,h⟩
theorem fQ (h1:PS X st t)(h2:PSs X rest u):PSs X (st::rest) (WX t u):=by
 intro pins s σ H D I h
 refine UE (thn (h1 pins s σ H { D with nx:=u D } I h) fun f s1 q=>?_)
 cases f with
 | next=>
  obtain⟨σ',H',I',q⟩:=q
  exact h2 pins s1 σ' H' D I' q
 | ret v=>exact q
 | brk=>exact q
 | cont=>exact q
theorem iF (h1:PS X st t):PSs X [st] t:=by
 intro pins s σ H D I h
 refine UE (thn (h1 pins s σ H D I h) fun f s1 q=>?_)
 cases f with
 | next=>exact AI q
 | ret v=>exact q
 | brk=>exact q
 | cont=>exact q
theorem Inv.quiet {pins:List (aB×aY)}{σ:St}{H:Hp}{s:aG}(I:Inv X pins σ H s):interactive X.env=false:=by simp[interactive,I.ok.kind]
noncomputable def KN (te:TE):TS:=fun D σ H=>te σ H fun _ H1=>D.nx σ H1
theorem qC (he:PE X e te)(hs:mG e none pos.line X.env=pure false:=by rfl):PS X (.Expr e pos) (KN te):=by
 intro pins s σ H D I h
 exact wpAny_Expr_any (thn (he pins s σ H _ I h) fun v s1 ⟨x,H1,I1,r1,q1⟩=>⟨σ,H1,I1,q1⟩) I.quiet hs
noncomputable def JI (te:TE):TS:=fun D σ H=>te σ H D.rt
theorem lE (he:PE X e te):PS X (.Return (some e) pos) (JI te):=by
 intro pins s σ H D I h
 exact wpAny_Return_some (thn (he pins s σ H _ I h) fun v s1 ⟨x,H1,I1,r1,q1⟩=>⟨x,σ,H1,I1,r1,q1⟩)
noncomputable def WJ (c:TT)(t u:TS):TS:=fun D σ H=>c σ H fun b H1=>if b=true then t D σ H1 else u D σ H1
theorem kN {c:aS}{a b:List bG}{tc:TT}(hc:PT X c tc)(ha:PSs X a t)(hb:PSs X b u):PS X (.If c a b pos) (WJ tc t u):=by
 intro pins s σ H D I h
 refine wpAny_If (thn (hc pins s σ H _ I h) fun d s1 gh=>?_)
 obtain⟨H1,I1,q1⟩:=gh
 cases d with
 | true=>exact ha pins s1 σ H1 D I1 q1
 | false=>exact hb pins s1 σ H1 D I1 q1
noncomputable def Im:TS:=fun _ _ _=>False
theorem vT {sts:List bG}:PSs X sts Im:=fun _ _ _ _ _ _ h=>h.elim
end
abbrev TG:=V->St->Hp->(St->Hp->Prop)->Prop
def PG (X:Cx)(target:aS)(t:TG):Prop:=
 ∀ (pins:List (aB×aY)) (s:aG) (σ:St) (H:Hp) (v:V) (u:aE) (Q:St->Hp->Prop),Inv X pins σ H s->RelV v u->t v σ H Q ->
  aO (aP X.prog X.w) X.A (assign target X.env u) (fun _ s'=>∃ σ' H',Inv X pins σ' H' s'/\Q σ' H') X.xe s
abbrev BP:=V->V->V->Hp->(Hp->Prop)->Prop
def JK (X:Cx)(t:BP):Prop:=
 ∀ (pins:List (aB×aY)) (s:aG) (σ:St) (H:Hp) (o i v:V) (ov iv u:aE) (Q:Hp->Prop),Inv X pins σ H s->RelV o ov->RelV i iv->RelV v u->t o i v H Q ->
  aO (aP X.prog X.w) X.A (setItem ov iv u) (fun _ s'=>∃ H',Inv X pins σ H' s'/\Q H') X.xe s
section
variable {X:Cx}{pos:bL}
noncomputable def uM (i:Nat):TG:=fun v σ H Q=>Q (σ.set i (some v)) H
theorem EE {i:Nat}{x:aD}(hN:X.N.Nodup)(hi:X.N[i]?=some x)(hx:lP X.env.scope x)(hf:X.fn x=true \/ X.env.scope.names.lookup x=some .local:=by first | exact .inl rfl | exact .inr rfl | assumption):PG X (.Name x pos) (uM i):=by
 intro pins s σ H v u Q I r h
 exact wpAny_assign_Name (ET I hN hi hx r (fun s' I'=>⟨_,H,I',h⟩) hf)
noncomputable def XB (to ti:TE)(t:BP):TG:=fun v σ H Q=>to σ H fun o H1=>ti σ H1 fun i H2=>t o i v H2 fun H3=>Q σ H3
theorem YZ {o i:aS}{to ti:TE}{t:BP}(ho:PE X o to)(hi:PE X i ti)(hs:JK X t)
  (ha : ∀ v,assign (.Subscript o i pos) X.env v=(do
   let ov ← kB [v] (bI o X.env)
   let iv ← kB [v,ov] (bI i X.env)
   nM pos
   kB [v,ov,iv] (setItem ov iv v)
   release [v,ov,iv] []):=by intro _; rfl):PG X (.Subscript o i pos) (XB to ti t):=by
 intro pins s σ H v u Q I r h
 rw[ha]
 refine aK (iG (thn (ho pins s σ H _ I h) fun ov s1 gh=>?_))
 obtain⟨x,H1,I1,r1,q1⟩:=gh
 refine aK (iG (thn (hi pins s1 σ H1 _ I1 q1) fun iv s2 gh=>?_))
 obtain⟨y,H2,I2,r2,q2⟩:=gh
 refine aK (wpAny_standAt (aK (iG (thn (hs pins s2 σ H2 x y v ov iv u _ I2 r1 r2 r q2) fun _ s3 gh=>?_))))
 obtain⟨H3,I3,q3⟩:=gh
 exact wpAny_release ⟨σ,H3,I3,q3⟩
noncomputable def xW (te:TE)(g:TG):TS:=fun D σ H=>te σ H fun x H1=>g x σ H1 D.nx
theorem YX {tg e:aS}{te:TE}{g:TG}(he:PE X e te)(hg:PG X tg g)(hs:swapsWithSole [tg] e pos.line X.env=pure false:=by rfl)(hw:swappedStores [tg] e X.env=pure none:=by rfl)
  (h1:(assignEach [tg] X.env).map (·.2)=[assign tg X.env]:=by rfl):PS X (.Assign [tg] e pos) (xW te g):=by
 intro pins s σ H D I h
 refine wpAny_Assign_stores (thn (he pins s σ H _ I h) fun v s1 ⟨x,H1,I1,r1,q1⟩=>?_) hs hw
 rw[h1]
 exact thn (hg pins s1 σ H1 x v _ I1 r1 q1) fun _ s2 q=>q
theorem qA {i:Nat}{x:aD}{e:aS}{te:TE}{pos':bL}(hN:X.N.Nodup)(hi:X.N[i]?=some x)(hx:lP X.env.scope x)(he:PE X e te)(hs:mG e (some (.Name x pos')) pos.line X.env=pure false:=by rfl)(hf:X.fn x=true \/ X.env.scope.names.lookup x=some .local:=by first | exact .inl rfl | exact .inr rfl | assumption) :
  PS X (.Assign [.Name x pos'] e pos) (xW te (uM i)):=by
 intro pins s σ H D I h
 refine wpAny_Assign_Name (thn (he pins s σ H _ I h) fun v s1 ⟨y,H1,I1,r1,q1⟩=>?_) hs
 exact ET I1 hN hi hx r1 (fun s2 I2=>⟨_,H1,I2,q1⟩) hf
end
structure It where
 go:Nat->Hp->Prop
 yld:Nat->Hp->V->Hp->Prop
 stop:Nat->Hp->Prop
def jC (X:Cx)(pins:List (aB×aY))(H:Hp)(b:aB):Prop:=
 H b=none/\b≠X.env.locals/\b∉X.fs/\(b∈X.ex \/ X.s₀.heap.objs.size≤b)/\(∀ x c,X.env.cells.lookup x=some c->c≠b) /\ ∀ p∈X.pn++pins,p.1≠b
theorem Inv.fpOk {X:Cx}{pins:List (aB×aY)}{σ:St}{H H':Hp}{s:aG}{b:aB}(I:Inv X pins σ H s)(hb:s.heap.objs.size≤b)(hn:H' b=none):jC X pins H' b:=by
 refine⟨hn,rC (fL I.lt hb),I.nofs hb,.inr (jM I.sz hb),fun x c e z=>?_,fun p hp z=>?_⟩
 ·obtain⟨v,q⟩:=I.cell x c e
  exact absurd (fL q.lt (by rw[z]; exact hb)) (kZ _)
 ·exact absurd (fL (cD (I.pin p hp).1) (by rw[z]; exact hb)) (kZ _)
structure Turn (P:bC)(w:aW)(K:aH)(tg:aS)(J:It)(fp:List aB)(it:aB)(tn:Nat->aQ->Prop):Prop where
 mem:it∈fp
 obj : ∀ i h,tn i h -> ∀ b∈fp,∃ o,h.get? b=some o /\ ∀ v,o.data ≠ .cell v
 keep : ∀ i h h',tn i h->(∀ b∈fp,∀ o,h.get? b=some o->h'.get? b=some o)->tn i h'
 item : ∀ (X:Cx),X.prog=P->X.w=w->X.K=K->X.calm=true -> ∀ (i:Nat) (pins:List (aB×aY)) (s:aG) (σ:St) (H:Hp) (E:aE->aG->Prop),Inv X pins σ H s->(∀ b∈fp,jC X pins H b)->tn i s.heap->J.go i H ->
  aO (aP P w) X.A (pyNext (.ref it)) (fun r s1=>∃ u,r=some u /\
   aO (aP P w) X.A (ID tg (.ref it) u) (fun _ s2=>∃ x H',Inv X pins σ H' s2/\RelV x u/\J.yld i H x H'/\tn (i+1) s2.heap /\ ∀ b∈fp,H' b=none) E s1) E s
 done : ∀ (X:Cx),X.prog=P->X.w=w->X.K=K->X.calm=true -> ∀ (i:Nat) (pins:List (aB×aY)) (s:aG) (σ:St) (H:Hp) (E:aE->aG->Prop),Inv X pins σ H s->(∀ b∈fp,jC X pins H b)->tn i s.heap->J.stop i H ->
  aO (aP P w) X.A (pyNext (.ref it)) (fun r s1=>r=none/\Inv X pins σ H s1) E s
 self : ∀ (A:bT) (i:Nat) (s:aG) (Q:aE->aG->Prop) (E:aE->aG->Prop),tn i s.heap->Q (.ref it) s->aO (aP P w) A (pyIter (.ref it)) Q E s
abbrev TI:=St->Hp->(It->Hp->Prop)->Prop
def PIE (X:Cx)(pins:List (aB×aY))(σ:St)(tg:aS)(R:It->Hp->Prop)(itv:aE)(s2:aG):Prop:=
 ∃ (it:aB) (fp:List aB) (tn:Nat->aQ->Prop) (J:It) (H':Hp),itv = .ref it/\Inv X pins σ H' s2/\Turn X.prog X.w X.K tg J fp it tn/\tn 0 s2.heap/\(∀ b∈fp,jC X pins H' b)/\R J H'
def PI (X:Cx)(tg iter:aS)(wi:TI):Prop:=
 ∀ (pins:List (aB×aY)) (s:aG) (σ:St) (H:Hp) (R:It->Hp->Prop),Inv X pins σ H s->wi σ H R ->
  aO (aP X.prog X.w) X.A (bI iter X.env) (fun v s1=>aO (aP X.prog X.w) X.A (pyIter v) (PIE X pins σ tg R) X.xe s1) X.xe s
theorem rO {M:Model}{A:bT}{E:aE->aG->Prop}{s:aG}{tg:aS}{it:aB}{u:aE}{o:aY}{n:String}{vs:Array aE}{Q:Unit->aG->Prop}(ho:s.heap.get? it=some o)(hc:o.cls = .type n)(hd:o.data = .fields vs)
    (hn:["enumerate","zip","dict_itemiterator","dict_reverseitemiterator","odict_iterator","itertools.zip_longest","itertools.pairwise"].contains n=false) (hQ:Q () s):aO M A (ID tg (.ref it) u) Q E s:=by
  unfold ID
  cases tg <;> first
    | exact aZ hQ
    | (cases u <;> first
        | exact aZ hQ
        | (refine aK (wpAny_load ho ?_)
           rw[hc,hd]
           show aO M A (if (["enumerate","zip","dict_itemiterator","dict_reverseitemiterator","odict_iterator","itertools.zip_longest","itertools.pairwise"].contains n&&vs[0]? == some (rawInt _))=true then _ else _) Q E s
           rw[if_neg (by intro h; rw[hn,Bool.false_and] at h; cases h)]
           exact aZ hQ))
noncomputable def BI (K:aH)(a:aB):It:=
 ⟨fun i H=>∃ xs x,SqL K H a xs/\xs[i]?=some x,fun i H x H'=>H'=H /\ ∀ xs,SqL K H a xs->xs[i]?=some x,fun i H=>∃ xs,SqL K H a xs/\xs.length≤i⟩
noncomputable def BH (K:aH)(a:aB):It:=
 ⟨fun i H=>∃ xs x,SqT K H a xs/\xs[i]?=some x,fun i H x H'=>H'=H /\ ∀ xs,SqT K H a xs->xs[i]?=some x,fun i H=>∃ xs,SqT K H a xs/\xs.length≤i⟩
noncomputable def xU (lo:Int)(n:Nat):It:=⟨fun i _=>i<n,fun i H x H'=>H'=H/\x = .int (lo+i),fun i _=>n≤i⟩
theorem Cb {P:bC}{w:aW}{K:aH}{tg:aS}(a it:aB):Turn P w K tg (BI K a) [it] it (fun i h=>h.IsListIter it a i) where
 mem:=by simp
 obj:=fun i h st b hb=>by
  have e:b=it:=by simpa using hb
  subst e
  obtain⟨o,e,c,d⟩:=st
  exact⟨o,e,fun v z=>by rw[d] at z; cases z⟩
 keep:=fun i h h' st k=>st.at fun o e=>k it (by simp) o e
 item:=by
  intro X hP hw hK hc i pins s σ H E I hf st hg
  subst hP hw hK
  obtain⟨xs,x,hq,hx⟩:=hg
  obtain⟨its,rv,p,hz⟩:=I.list hq
  obtain⟨u,hu,ru⟩:=rv.get hx
  obtain⟨f0,f1,f2,f3,f4,f5⟩:=hf it (by simp)
  refine wpAny_pyNext_list_item st p.isList (x:=u) (by simpa using hu) fun h' st' sb=>?_
  have I1:Inv X pins σ H { s with heap:=h' }:=I.turned (t':=s.toks) (fun b o hb e=>(sb.2 b hb).trans e) f0 f1 f3 f4 f5
  obtain⟨o,e,c,d⟩:=id st'
  exact⟨u,rfl,rO (s:={ s with heap:=h' }) e c d (by decide) ⟨x,H,I1,ru,⟨rfl,fun ys hy=>by rw[I.list_inj hy hq]; exact hx⟩,st',fun b hb=>(hf b hb).1⟩⟩
 done:=by
  intro X hP hw hK hc i pins s σ H E I hf st hg
  subst hP hw hK
  obtain⟨xs,hq,hx⟩:=hg
  obtain⟨its,rv,p,hz⟩:=I.list hq
  obtain⟨f0,f1,f2,f3,f4,f5⟩:=hf it (by simp)
  have hl:=rv.length
  exact wpAny_pyNext_list_end (I.ok.hd hc) st p.isList (by simp; omega) fun h' eb=>⟨rfl,I.turned (t':=s.toks) (fun b o hb e=>eb b o hb e) f0 f1 f3 f4 f5⟩
 self:=fun _ _ _ _ _ st h=>wpAny_pyIter_listiter st h
theorem Ep {P:bC}{w:aW}{K:aH}{tg:aS}(a it:aB):Turn P w K tg (BH K a) [it] it (fun i h=>h.IsTupleIter it a i) where
 mem:=by simp
 obj:=fun i h st b hb=>by
  have e:b=it:=by simpa using hb
  subst e
  obtain⟨o,e,c,d⟩:=st
  exact⟨o,e,fun v z=>by rw[d] at z; cases z⟩
 keep:=fun i h h' st k=>st.at fun o e=>k it (by simp) o e
 item:=by
  intro X hP hw hK hc i pins s σ H E I hf st hg
  subst hP hw hK
  obtain⟨xs,x,hq,hx⟩:=hg
  obtain⟨its,rv,p,hz⟩:=I.tuple hq
  obtain⟨u,hu,ru⟩:=rv.get hx
  obtain⟨f0,f1,f2,f3,f4,f5⟩:=hf it (by simp)
  refine wpAny_pyNext_tuple_item st (show s.heap.IsTuple a its.toArray from p) (x:=u) (by simpa using hu) fun h' st' sb=>?_
  have I1:Inv X pins σ H { s with heap:=h' }:=I.turned (t':=s.toks) (fun b o hb e=>(sb.2 b hb).trans e) f0 f1 f3 f4 f5
  obtain⟨o,e,c,d⟩:=id st'
  exact⟨u,rfl,rO (s:={ s with heap:=h' }) e c d (by decide) ⟨x,H,I1,ru,⟨rfl,fun ys hy=>by rw[I.tuple_inj hy hq]; exact hx⟩,st',fun b hb=>(hf b hb).1⟩⟩
 done:=by
  intro X hP hw hK hc i pins s σ H E I hf st hg
  subst hP hw hK
  obtain⟨xs,hq,hx⟩:=hg
  obtain⟨its,rv,p,hz⟩:=I.tuple hq
  obtain⟨f0,f1,f2,f3,f4,f5⟩:=hf it (by simp)
  have hl:=rv.length
  exact wpAny_pyNext_tuple_end (I.ok.hd hc) st (show s.heap.IsTuple a its.toArray from p) (by simp; omega) fun h' eb=>⟨rfl,I.turned (t':=s.toks) (fun b o hb e=>eb b o hb e) f0 f1 f3 f4 f5⟩
 self:=fun _ _ _ _ _ st h=>wpAny_pyIter_tupleiter st h
theorem De {P:bC}{w:aW}{K:aH}{tg:aS}(it:aB)(lo:Int)(n:Nat):Turn P w K tg (xU lo n) [it] it (fun i h=>IsRangeIter h it (lo+(i:Nat)*1) ((n:Int) - (i:Nat)) 1) where
 mem:=by simp
 obj:=fun i h st b hb=>by
  have e:b=it:=by simpa using hb
  subst e
  exact⟨_,st,fun v z=>by
   have z':Data.fields _=Data.cell v:=z
   cases z'⟩
 keep:=fun i h h' st k=>k it (by simp) _ st
 item:=by
  intro X hP hw hK hc i pins s σ H E I hf st hg
  subst hP hw hK
  obtain⟨f0,f1,f2,f3,f4,f5⟩:=hf it (by simp)
  have W:=Walks.range (prog:=X.prog) (w:=X.w) (I.ok.hd hc) it lo 1 n
  refine W.item i s _ _ hg st fun v h' tk hv st' kk=>?_
  obtain⟨t,rfl⟩:=hv
  have I1:Inv X pins σ H { s with heap:=h',toks:=tk }:=I.turned (fun b o hb e=>kk b o (by simpa using hb) e) f0 f1 f3 f4 f5
  refine⟨_,rfl,rO (s:={ s with heap:=h',toks:=tk }) (n:="range_iterator") st' rfl rfl (by decide) ⟨.int (lo+i),H,I1,⟨t,?_⟩,⟨rfl,rfl⟩,st',fun b hb=>(hf b hb).1⟩⟩
  rw[Int.mul_one]
 done:=by
  intro X hP hw hK hc i pins s σ H E I hf st hg
  subst hP hw hK
  obtain⟨f0,f1,f2,f3,f4,f5⟩:=hf it (by simp)
  exact wpAny_pyNext_range_end (I.ok.hd hc) st (by have:n≤i:=hg; omega) fun h' eb=>⟨rfl,I.turned (t':=s.toks) (fun b o hb e=>eb b o hb e) f0 f1 f3 f4 f5⟩
 self:=fun _ _ _ _ _ st h=>wpAny_pyIter_rangeiter st h
section
variable {X:Cx}{tg:aS}
noncomputable def YG (K:aH)(tl:TE):TI:=fun σ H R=>tl σ H fun x H1=>∃ a,x = .ref a/\(∃ xs,SqL K H1 a xs)/\R (BI K a) H1
noncomputable def WQ (K:aH)(tl:TE):TI:=fun σ H R=>tl σ H fun x H1=>∃ a,x = .ref a/\(∃ xs,SqT K H1 a xs)/\R (BH K a) H1
theorem Mt {l:aS}{tl:TE}(hl:PE X l tl):PI X tg l (YG X.K tl):=by
 intro pins s σ H R I h
 refine thn (hl pins s σ H _ I h) fun v s1 gh=>?_
 obtain⟨x,H1,I1,r1,q1⟩:=gh
 obtain⟨a,e,⟨xs,hq⟩,q⟩:=q1
 subst e
 cases r1
 obtain⟨its,rv,p,hz⟩:=I1.list hq
 refine HY p.isList ?_
 refine⟨s1.heap.objs.size,[s1.heap.objs.size],_,_,H1,rfl,I1.kept (t':=s1.toks) fun b o e=>cN _ e,Cb a _,⟨_,eY _ rfl,rfl,rfl⟩,fun b hb=>?_,q⟩
 have e:b=s1.heap.objs.size:=by simpa using hb
 subst e
 exact I1.fpOk (bX _) (I1.hok.fresh (bX _))
theorem Jd {l:aS}{tl:TE}(hl:PE X l tl):PI X tg l (WQ X.K tl):=by
 intro pins s σ H R I h
 refine thn (hl pins s σ H _ I h) fun v s1 gh=>?_
 obtain⟨x,H1,I1,r1,q1⟩:=gh
 obtain⟨a,e,⟨xs,hq⟩,q⟩:=q1
 subst e
 cases r1
 obtain⟨its,rv,p,hz⟩:=I1.tuple hq
 refine wpAny_pyIter_tuple (show s1.heap.IsTuple a its.toArray from p) ?_
 refine⟨s1.heap.objs.size,[s1.heap.objs.size],_,_,H1,rfl,I1.kept (t':=s1.toks) fun b o e=>cN _ e,Ep a _,⟨_,eY _ rfl,rfl,rfl⟩,fun b hb=>?_,q⟩
 have e:b=s1.heap.objs.size:=by simpa using hb
 subst e
 exact I1.fpOk (bX _) (I1.hok.fresh (bX _))
theorem Nr {pins:List (aB×aY)}{σ:St}{H:Hp}{s:aG}{R:It->Hp->Prop}{E:aE->aG->Prop}{lo hi:Int}{t u v:Tok}{tk:Nat}(I:Inv X pins σ H s)(h1 : -(2 ^ 62)≤lo)(h2:lo<2 ^ 62)(h3 : -(2 ^ 62)≤hi)(h4:hi<2 ^ 62)
  (q:R (xU lo (hi - lo).toNat) H):aO (aP X.prog X.w) X.A (pyIter (.ref s.heap.objs.size)) (PIE X pins σ tg R) E { s with heap:=s.heap.push { cls:=.type "range",data:=.fields #[.int lo t,.int hi u,.int 1 v] },toks:=tk }:=by
 refine wpAny_pyIter_range (IsRange.new ..) (small_one h1 h2 h3 h4) ?_
 have I1:Inv X pins σ H { s with heap:=s.heap.push { cls:=.type "range",data:=.fields #[.int lo t,.int hi u,.int 1 v] },toks:=tk }:=I.kept fun b o e=>cN _ e
 refine⟨(s.heap.push { cls:=.type "range",data:=.fields #[.int lo t,.int hi u,.int 1 v] }).objs.size,[(s.heap.push { cls:=.type "range",data:=.fields #[.int lo t,.int hi u,.int 1 v] }).objs.size],_,_,H,rfl,
  I1.kept (t':=tk) fun b o e=>cN _ e,De _ lo (hi - lo).toNat,?_,fun b hb=>?_,q⟩
 ·have e1:lo+((0:Nat):Int)*1=lo:=by simp
  have e2:(((hi - lo).toNat:Nat):Int) - ((0:Nat):Int)=Builtin.Range.rangeSize lo hi 1:=by rw[rangeSize_one]; split <;> omega
  show IsRangeIter _ _ (lo+((0:Nat):Int)*1) ((((hi - lo).toNat:Nat):Int) - ((0:Nat):Int)) 1
  rw[e1,e2]
  exact eY _ rfl
 ·have e:b=(s.heap.push { cls:=.type "range",data:=.fields #[.int lo t,.int hi u,.int 1 v] }).objs.size:=by simpa using hb
  subst e
  exact I1.fpOk (bX _) (I1.hok.fresh (bX _))
noncomputable def YL (ta:TA):TI:=fun σ H R=>ta σ H fun vs H1=>∃ j:Int,vs=[.int j] /\ -(2 ^ 62)≤j/\j<2 ^ 62/\R (xU 0 j.toNat) H1
theorem Ba {a:aS}{ta:TA}{p pos:bL}(hg:Gl X "range")(hm:X.mg "range" = none)(ha:PA X [a] ta)(hs:bD [a] X.env=[(false,bI a X.env)]:=by rfl):PI X tg (.Call (.Name "range" p) [a] [] pos) (YL ta):=by
 intro pins s σ H R I h
 refine Call_ (yG I hg hm boot_range (Pg (thn (ha pos pins s σ H _ I h) fun us s1 ⟨vs,H1,I1,r1,q1⟩=>?_) hs rfl))
 obtain⟨j,e,q1,q2,q⟩:=q1
 subst e
 cases r1 with
 | cons r rr=>
  cases rr
  obtain⟨t,rfl⟩:=r
  exact call_range_1 (Nr I1 (by omega) (by omega) q1 q2 (by simpa using q))
noncomputable def WO (wi:TI)(g:TG)(tb:TS):TS:=fun D σ H=>wi σ H fun J H1=>∃ W:Nat->Nat->St->Hp->Prop,(∃ m,W 0 m σ H1) /\ ∀ i m σ H,W i m σ H ->
 (J.stop i H/\D.nx σ H) \/ (J.go i H /\ ∃ N:St->Hp->Prop,(∀ σ' H',N σ' H' -> ∃ m',m'<m/\W (i+1) m' σ' H') /\ ∀ x H',J.yld i H x H'->g x σ H' fun σ2 H2=>tb { D with nx:=N,ct:=N,bk:=D.nx } σ2 H2)
noncomputable def uW (fp:List aB)(h:aQ):List (aB×aY):=fp.filterMap fun b=>(h.get? b).map fun o=>(b,o)
theorem zP {fp:List aB}{h:aQ}{b:aB}{o:aY}(hb:b∈fp)(e:h.get? b=some o):(b,o)∈uW fp h:=VJ.mpr ⟨b,hb,by rw[e]; rfl⟩
theorem Cy {fp:List aB}{h:aQ}{p:aB×aY}(hp:p∈uW fp h):p.1∈fp/\h.get? p.1=some p.2:=by
 obtain⟨b,hb,e⟩:=VJ.mp hp
 cases q:h.get? b with
 | none=>rw[q] at e; cases e
 | some o=>
  rw[q] at e
  have e':(b,o)=p:=eO e
  subst e'
  exact⟨hb,q⟩
theorem Inv.pinned {pins:List (aB×aY)}{σ:St}{H:Hp}{s:aG}{fp:List aB}(I:Inv X pins σ H s)(hf : ∀ b∈fp,jC X pins H b)(ho : ∀ b∈fp,∃ o,s.heap.get? b=some o /\ ∀ v,o.data ≠ .cell v):Inv X (pins++uW fp s.heap) σ H s:=
 I.pins_of fun p hp=>(nU.mp hp).elim (fun z=>I.pin p (mK _ z)) fun z=>by
  obtain⟨hb,e⟩:=Cy z
  obtain⟨f0,f1,f2,_⟩:=hf p.1 hb
  obtain⟨o,e',d⟩:=ho p.1 hb
  rw[e] at e'; cases e'
  exact⟨e,f0,f1,f2,d⟩
theorem Inv.unpinned {pins pl:List (aB×aY)}{σ:St}{H:Hp}{s:aG}(I:Inv X (pins++pl) σ H s):Inv X pins σ H s:=I.pins_of fun p hp=>I.pin p (mK _ (VL _ hp))
theorem SM {iter:aS}{body:List bG}{wi:TI}{g:TG}{tb:TS}{pos:bL}(hp:PassesOwn (aP X.prog X.w) X.A X.env X.xe)(hc:X.calm=true)(hi:PI X tg iter wi)(hg:PG X tg g)(hb:PSs X body tb)
  (hs : ∀ x,qW iter X.env x=pure x:=by intro _; rfl):PS X (.For tg iter body [] pos) (WO wi g tb):=by
 intro pins s σ H D I h
 refine wpAny_For (thn (hi pins s σ H _ I h) fun v s1 h1=>thn h1 fun itv s2 h2=>?_) hs
 obtain⟨it,fp,tn,J,H2,e,I2,T,st2,f2,W,⟨m0,w0⟩,turn⟩:=h2
 subst e
 have stat : ∀ {H':Hp},(∀ b∈fp,H' b=none) -> ∀ b∈fp,jC X pins H' b:=fun hn b hb=>⟨hn b hb,(f2 b hb).2⟩
 refine codeAny_forLoop_any (fun n s'=>∃ i σ' H',Inv X pins σ' H' s'/\tn i s'.heap/\(∀ b∈fp,H' b=none)/\W i n σ' H') ?_ m0 ⟨0,σ,H2,I2,st2,fun b hb=>(f2 b hb).1,w0⟩
 rintro n s3 ⟨i,σ3,H3,I3,st3,fr3,w3⟩
 rcases turn i n σ3 H3 w3 with⟨stop,qn⟩ | ⟨go,N,hN,step⟩
 ·refine AH hp (thn (T.done X rfl rfl rfl hc i pins s3 σ3 H3 X.xe I3 (stat fr3) st3 stop) fun r s4 gh=>?_)
  obtain⟨hr,I4⟩:=gh
  subst hr
  exact AI ⟨σ3,H3,I4,qn⟩
 ·refine AH hp (thn (T.item X rfl rfl rfl hc i pins s3 σ3 H3 X.xe I3 (stat fr3) st3 go) fun r s4 gh=>?_)
  obtain⟨u,hr,h4⟩:=gh
  subst hr
  refine AH hp (thn h4 fun _ s5 gh=>?_)
  obtain⟨x,H5,I5,r5,y5,st5,fr5⟩:=gh
  have I5':=I5.pinned (stat fr5) (T.obj _ _ st5)
  refine AH hp (thn (hg _ s5 σ3 H5 x u _ I5' r5 (step x H5 y5)) fun _ s6 gh=>?_)
  obtain⟨σ6,H6,I6,q6⟩:=gh
  refine AH hp (thn (hb _ s6 σ6 H6 _ I6 q6) fun f s7 q7=>?_)
  have again : ∀ {σ7:St} {H7:Hp},Inv X (pins++uW fp s5.heap) σ7 H7 s7->N σ7 H7 -> ∃ m,m<n /\ ∃ i σ' H',Inv X pins σ' H' s7/\tn i s7.heap/\(∀ b∈fp,H' b=none)/\W i m σ' H':=fun {σ7 H7} I7 n7=>by
   obtain⟨m',hm,w7⟩:=hN σ7 H7 n7
   refine⟨m',hm,i+1,σ7,H7,I7.unpinned,T.keep _ _ _ st5 fun b hb o e=>(I7.pin (b,o) (mK _ (mK _ (zP hb e)))).1,fun b hb=>?_,w7⟩
   obtain⟨o,e,d⟩:=T.obj _ _ st5 b hb
   exact(I7.pin (b,o) (mK _ (mK _ (zP hb e)))).2.1
  cases f with
  | next=>obtain⟨σ7,H7,I7,n7⟩:=q7; exact again I7 n7
  | cont=>obtain⟨σ7,H7,I7,n7⟩:=q7; exact again I7 n7
  | brk=>obtain⟨σ7,H7,I7,q7⟩:=q7; exact⟨σ7,H7,I7.unpinned,q7⟩
  | ret v=>obtain⟨x7,σ7,H7,I7,r7,q7⟩:=q7; exact⟨x7,σ7,H7,I7.unpinned,r7,q7⟩
end
abbrev R2:=V->V->Hp->VK->Prop
def OpR (X:Cx)(f:aE->aE->Sem aE)(r:R2):Prop:=
 ∀ (pins:List (aB×aY)) (s:aG) (σ:St) (H:Hp) (x y:V) (v u:aE) (Q:VK),Inv X pins σ H s->RelV x v->RelV y u->r x y H Q ->
  aO (aP X.prog X.w) X.A (f v u) (EP X pins σ Q) X.xe s
def Ac8 (X:Cx)(f:aE)(r:List V->Hp->VK->Prop):Prop:=
 ∀ (pins:List (aB×aY)) (s:aG) (σ:St) (H:Hp) (xs:List V) (us:List aE) (Q:VK),Inv X pins σ H s->Vals xs us->r xs H Q ->
  aO (aP X.prog X.w) X.A (call f us) (EP X pins σ Q) X.xe s
noncomputable def tOp (r:R2)(ta tb:TE):TE:=fun σ H Q=>ta σ H fun x H1=>tb σ H1 fun y H2=>r x y H2 Q
noncomputable def rI (C:Int->Int->Prop)(g:Int->Int->V):R2:=fun x y H Q=>∃ i j,x = .int i/\y = .int j/\C i j/\Q (g i j) H
noncomputable def rI0 (g:Int->Int->V):R2:=fun x y H Q=>∃ i j,x = .int i/\y = .int j/\Q (g i j) H
section
variable {X:Cx}{a b c:aS}{ta tb tc:TE}{pos:bL}
theorem BK (ha:PE X a ta)(hb:PE X b tb){pins:List (aB×aY)}{s:aG}{σ:St}{H:Hp}{R:V->V->Hp->Prop}(I:Inv X pins σ H s)
  (h:ta σ H fun x H1=>tb σ H1 fun y H2=>R x y H2) {Q:aE->aG->Prop} {f:aE->aE->Sem aE}
  (hf : ∀ v u s2 x y H2,Inv X pins σ H2 s2->RelV x v->RelV y u->R x y H2->aO (aP X.prog X.w) X.A (f v u) Q X.xe s2) :
  aO (aP X.prog X.w) X.A (bI a X.env) (fun v s₁=>aO (aP X.prog X.w) X.A (bI b X.env) (fun u s₂=>aO (aP X.prog X.w) X.A (f v u) Q X.xe s₂) X.xe s₁) X.xe s:=by
 refine thn (ha pins s σ H _ I h) fun v s1 gh=>?_
 obtain⟨x,H1,I1,r1,q1⟩:=gh
 refine thn (hb pins s1 σ H1 _ I1 q1) fun u s2 gh=>?_
 obtain⟨y,H2,I2,r2,q2⟩:=gh
 exact hf v u s2 x y H2 I2 r1 r2 q2
theorem YK {op:Operator}{r:R2}(ho:OpR X (kC op) r)(ha:PE X a ta)(hb:PE X b tb):PE X (.BinOp a op b pos) (tOp r ta tb):=by
 intro pins s σ H Q I h
 exact wpAny_BinOp (BK ha hb I h fun v u s2 x y H2 I2 rx ry q=>ho pins s2 σ H2 x y v u Q I2 rx ry q)
theorem opI {f:aE->aE->Sem aE}{C:Int->Int->Prop}{g:Int->Int->Int}
  (rule : ∀ (i j:Int) (t u:Tok) (s:aG) (Q:aE->aG->Prop) (E:aE->aG->Prop),C i j->Q (.int (g i j) s.toks) { s with toks:=s.toks+1 }->aO (aP X.prog X.w) X.A (f (.int i t) (.int j u)) Q E s) :
  OpR X f (rI C fun i j=>.int (g i j)):=by
 intro pins s σ H x y v u Q I rx ry h
 obtain⟨i,j,rfl,rfl,hc,q⟩:=h
 obtain⟨t,rfl⟩:=rx
 obtain⟨t',rfl⟩:=ry
 exact rule i j t t' s _ _ hc ⟨.int (g i j),H,I.tok _,⟨_,rfl⟩,q⟩
theorem JM {f:aE->aE->Sem aE}{g:Int->Int->Int}
  (rule : ∀ (i j:Int) (t u:Tok) (s:aG) (Q:aE->aG->Prop) (E:aE->aG->Prop),Q (.int (g i j) s.toks) { s with toks:=s.toks+1 }->aO (aP X.prog X.w) X.A (f (.int i t) (.int j u)) Q E s) :
  OpR X f (rI0 fun i j=>.int (g i j)):=by
 intro pins s σ H x y v u Q I rx ry h
 obtain⟨i,j,rfl,rfl,q⟩:=h
 obtain⟨t,rfl⟩:=rx
 obtain⟨t',rfl⟩:=ry
 exact rule i j t t' s _ _ ⟨.int (g i j),H,I.tok _,⟨_,rfl⟩,q⟩
theorem yC {f:aE->aE->Sem aE}{g:Int->Int->Bool}
  (rule : ∀ (i j:Int) (t u:Tok) (s:aG) (Q:aE->aG->Prop) (E:aE->aG->Prop),Q (.bool (g i j)) s->aO (aP X.prog X.w) X.A (f (.int i t) (.int j u)) Q E s) :
  OpR X f (rI0 fun i j=>.bl (g i j)):=by
 intro pins s σ H x y v u Q I rx ry h
 obtain⟨i,j,rfl,rfl,q⟩:=h
 obtain⟨t,rfl⟩:=rx
 obtain⟨t',rfl⟩:=ry
 exact rule i j t t' s _ _ ⟨.bl (g i j),H,I,rfl,q⟩
def WT (i j:Int):Prop:=0≤j/\j≤1000000/\i.natAbs<2 ^ 64
def Bdo (i j:Int):Prop:=(-(2 ^ 64)<i/\i<2 ^ 64) \/ (-(2 ^ 64)<j/\j<2 ^ 64)
theorem Bdo.ok {i j:Int}(h:Bdo i j):IntMulOk i j:=by
 rcases h with⟨h1,h2⟩ | ⟨h1,h2⟩
 ·exact .of_left (intBits_le_64 h1 h2)
 ·exact .of_right (intBits_le_64 h1 h2)
theorem Ban:OpR X (kC .Add) (rI0 fun i j=>.int (i+j)):=JM fun _ _ _ _ _ _ _ q=>add_int q
theorem ZD:OpR X (kC .Sub) (rI0 fun i j=>.int (i - j)):=JM fun _ _ _ _ _ _ _ q=>sub_int q
theorem YY:OpR X (kC .Mult) (rI Bdo fun i j=>.int (i*j)):=opI fun _ _ _ _ _ _ _ hc q=>mul_int q hc.ok
theorem ZE:OpR X (kC .Mod) (rI (fun _ j=>0<j) fun i j=>.int (i%j)):=opI fun i j _ _ _ _ _ hc q=>by
 have h1:(0:Int)<j:=hc
 exact mod_int' (by omega) (by rw[Int.fmod_eq_emod_of_nonneg i (by omega)]; exact q)
theorem Ik:OpR X (kC .Pow) (rI WT fun i j=>.int (i ^ j.toNat)):=opI fun _ _ _ _ _ _ _ hc q=>pow_int_small hc.1 hc.2.1 hc.2.2 q
end
section
variable {X:Cx}{a b c:aS}{ta tb tc:TE}{pos:bL}
theorem uT {pins:List (aB×aY)}{σ:St}{H:Hp}{s:aG}{Q:VK}{k k':Bool}(I:Inv X pins σ H s)(q:Q (.bl k) H)(e:k=k'):EP X pins σ Q (.bool k') s:=by
 subst e
 exact⟨.bl k,H,I,rfl,q⟩
theorem Av5:OpR X (dR .Lt) (rI0 fun i j=>.bl (decide (i<j))):=yC fun _ _ _ _ _ _ _ q=>lt_int q
theorem Atw:OpR X (dR .LtE) (rI0 fun i j=>.bl (decide (i≤j))):=yC fun _ _ _ _ _ _ _ q=>le_int q
theorem HL:OpR X (dR .Gt) (rI0 fun i j=>.bl (decide (j<i))):=yC fun _ _ _ _ _ _ _ q=>gt_int q
theorem KD:OpR X (dR .GtE) (rI0 fun i j=>.bl (decide (j≤i))):=yC fun _ _ _ _ _ _ _ q=>ge_int q
theorem vR:OpR X (dR .Lt) (fun x y H Q=>∃ i j,x = .str i/\y = .str j/\Q (.bl (decide (i.cps.toList<j.cps.toList))) H):=by
 intro pins s σ H x y v u Q I rx ry h
 obtain⟨i,j,rfl,rfl,q⟩:=h
 obtain⟨t,rfl⟩:=rx
 obtain⟨t',rfl⟩:=ry
 exact lt_str (uT I q rfl)
theorem Ck:OpR X (dR .In) (fun x y H Q=>∃ i j,x = .str i/\y = .str j/\Q (.bl (!(rH j i 0 j.length 1).isEmpty)) H):=by
 intro pins s σ H x y v u Q I rx ry h
 obtain⟨i,j,rfl,rfl,q⟩:=h
 obtain⟨t,rfl⟩:=rx
 obtain⟨t',rfl⟩:=ry
 exact in_str (uT I q rfl)
theorem SV:OpR X (dR .Is) (fun x y H Q=>y = .non/\Q (.bl (decide (x = .non))) H):=by
 intro pins s σ H x y v u Q I rx ry h
 obtain⟨rfl,q⟩:=h
 cases ry
 refine is_none_gen (uT I q ?_)
 cases x <;> first
  | (cases rx; rfl)
  | (obtain⟨t,rfl⟩:=rx; rfl)
theorem Me:OpR X (dR .IsNot) (fun x y H Q=>y = .non/\Q (.bl (!decide (x = .non))) H):=by
 intro pins s σ H x y v u Q I rx ry h
 obtain⟨rfl,q⟩:=h
 cases ry
 refine isnot_none_gen (uT I q ?_)
 cases x <;> first
  | (cases rx; rfl)
  | (obtain⟨t,rfl⟩:=rx; rfl)
theorem OpR.or {f:aE->aE->Sem aE}{r r':R2}(h:OpR X f r)(h':OpR X f r'):OpR X f (fun x y H Q=>r x y H Q \/ r' x y H Q):=by
 intro pins s σ H x y v u Q I rx ry q
 rcases q with q | q
 ·exact h pins s σ H x y v u Q I rx ry q
 ·exact h' pins s σ H x y v u Q I rx ry q
theorem dQ (b:aS){op:CmpOp}(h:op ≠ .In:=by decide)(h2:op ≠ .NotIn:=by decide):xA op b=false:=by
 have e1:(op == CmpOp.In)=false:=by cases op <;> first | rfl | exact absurd rfl h
 have e2:(op == CmpOp.NotIn)=false:=by cases op <;> first | rfl | exact absurd rfl h2
 cases b <;> simp[xA,e1,e2]
theorem LB {op:CmpOp}{r:R2}(ho:OpR X (dR op) r)(ha:PE X a ta)(hb:PE X b tb)(hm:xA op b=false):PE X (.Compare a [op] [b] pos) (tOp r ta tb):=by
 intro pins s σ H Q I h
 exact wpAny_Compare1 (BK ha hb I h fun v u s2 x y H2 I2 rx ry q=>ho pins s2 σ H2 x y v u Q I2 rx ry q) hm
noncomputable def SD (t:TE):TT:=fun σ H Q=>t σ H fun x H'=>∃ k,x = .bl k/\Q k H'
theorem Jx {op:CmpOp}{r:R2}(ho:OpR X (dR op) r)(ha:PE X a ta)(hb:PE X b tb)(hm:xA op b=false):PT X (.Compare a [op] [b] pos) (SD (tOp r ta tb)):=by
 intro pins s σ H Q I h
 refine wpAny_isTrue_Compare1 (thn (ha pins s σ H _ I h) fun v s1 ⟨x,H1,I1,r1,q1⟩=>thn (hb pins s1 σ H1 _ I1 q1) fun u s2 ⟨y,H2,I2,r2,q2⟩=>
  thn (ho pins s2 σ H2 x y v u _ I2 r1 r2 q2) fun c s3 ⟨z,H3,I3,r3,k,e,q3⟩=>?_) hm
 subst e
 cases r3
 exact qS ⟨H3,I3,q3⟩
noncomputable def CG (r r':R2)(ta tb tc:TE):TE:=fun σ H Q=>ta σ H fun x H1=>tb σ H1 fun y H2=>r x y H2 fun z H3=>∃ k,z = .bl k /\
 (if k=true then tc σ H3 fun w' H4=>r' y w' H4 Q else Q (.bl false) H3)
theorem Au {op op':CmpOp}{r r':R2}(ho:OpR X (dR op) r)(ho':OpR X (dR op') r')(ha:PE X a ta)(hb:PE X b tb)(hc:PE X c tc)
  (hm:lastMarks [op,op'] [b,c]=false:=by with_unfolding_all rfl):PE X (.Compare a [op,op'] [b,c] pos) (CG r r' ta tb tc):=by
 intro pins s σ H Q I h
 refine Compare_chain (thn (ha pins s σ H _ I h) fun v s1 ⟨x,H1,I1,r1,q1⟩=>chain_link (thn (hb pins s1 σ H1 _ I1 q1) fun u s2 ⟨y,H2,I2,r2,q2⟩=>
  thn (ho pins s2 σ H2 x y v u _ I2 r1 r2 q2) fun d s3 ⟨z,H3,I3,r3,k,e,q3⟩=>?_)) hm
 subst e
 cases r3
 refine qS ?_
 cases k with
 | false=>exact ite_ff ⟨.bl false,H3,I3,rfl,q3⟩
 | true=>exact ite_tt (chain_last (thn (hc pins s3 σ H3 _ I3 q3) fun w' s4 ⟨z',H4,I4,r4,q4⟩=>ho' pins s4 σ H4 y z' u w' Q I4 r2 r4 q4))
theorem Mw {op op':CmpOp}{r r':R2}(ho:OpR X (dR op) r)(ho':OpR X (dR op') r')(ha:PE X a ta)(hb:PE X b tb)(hc:PE X c tc)
  (hm:lastMarks [op,op'] [b,c]=false:=by with_unfolding_all rfl):PT X (.Compare a [op,op'] [b,c] pos) (SD (CG r r' ta tb tc)):=by
 intro pins s σ H Q I h
 refine isTrue_chain (thn (ha pins s σ H _ I h) fun v s1 ⟨x,H1,I1,r1,q1⟩=>test_link (thn (hb pins s1 σ H1 _ I1 q1) fun u s2 ⟨y,H2,I2,r2,q2⟩=>
  thn (ho pins s2 σ H2 x y v u _ I2 r1 r2 q2) fun d s3 ⟨z,H3,I3,r3,k,e,q3⟩=>?_)) hm
 subst e
 cases r3
 refine qS ?_
 cases k with
 | false=>
  obtain⟨k',e',q'⟩:=q3
  cases e'
  exact ite_ff ⟨H3,I3,q'⟩
 | true=>
  refine ite_tt (test_last (thn (hc pins s3 σ H3 _ I3 q3) fun w' s4 ⟨z',H4,I4,r4,q4⟩=>thn (ho' pins s4 σ H4 y z' u w' _ I4 r2 r4 q4) fun d' s5 gh=>?_))
  obtain⟨z2,H5,I5,r5,k2,e2,q5⟩:=gh
  subst e2
  cases r5
  exact qS ⟨H5,I5,q5⟩
theorem rX:(sizeLine:Nat)<2 ^ 63:=by rw[tN]; decide
theorem Avf:OpR X (kC .Add) (fun x y H Q=>∃ i j,x = .str i/\y = .str j/\i.length+j.length≤sizeLine/\Q (.str (i++j)) H):=by
 intro pins s σ H x y v u Q I rx ry h
 obtain⟨i,j,rfl,rfl,hz,q⟩:=h
 obtain⟨t,rfl⟩:=rx
 obtain⟨t',rfl⟩:=ry
 exact add_str (fun t' tk=>⟨.str (i++j),H,I.tok _,⟨_,rfl⟩,q⟩) hz
theorem vals1 {x:V}{us:List aE}(r:Vals [x] us) : ∃ u,us=[u]/\RelV x u:=by
 cases r with
 | cons r1 r2=>cases r2; exact⟨_,rfl,r1⟩
theorem vals2 {x y:V}{us:List aE}(r:Vals [x,y] us) : ∃ u w',us=[u,w']/\RelV x u/\RelV y w':=by
 cases r with
 | cons r1 r2=>
  cases r2 with
  | cons r3 r4=>cases r4; exact⟨_,_,rfl,r1,r3⟩
theorem Pc:Ac8 X (.builtin "abs") (fun xs H Q=>∃ i,xs=[.int i]/\Q (.int (if i<0 then -i else i)) H):=by
 intro pins s σ H xs us Q I r h
 obtain⟨i,rfl,q⟩:=h
 obtain⟨u,rfl,t,rfl⟩:=vals1 r
 exact call_abs_int fun u tk=>⟨.int (if i<0 then -i else i),H,I.tok _,⟨_,rfl⟩,q⟩
theorem By (hc:X.calm=true):Ac8 X (.builtin "min") (fun xs H Q=>∃ i j,xs=[.int i,.int j]/\Q (.int (if j<i then j else i)) H):=by
 intro pins s σ H xs us Q I r h
 obtain⟨i,j,rfl,q⟩:=h
 obtain⟨u,w',rfl,⟨t,rfl⟩,⟨t',rfl⟩⟩:=vals2 r
 refine min_two_ints (I.ok.hd hc) fun h' tk k=>⟨_,H,I.kept k,?_,q⟩
 by_cases hj:j<i
 ·rw[if_pos hj,if_pos hj]; exact⟨_,rfl⟩
 ·rw[if_neg hj,if_neg hj]; exact⟨_,rfl⟩
theorem Bq:Ac8 X (.type "int") (fun xs H Q=>(∃ i,xs=[.int i]/\Q (.int i) H) \/ ∃ k,xs=[.bl k]/\Q (.int (if k then 1 else 0)) H):=by
 intro pins s σ H xs us Q I r h
 rcases h with⟨i,rfl,q⟩ | ⟨k,rfl,q⟩
 ·obtain⟨u,rfl,t,rfl⟩:=vals1 r
  exact call_int_int ⟨.int i,H,I,⟨_,rfl⟩,q⟩
 ·obtain⟨u,rfl,r1⟩:=vals1 r
  cases r1
  exact call_int_bool ⟨.int (if k then 1 else 0),H,I.tok _,⟨_,rfl⟩,q⟩
end
structure ObjM (h:aQ)(x dx C:aB)(mA:aD->Option aE):Prop where
 obj:h.get? x=some (nR C dx)
 ns:h.Ns1 dx mA
 ne:dx≠x
theorem Bn {h:aQ}{dx:aB}{mA:aD->Option aE}(n:h.Ns1 dx mA) : ∃ od,h.get? dx=some od /\ ∀ name,IF name od=some (mA name):=by
 obtain⟨o,es,ep,ho,hd,hk,_,hm⟩:=n
 refine⟨o,ho,fun name=>?_⟩
 have e:=hm name
 unfold nsFind findBy at e
 rw[← Array.find?_toList] at e
 unfold IF
 rw[hd]
 dsimp only
 split
 ·rename_i y q
  rw[q] at e
  exact congrArg some e
 ·rename_i q
  rw[q] at e
  have a:es.toList.any (·.refKey)=false:=by
   rw[List.any_eq_false]
   intro y hy
   obtain⟨z,t,hkey⟩:=hk y (Array.mem_toList_iff.mp hy)
   simp[DictEntry.refKey,hkey]
  have a' : ¬ es.toList.any (·.refKey)=true:=by rw[a]; exact pI
  rw[if_neg a']
  exact congrArg some e
theorem ObjM.look {h:aQ}{x dx C:aB}{mA:aD->Option aE}(I:ObjM h x dx C mA) : ∃ od,PySem.W.InstAt h x (nR C dx) C (some od) /\ ∀ name,IF name od=some (mA name):=
 let ⟨od,ho,hl⟩:=Bn I.ns
 ⟨od,⟨I.obj,rfl,rfl,ho⟩,hl⟩
section
variable {prog:bC}{w:aW}{A:bT}{E:aE->aG->Prop}{s:aG}{K:aH}{x dx C f:aB}{mA:aD->Option aE}{name:aD}{v:aE}
theorem get_map {expr:Bool}{Q:aE->aG->Prop}(X:K.In s.heap)(I:ObjM s.heap x dx C mA)(hg:AS K C name=true)(hh:II K C=true)
  (ha:kH K (.ref C) name=some none) (hv:mA name=some v) (hv':PySem.W.handedIn v=true) (h:Q v { s with toks:=s.toks+1 }) :
  aO (aP prog w) A (getAttr (.ref x) name expr) Q E s:=by
 obtain⟨od,J,hl⟩:=I.look
 exact PySem.W.get_value X J (UK hg).1 (PySem.W.findObj_own hh ha rfl (by rw[hl,hv])) hv' h
theorem Ow {pl:Sem Bool}{Q:aE×List aE->aG->Prop}(X:K.In s.heap)(I:ObjM s.heap x dx C mA)(hg:AS K C name=true)
  (hf:kH K (.ref C) name=some (some (.ref f))) (ht:IG K (.ref f)=true) (hv:mA name=none) (h:Q (.ref f,[.ref x]) s) :
  aO (aP prog w) A (wZ (.ref x) name pl) Q E s:=by
 obtain⟨od,J,hl⟩:=I.look
 exact PySem.W.method_fn X J (UK hg).1 (UK hg).2 hf (beq_iff_eq.mp ht) (by show(IF name od).map (·.isSome)=some false; rw[hl,hv]; rfl) h
theorem Lr {ns:List aD}{Q:Unit->aG->Prop}(X:K.In s.heap)(I:ObjM s.heap x dx C mA)
  (hs:kH K (.ref C) "__setattr__" = some (some (.builtin "object.__setattr__"))) (hp:UJ K C=true) (ht:UI K C name=some none) (hh:II K C=true)
  (hw:PySem.Within mA ns) (hsz:ns.length≤sizeLine)
  (h : ∀ h',ObjM h' x dx C (fun y=>if y=name then some v else mA y)->rF dx s.heap h'->Q () { s with heap:=h',toks:=s.toks+2 }) :
  aO (aP prog w) A (setAttr (.ref x) name v) Q E s:=by
 obtain⟨od,J,hl⟩:=I.look
 refine PySem.W.set_plain X J hs (PySem.W.osa_open (s:={ s with toks:=s.toks+1 }) (r:=none) X J hp ht fun b=>?_)
 obtain⟨cd,hc,hd'⟩:=PySem.W.any_some hh
 have hx:s.heap.get? x=some ⟨.ref C,some dx,.plain,#[]⟩:=I.obj
 refine aK (aZ (aK (aK (wpAny_loadPart hx (aK (PySem.W.Looks.here (s:={ s with toks:=s.toks+1 }) (PySem.W.looks_clsIn X hc) ?_))))))
 rw[hd']
 refine aZ (a:=some dx) (aK (aZ (aK ?_)))
 refine wpAny_nsSet1 (s:={ s with toks:=s.toks+1 }) I.ns fun h' hn2 hs2=>?_
 obtain⟨oD,esD,epD,hoD,hdD,hcD⟩:=hn2.count (PySem.Within.cons name v hw)
 refine aK (wpAny_lookBehind hoD (by rw[hdD]; exact pastItsLine_dict (jM hcD (by rw[eE]; omega))) ?_)
 exact aZ (h _ ⟨(hs2.2 _ (jL I.ne)).trans I.obj,hn2,I.ne⟩ hs2)
theorem Ov {R:nO->aG->Prop}{vs:List aE}{kw:List (aD×aE)}(X:K.In s.heap)(hm:UO K C=true)
  (hi:kH K (.ref C) "__init__" = some (some (.ref f))) (hf:PySem.W.typeIn K (.ref f)=some (.type "function"))
  (h:iW (aP prog w) (A.under (.builtin "type.__call__" ⟨.ref C::vs,kw⟩)) (.call (.ref f) ⟨.ref (s.heap.objs.size+1)::vs,kw⟩) (PySem.W.InitBack (s.heap.objs.size+1) R)
   { s with heap:=(s.heap.push mJ).push (nR C s.heap.objs.size) }) :
  iW (aP prog w) A (.call (.ref C) ⟨vs,kw⟩) R s:=by
 obtain⟨hh,g,d,t,os⟩:=s
 exact PySem.W.make_core (PySem.W.makes_of X hm) (PySem.W.looks_findIn X hi) (fun self=>PySem.W.bind_fn X self hf) (.inl rfl) h
end
noncomputable def gF (f:aD)(v:V):List (aD×V)->List (aD×V)
 | []=>[(f,v)]
 | (g,x)::r=>if g=f then(g,v)::r else(g,x)::gF f v r
theorem RN (f g:aD)(v:V) : ∀ fs:List (aD×V),(gF f v fs).lookup g=if g=f then some v else fs.lookup g
 | []=>by
  show iI g [(f,v)]=_
  by_cases h:g=f
  ·have hb:(g == f)=true:=beq_iff_eq.mpr h
   simp only[iI,hb,if_pos h]
  ·have hb:(g == f)=false:=beq_eq_false_iff_ne.mpr h
   simp only[iI,hb,if_neg h]
 | (k,x)::r=>by
  have ih:=RN f g v r
  rw[show gF f v ((k,x)::r)=(if k=f then(k,v)::r else(k,x)::gF f v r) from rfl]
  by_cases hk:k=f
  ·rw[if_pos hk]
   by_cases h:g=k
   ·have hb:(g == k)=true:=beq_iff_eq.mpr h
    simp only[iI,hb,if_pos (h.trans hk)]
   ·have hb:(g == k)=false:=beq_eq_false_iff_ne.mpr h
    simp only[iI,hb,if_neg (fun e:g=f=>h (e.trans hk.symm))]
  ·rw[if_neg hk]
   by_cases h:g=k
   ·have hb:(g == k)=true:=beq_iff_eq.mpr h
    simp only[iI,hb,if_neg (fun e:g=f=>hk (h.symm.trans e))]
   ·have hb:(g == k)=false:=beq_eq_false_iff_ne.mpr h
    simp only[iI,hb]
    exact ih
theorem FK (f:aD)(v:V) : ∀ fs:List (aD×V),f∈(gF f v fs).map (·.1) /\ ∀ g,g∈fs.map (·.1)->g∈(gF f v fs).map (·.1)
 | []=>⟨by simp[gF],fun g h=>by simp at h⟩
 | (k,x)::r=>by
  obtain⟨i1,i2⟩:=FK f v r
  rw[show gF f v ((k,x)::r)=(if k=f then(k,v)::r else(k,x)::gF f v r) from rfl]
  by_cases hk:k=f
  ·rw[if_pos hk]
   subst hk
   exact⟨by simp,fun g h=>by simpa using h⟩
  ·rw[if_neg hk]
   refine⟨?_,fun g h=>?_⟩
   ·rw[dJ]
    exact cA _ i1
   ·rw[dJ] at h ⊢
    rcases cJ.mp h with e | e
    ·exact cJ.mpr (.inl e)
    ·exact cA _ (i2 g e)
theorem RH (f:aD)(v:V) : ∀ fs:List (aD×V),(gF f v fs).length≤fs.length+1
 | []=>by simp[gF]
 | (k,x)::r=>by
  have ih:=RH f v r
  rw[show gF f v ((k,x)::r)=(if k=f then(k,v)::r else(k,x)::gF f v r) from rfl]
  by_cases hk:k=f
  ·rw[if_pos hk,eE,eE]; omega
  ·rw[if_neg hk,eE,eE]; omega
theorem An8.some_of {v:V}{o:Option aE}(r:An8 (some v) o) : ∃ u,o=some u/\RelV v u:=by
 cases o with
 | none=>exact(show False from r).elim
 | some u=>exact⟨u,rfl,r⟩
theorem An8.none_of {o:Option aE}(r:An8 none o):o=none:=by
 cases o with
 | none=>rfl
 | some u=>exact(show False from r).elim
theorem Dl {v:V}{u:aE}(r:RelV v u):PySem.W.handedIn u=true:=by
 cases v with
 | non=>cases(show u=fX from r); rfl
 | bl b=>cases(show u=Value.bool b from r); rfl
 | int i=>obtain⟨t,e⟩:=(show ∃ t,u=AO i t from r); cases e; rfl
 | str x=>obtain⟨t,e⟩:=(show ∃ t,u=AN x t from r); cases e; rfl
 | byt b=>obtain⟨t,e⟩:=(show ∃ t,u=Value.bytes b t from r); cases e; rfl
 | flt b=>obtain⟨t,e⟩:=(show ∃ t,u=Value.float b t from r); cases e; rfl
 | ref a=>cases(show u=cZ a from r); rfl
 | ty n=>cases(show u=kE n from r); rfl
section
variable {P:bC}{w:aW}{H H':Hp}{h h':aQ}{a C dx:aB}{fs fs':List (aD×V)}
theorem yR (hok:HOk P w H h)(e:H a=some (.ins C dx fs)) : ∃ mA,ObjM h a dx C mA/\(∀ f,An8 (fs.lookup f) (mA f))/\PySem.Within mA (fs.map (·.1))/\fs.length≤1000/\H dx=some (.own a):=by
 obtain⟨d,z,ne,ob,mA,n,r,q⟩:=(show Acs P w H h a (.ins C dx fs) from hok a _ e)
 exact⟨mA,⟨ob,n,ne⟩,r,q,z,d⟩
end
structure Cls (K:aH)(C:aB):Prop where
 pg:AS K C Str.empty=true
 hd:II K C=true
 po:UJ K C=true
 sa:kH K (.ref C) "__setattr__" = some (some (.builtin "object.__setattr__"))
theorem Cls.get {K:aH}{C:aB}(c:Cls K C)(f:aD):AS K C f=true:=c.pg
def Ajy (K:aH)(C:aB)(f:aD):Prop:=kH K (.ref C) f=some none
theorem Ajy.taker {K:aH}{C:aB}{f:aD}(n:Ajy K C f):UI K C f=some none:=by
 unfold UI
 rw[show kH K (.ref C) f=some none from n]
 rfl
structure Meth (K:aH)(C:aB)(m:aD)(f:aB):Prop where
 at_:kH K (.ref C) m=some (some (.ref f))
 fn:IG K (.ref f)=true
 kp:kX K (.ref f)=true
section
variable {X:Cx}{pins:List (aB×aY)}{σ:St}{H:Hp}{s:aG}{a C dx:aB}{fs:List (aD×V)}{f:aD}{v:V}{A:bT}{E:aE->aG->Prop}
theorem Dr {b:Bool}{Q:aE->aG->Prop}(I:Inv X pins σ H s)(e:H a=some (.ins C dx fs))(c:Cls X.K C)(n:Ajy X.K C f)(l:fs.lookup f=some v)
  (h : ∀ u s',Inv X pins σ H s'->RelV v u->Q u s'):aO (aP X.prog X.w) A (getAttr (.ref a) f b) Q E s:=by
 obtain⟨mA,O,r,_,_,_⟩:=yR I.hok e
 obtain⟨u,hu,ru⟩:=An8.some_of (v:=v) (o:=mA f) (by rw[← l]; exact r f)
 exact get_map I.kIn O (c.get f) c.hd n hu (Dl ru) (h u _ (I.tok _) ru)
theorem FU {m:aD}{g:aB}{pl:Sem Bool}{Q:aE×List aE->aG->Prop}(I:Inv X pins σ H s)(e:H a=some (.ins C dx fs))(c:Cls X.K C)(k:Meth X.K C m g)(l:fs.lookup m=none)
  (h:Q (.ref g,[.ref a]) s):aO (aP X.prog X.w) A (wZ (.ref a) m pl) Q E s:=by
 obtain⟨mA,O,r,_,_,_⟩:=yR I.hok e
 have hn:mA m=none:=An8.none_of (by rw[← l]; exact r m)
 exact Ow I.kIn O (c.get m) k.at_ k.fn hn h
theorem Dv {y:V}{u:aE}{Q:Unit->aG->Prop}(I:Inv X pins σ H s)(e:H a=some (.ins C dx fs))(c:Cls X.K C)(n:Ajy X.K C f)(hl:fs.length<1000)(ry:RelV y u)
  (h : ∀ s',Inv X pins σ (upd H a (.ins C dx (gF f y fs))) s'->Q () s'):aO (aP X.prog X.w) A (setAttr (.ref a) f u) Q E s:=by
 obtain⟨mA,O,r,wi,_,ho⟩:=yR I.hok e
 have hz:(fs.map (·.1)).length≤sizeLine:=by rw[cP,tN]; omega
 refine Lr I.kIn O c.sa c.po n.taker c.hd wi hz fun h' O' sb=>h _ ?_
 have hd : ∃ o,h'.get? dx=some o:=let ⟨o,_,_,e',_⟩:=O'.ns; ⟨o,e'⟩
 refine I.write (x:=a) (e:=dx) (by rw[e]; exact gL) (.inr ho) (fun b q hb z=>(sb.2 b hb).trans z) hd ?_
 refine⟨by rw[bN O.ne]; exact ho,?_,O.ne,O'.obj,_,O'.ns,fun g=>?_,fun g hg=>?_⟩
 ·have:=RH f y fs; omega
 ·show An8 ((gF f y fs).lookup g) (if g=f then some u else mA g)
  rw[RN]
  by_cases q:g=f
  ·rw[if_pos q,if_pos q]; exact ry
  ·rw[if_neg q,if_neg q]; exact r g
 ·by_cases q:g=f
  ·rw[q]; exact(FK f y fs).1
  ·refine(FK f y fs).2 g (wi g fun z=>hg ?_)
   show(if g=f then some u else mA g)=none
   rw[if_neg q]; exact z
theorem Inv.made (I:Inv X pins σ H s):Inv X pins σ (upd (upd H s.heap.objs.size (.own (s.heap.objs.size+1))) (s.heap.objs.size+1) (.ins C s.heap.objs.size []))
  { s with heap:=(s.heap.push mJ).push (nR C s.heap.objs.size) }:=by
 have e1:(s.heap.push mJ).get? s.heap.objs.size=some mJ:=eY s.heap rfl
 have e2:((s.heap.push mJ).push (nR C s.heap.objs.size)).get? (s.heap.objs.size+1)=some (nR C s.heap.objs.size):=by
  have:=eY (s.heap.push mJ) (o:=nR C s.heap.objs.size) rfl
  rwa [JA] at this
 have e3:(s.heap.push mJ).Ns s.heap.objs.size (fun _=>none):=⟨mJ,#[],_,e1,rfl,(fun e he=>absurd he (by simp)),fun _=>rfl⟩
 have I1:=I.laid (a:=s.heap.objs.size) (o:=.own (s.heap.objs.size+1)) (h':=s.heap.push mJ) (t':=s.toks) (fun b u q=>cN _ q) (bX _) ⟨_,e1⟩
 refine I1.laid (a:=s.heap.objs.size+1) (o:=.ins C s.heap.objs.size []) (t':=s.toks) (fun b u q=>cN _ q) (IS (JA _ _)) ?_
 have ne:s.heap.objs.size≠s.heap.objs.size+1:=dA (Nat.lt_succ_self _)
 refine⟨by rw[bN ne,eB],fH _,ne,e2,fun _=>none,(Heap.Ns1.of_empty e3).at fun o q=>cN _ q,fun _=>gL,fun y hy=>absurd rfl hy⟩
theorem Kj {prog:bC}{w:aW}{env:dN}{e:aS}{f:aD}{pos:bL}{s:aG}{Q:aE->aG->Prop}(hb:pE e f env (bI e env)=bI e env)
  (h:aO (aP prog w) A (bI e env) (fun o s₁=>aO (aP prog w) A (getAttr o f true) Q E s₁) E s):aO (aP prog w) A (bI (.Attribute e f pos) env) Q E s:=
 Attribute_any_ h (by rw[arm_eval_Attribute,hb])
end
noncomputable def WN (K:aH)(ta:TE)(f:aD):TE:=fun σ H Q=>ta σ H fun x H1=>∃ a C dx fs v,x = .ref a/\H1 a=some (.ins C dx fs)/\Cls K C/\Ajy K C f/\fs.lookup f=some v/\Q v H1
noncomputable def XR (K:aH)(ta tv:TE)(f:aD):TS:=fun D σ H=>tv σ H fun y H1=>ta σ H1 fun x H2=>∃ a C dx fs,x = .ref a/\H2 a=some (.ins C dx fs)/\Cls K C/\Ajy K C f/\fs.length<1000 /\
 D.nx σ (upd H2 a (.ins C dx (gF f y fs)))
section
variable {X:Cx}{o e value:aS}{f:aD}{pos pos' tpos:bL}{ta tv:TE}
theorem rV (he:PE X e ta)(hb:pE e f X.env (bI e X.env)=bI e X.env):PE X (.Attribute e f pos) (WN X.K ta f):=by
 intro pins s σ H Q I h
 refine Kj hb (thn (he pins s σ H _ I h) fun u s1 gh=>?_)
 obtain⟨x,H1,I1,rx,a,C,dx,fs,v,ex,ea,c,n,l,q⟩:=gh
 subst ex
 obtain rfl:u=cZ a:=rx
 exact Dr I1 ea c n l fun u' s2 I2 ru=>⟨v,H1,I2,ru,q⟩
theorem SX (ha:PE X o ta)(hv:PE X value tv)(hs:mG value (some (.Attribute o f pos')) pos.line X.env=pure false):PS X (.Assign [.Attribute o f pos'] value pos) (XR X.K ta tv f):=by
 intro pins s σ H D I h
 refine plainObj_wpAny_Assign_Attribute (thn (hv pins s σ H _ I h) fun u s1 ⟨y,H1,I1,ry,q⟩=>thn (ha pins s1 σ H1 _ I1 q) fun ov s2 ⟨x,H2,I2,rx,a,C,dx,fs,ex,ea,c,n,l,q2⟩=>?_) hs
 subst ex
 obtain rfl:ov=cZ a:=rx
 exact Dv I2 ea c n l ry fun s3 I3=>⟨σ,_,I3,q2⟩
end
section
variable {X:Cx}{pins:List (aB×aY)}{σ:St}{H:Hp}{s:aG}{A:bT}{E:aE->aG->Prop}{Q:aE->aG->Prop}{c:aE}{b:Bool}
inductive TyOf (K:aH)(H:Hp):V->aE->Prop where
 | non:TyOf K H .non (.type "NoneType")
 | bl (x:Bool):TyOf K H (.bl x) (.type "bool")
 | int (i:Int):TyOf K H (.int i) (.type "int")
 | str (x:aD):TyOf K H (.str x) (.type "str")
 | flt (x:UInt64):TyOf K H (.flt x) (.type "float")
 | lst {a:aB} {xs:List V} (e:H a=some (.lst xs)):TyOf K H (.ref a) (.type "list")
 | frz {a:aB} {o:aY} {xs:List V} (e:H a=some (.frz o (.lst xs))):TyOf K H (.ref a) (.type "list")
 | tup {a:aB} {xs:List V} (e:H a=some (.tup xs)):TyOf K H (.ref a) (.type "tuple")
 | dK {a:aB} {ep:Nat} {kvs:List (aN×V)} (e:H a=some (.dK ep kvs)):TyOf K H (.ref a) (.type "dict")
 | dT {a:aB} {ep:Nat} {kvs:List (List aA×V)} (e:H a=some (.dT ep kvs)):TyOf K H (.ref a) (.type "dict")
 | ins {a C dx:aB} {fs:List (aD×V)} (e:H a=some (.ins C dx fs)) (cl:Cls K C) (ha:kH K (.ref C) "__class__" = some (some (.builtin "object.__class__")))
   (hn:PySem.W.specialIn K (.builtin "object.__class__") "__get__" = some (some (.builtin "getset_descriptor.__get__"))) (htk:PySem.W.takesIn K (.builtin "object.__class__")=some true)
   (hm:PySem.W.mroIn K C (.type "object")=some true):TyOf K H (.ref a) (.ref C)
theorem Bb {x:V}{u t:aE}(I:Inv X pins σ H s)(rx:RelV x u)(ty:TyOf X.K H x t)(e:fY X.K t c=some b)(h : ∀ tk,Q (.bool b) { s with toks:=tk }) :
  aO (aP X.prog X.w) A (call (.builtin "isinstance") [u,c]) Q E s:=by
 cases ty with
 | non=>cases(show u=fX from rx); exact kG PySem.W.kitx_none I.kIn gL e (fun z=>nomatch z) h
 | bl y=>cases(show u=Value.bool y from rx); exact kG PySem.W.kitx_bool I.kIn gL e (fun z=>nomatch z) h
 | int i=>obtain⟨t,q⟩:=(show ∃ t,u=AO i t from rx); cases q; exact kG PySem.W.kitx_int I.kIn gL e (fun z=>nomatch z) h
 | str y=>obtain⟨t,q⟩:=(show ∃ t,u=AN y t from rx); cases q; exact kG PySem.W.kitx_str I.kIn gL e (fun z=>nomatch z) h
 | flt y=>obtain⟨t,q⟩:=(show ∃ t,u=Value.float y t from rx); cases q; exact kG PySem.W.kitx_float I.kIn gL e (fun z=>nomatch z) h
 | @lst a xs ea=>
  cases(show u=cZ a from rx)
  obtain⟨_,_,n,_,h1⟩:=(show Acs X.prog X.w H s.heap a (.lst xs) from I.hok a _ ea)
  exact kG UP I.kIn ⟨_,h1,rfl⟩ e (fun z=>nomatch z) h
 | @frz a ob xs ea=>
  cases(show u=cZ a from rx)
  obtain⟨_,_,_,n,_,h1⟩:=(show Acs X.prog X.w H s.heap a (.frz ob (.lst xs)) from I.hok a _ ea)
  exact kG UP I.kIn ⟨_,h1,rfl⟩ e (fun z=>nomatch z) h
 | @tup a xs ea=>
  cases(show u=cZ a from rx)
  obtain⟨_,_,_,p⟩:=(show Acs X.prog X.w H s.heap a (.tup xs) from I.hok a _ ea)
  obtain⟨o,h1,h2,_⟩:=p.1
  exact kG PySem.W.kitx_tuple I.kIn ⟨o,h1,h2⟩ e (fun z=>nomatch z) h
 | @dK a ep kvs ea=>
  cases(show u=cZ a from rx)
  obtain⟨_,_,vs,_,p⟩:=(show Acs X.prog X.w H s.heap a (.dK ep kvs) from I.hok a _ ea)
  obtain⟨o,es,h1,h2,_⟩:=p
  exact kG UQ I.kIn ⟨o,h1,h2.1⟩ e (fun z=>nomatch z) h
 | @dT a ep kvs ea=>
  cases(show u=cZ a from rx)
  obtain⟨_,_,xs,_,o,es,h1,h2,_⟩:=(show Acs X.prog X.w H s.heap a (.dT ep kvs) from I.hok a _ ea)
  exact kG UQ I.kIn ⟨o,h1,h2.1⟩ e (fun z=>nomatch z) h
 | @ins a C dx fs ea cl ha hn htk hm=>
  cases(show u=cZ a from rx)
  obtain⟨mA,O,_⟩:=yR I.hok ea
  obtain⟨od,J,_⟩:=O.look
  exact kG (PySem.W.kitx_own (cl.get _) cl.hd ha hn htk hm) I.kIn J e (fun z=>nomatch z) h
end
structure Room (k:Nat)(A:bT):Prop where
 hd:A.handled=none
 dp:A.depth+3*k+5<recursionLimit
 un:A.units+16*k+200<cLine
theorem Room.mono {j k:Nat}{A:bT}(r:Room k A)(h:j≤k):Room j A:=⟨r.hd,by have:=r.dp; omega,by have:=r.un; omega⟩
theorem Room.deeper {k:Nat}{A:bT}(r:Room (k+1) A)(env:dN):Room k (A.deeper env):=
 ⟨r.hd,by have:=r.dp; show A.depth+1+3*k+5<_; omega,by have:=r.un; show A.units+3+16*k+200<_; omega⟩
theorem Dw {A:bT}{C:aB}{us:List aE}{kw:List (aD×aE)}:(A.under (.builtin "type.__call__" ⟨.ref C::us,kw⟩)).depth=A.depth+1:=by
 first | rfl | simp[Around.under,Code.weight,Code.isCreation,Code.isGuard,Code.isCaller,Code.frames,Code.isFrame,guardIds]
theorem Df {A:bT}{C:aB}{us:List aE}{kw:List (aD×aE)}:(A.under (.builtin "type.__call__" ⟨.ref C::us,kw⟩)).units=A.units+1:=by
 first | rfl | simp[Around.under,Code.cUnits,Code.frames,Code.isFrame]
theorem Room.make {k:Nat}{A:bT}(r:Room (k+1) A)(C:aB)(us:List aE)(kw:List (aD×aE)):Room k (A.under (.builtin "type.__call__" ⟨.ref C::us,kw⟩)):=
 ⟨r.hd,by have:=r.dp; rw[Dw]; omega,by have:=r.un; rw[Df]; omega⟩
theorem Room.depth {k:Nat}{A:bT}(r:Room k A):A.depth<recursionLimit:=by have:=r.dp; omega
theorem Room.units {k:Nat}{A:bT}(r:Room k A):A.units+64<cLine:=by have:=r.un; omega
noncomputable abbrev BJ:TA:=fun _ H Q=>Q [] H
noncomputable abbrev uO (ta:TE)(tr:TA):TA:=fun σ H Q=>ta σ H fun x H1=>tr σ H1 fun xs H2=>Q (x::xs) H2
section
variable {X:Cx}{e:aS}{es:List aS}{te:TE}{t:TA}{pos:bL}
theorem jE:PA X [] BJ:=fun _ _ _ _ H Q I h=>Calls.spliced_nil ⟨[],H,I,.nil,h⟩
theorem fJ (ha:PE X e te)(hr:PA X es t)(hs:bD (e::es) X.env=(false,bI e X.env)::bD es X.env:=by rfl):PA X (e::es) (uO te t):=by
 intro pos pins s σ H Q I h
 rw[hs]
 show aO _ _ (spliced ((false,bI e X.env)::eM pos (bD es X.env))) _ _ s
 refine Calls.spliced_cons (thn (ha pins s σ H _ I h) fun u s1 gh=>?_)
 obtain⟨x,H1,I1,r1,q1⟩:=gh
 exact thn (hr pos pins s1 σ H1 _ I1 q1) fun us s2 ⟨xs,H2,I2,r2,q2⟩=>⟨x::xs,H2,I2,.cons r1 r2,q2⟩
noncomputable def WL (t:TA):TE:=fun σ H Q=>t σ H fun xs H1=>xs.length≤sizeLine /\ ∀ p,H1 p=none->Q (.ref p) (upd H1 p (.tup xs))
noncomputable def VZ (t:TA):TE:=fun σ H Q=>t σ H fun xs H1=>xs.length≤sizeLine /\ ∀ p,H1 p=none->Q (.ref p) (upd H1 p (.lst xs))
theorem Ih {x1}(h:PA X es t):PE X (.Tuple es x1 pos) (WL t):=by
 intro pins s σ H Q I hq
 refine wpAny_Tuple_spliced (thn (h pos pins s σ H _ I hq) fun us s1 ⟨xs,H1,I1,r,z,q⟩=>⟨by rw[← r.length]; exact z,?_⟩)
 have hf:H1 s1.heap.objs.size=none:=I1.hok.fresh (bX _)
 refine⟨.ref s1.heap.objs.size,upd H1 s1.heap.objs.size (.tup xs),I1.laid (t':=s1.toks) (fun b u e=>cN _ e) (bX _) ?_,rfl,q _ hf⟩
 exact⟨z,us,r,⟨_,eY _ rfl,rfl,_,rfl⟩,_,eY _ rfl,rfl⟩
theorem ZF (h:PA X es t):PE X (.List es pos) (VZ t):=by
 intro pins s σ H Q I hq
 refine wpAny_List_spliced (thn (h pos pins s σ H _ I hq) fun us s1 ⟨xs,H1,I1,r,z,q⟩=>⟨by rw[← r.length]; exact z,?_⟩)
 have hf:H1 s1.heap.objs.size=none:=I1.hok.fresh (bX _)
 refine⟨.ref s1.heap.objs.size,upd H1 s1.heap.objs.size (.lst xs),I1.laid (t':=s1.toks) (fun b u e=>cN _ e) (bX _) ?_,rfl,q _ hf⟩
 exact⟨z,us,0,r,eY _ rfl⟩
end
abbrev Sp:=List V->Hp->VK->XK->Prop
abbrev CXT:=List dN->Hp->aG->XK->aE->aG->Prop
structure Env0 (P:bC)(w:aW)(K:aH)(mg:aD->Option aE)(base:aQ)(A:bT)(outer:List dN)(s:aG)(H:Hp):Prop where
 frames:A.frames=some outer
 mod:Mod K mg base
 bs : ∀ b o,base.get? b=some o->s.heap.get? b=some o/\H b=none
 bsz:base.objs.size≤s.heap.objs.size
 funs:s.heap.FunFrames base outer
 frf : ∀ b∈frs outer,H b=none
 hok:HOk P w H s.heap
 bare:nY s.gens
def CE (outer:List dN)(P:bC)(w:aW)(H:Hp)(s:aG)(Q:VK)(u:aE)(s':aG):Prop:=
 ∃ v H',s'.os=s.os/\nY s'.gens/\Un (frs outer) [] H H' s.heap s'.heap/\HOk P w H' s'.heap/\RelV v u/\Q v H'
def CR (CX:CXT)(outer:List dN)(P:bC)(w:aW)(H:Hp)(s:aG)(Q:VK)(E:XK)(r:nO)(s':aG):Prop:=
 match r with
 | .ok (.ret u)=>CE outer P w H s Q u s'
 | .ok _=>False
 | .error e=>CX outer H s E e s'
structure FnOk (P:bC)(w:aW)(K:aH)(mg:aD->Option aE)(base:aQ)(CX:CXT)(k:Nat)(f:aB)(fd:dS)(ps:List aD)(sp:Sp):Prop where
 len : ∀ vs H Q E,sp vs H Q E->vs.length=ps.length
 run : ∀ (A:bT) (outer:List dN) (s:aG) (H:Hp) (args:Args) (us:List aE) (vs:List V) (Q:VK) (E:XK),Room k A->Env0 P w K mg base A outer s H->rK s fd args (ps.zip us)->Vals vs us->sp vs H Q E ->
  iW (aP P w) A (.call (.ref f) args) (CR CX outer P w H s Q E) s
theorem FnOk.imp {P:bC}{w:aW}{K:aH}{mg:aD->Option aE}{base:aQ}{CX:CXT}{k:Nat}{f:aB}{fd:dS}{ps:List aD}{sp sp':Sp}(F:FnOk P w K mg base CX k f fd ps sp)
  (h : ∀ vs H Q E,sp' vs H Q E->sp vs H Q E):FnOk P w K mg base CX k f fd ps sp':=
 ⟨fun vs H Q E q=>F.len vs H Q E (h _ _ _ _ q),fun A outer s H args us vs Q E hr he hb hv hs=>F.run A outer s H args us vs Q E hr he hb hv (h _ _ _ _ hs)⟩
theorem Env0.make {P:bC}{w:aW}{K:aH}{mg:aD->Option aE}{base:aQ}{A:bT}{outer:List dN}{s:aG}{H:Hp}(e:Env0 P w K mg base A outer s H)(C:aB)(us:List aE)(kw:List (aD×aE)) :
  Env0 P w K mg base (A.under (.builtin "type.__call__" ⟨.ref C::us,kw⟩)) outer s H:=⟨by first | exact e.frames | (simpa [Around.under,Code.envs,Code.isFrame,pushEnvs] using e.frames),e.mod,e.bs,e.bsz,e.funs,e.frf,e.hok,e.bare⟩
section
variable {X:Cx}{pins:List (aB×aY)}{σ:St}{H:Hp}{s s':aG}
theorem Inv.env0 (I:Inv X pins σ H s):Env0 X.prog X.w X.K X.mg X.base X.A X.stack s H:=
 ⟨I.ok.frames,I.ok.mod,I.bs,jM I.ok.bsz I.sz,I.stack,I.stkFree,I.hok,I.bare⟩
theorem Inv.after {Q:VK}{u:aE}(I:Inv X pins σ H s)(h:CE X.stack X.prog X.w H s Q u s'):EP X pins σ Q u s':=by
 obtain⟨v,H',os,bare,un,hok,r,q⟩:=h
 obtain⟨hh,g,d,t,os'⟩:=s'
 obtain rfl:os'=s.os:=os
 exact⟨v,H',I.call (h':=hh) (g':=g) (d':=d) (t':=t) (ch:=[]) un hok bare (fun b z=>absurd z (by simp)),r,q⟩
end
noncomputable def HR (sp:Sp)(dvs:List V)(E:XK)(t:TA):TE:=fun σ H Q=>t σ H fun vs H1=>sp (vs++dvs) H1 Q E
noncomputable def JX (C:aB)(m:aD)(sp:Sp)(dvs:List V)(E:XK)(ta:TE)(t:TA):TE:=fun σ H Q=>ta σ H fun x H1=>∃ a dx fs,x = .ref a/\H1 a=some (.ins C dx fs)/\fs.lookup m=none /\
 t σ H1 fun vs H2=>sp (x::(vs++dvs)) H2 Q E
def Binds (K:aH)(fd:dS)(ps:List aD)(ds:List aE):Prop:=
 ∀ (s:aG) (us:List aE),K.In s.heap->(us++ds).length=ps.length->rK s fd ⟨us,[]⟩ (ps.zip (us++ds))
theorem Binds.all {K:aH}{fd:dS}{ps:List aD}(h : ∀ us:List aE,us.length=ps.length->tR fd ⟨us,[]⟩=pure (ps.zip us)):Binds K fd ps []:=fun s us _ hl=>by
 rw[rE] at hl ⊢
 exact .of_eq (h us hl)
def Passes (CX:CXT)(X:Cx)(E:XK):Prop:=∀ (pins:List (aB×aY)) (σ:St) (H:Hp) (s:aG) (e:aE) (s':aG),Inv X pins σ H s->CX X.stack H s E e s'->X.xe e s'
section
variable {X:Cx}{CX:CXT}{k:Nat}{f C:aB}{fd:dS}{ps:List aD}{sp:Sp}{dvs:List V}{ds:List aE}{E:XK}{x m:aD}{p pos apos:bL}{e o:aS}{es:List aS}{ta:TE}{t:TA}
theorem SZ {pins:List (aB×aY)}{σ:St}{H:Hp}{s:aG}{Q:VK}{us:List aE}{vs:List V}(F:FnOk X.prog X.w X.K X.mg X.base CX k f fd ps sp)(hr:Room k X.A)(hb:Binds X.K fd ps ds)(hd:Vals dvs ds)(hx:Passes CX X E)
  (I:Inv X pins σ H s) (r:Vals vs us) (h:sp (vs++dvs) H Q E):aO (aP X.prog X.w) X.A (call (.ref f) us) (EP X pins σ Q) X.xe s:=by
 have r2:Vals (vs++dvs) (us++ds):=r.append hd
 have hl:(us++ds).length=ps.length:=by rw[← r2.length]; exact F.len _ _ _ _ h
 refine wpAny_call (qX (F.run X.A X.stack s H ⟨us,[]⟩ (us++ds) (vs++dvs) Q E hr I.env0 (hb s us I.kIn hl) r2 h) fun r s' hq=>?_)
 cases r with
 | error e=>exact hx pins σ H s e s' I hq
 | ok fl=>
  cases fl with
  | ret u=>exact I.after hq
  | next=>exact jB hq
  | brk=>exact jB hq
  | cont=>exact jB hq
theorem KW (F:FnOk X.prog X.w X.K X.mg X.base CX k f fd ps sp)(hr:Room k X.A)(hg:Gl X x)(hm:X.mg x=some (.ref f))(hk:kX X.K (.ref f)=true)(hb:Binds X.K fd ps ds)(hd:Vals dvs ds)(hx:Passes CX X E)
  (ha:PA X (e::es) t) (hdb:(x == ("__debug__" : aD))=false:=by decide) (he:bD (e::es) X.env=(false,bI e X.env)::bD es X.env:=by rfl) (hpl:(eM pos (bD es X.env)).any (·.1)=false:=by rfl) :
  PE X (.Call (.Name x p) (e::es) [] pos) (HR sp dvs E t):=by
 intro pins s σ H Q I h
 refine IA (sG I hg hm ?_ hdb)
 refine IJ (h₀:=X.base) I.ok.mod.kin hk (thn (ha pos pins s σ H _ I h) fun us s1 ⟨vs,H1,I1,r,q⟩=>⟨I1.kIn,?_⟩) he hpl
 exact SZ F hr hb hd hx I1 r q
theorem DL {pl:Sem Bool}(he:PE X o ta)(c:Cls X.K C)(hm:Meth X.K C m f)(F:FnOk X.prog X.w X.K X.mg X.base CX k f fd ps sp)(hr:Room k X.A)(hb:Binds X.K fd ps ds)(hd:Vals dvs ds)(hx:Passes CX X E)(ha:PA X (e::es) t)
  (hst:bD (e::es) X.env=(false,bI e X.env)::bD es X.env:=by rfl) (hpl:(eM pos (bD es X.env)).any (·.1)=false:=by rfl)
  (ht:bI (.Call (.Attribute o m apos) (e::es) [] pos) X.env=(do
   let ov ← bI o X.env
   nM apos.atName
   let (f,first) ← kB [ov] (wZ ov m pl)
   callWith pos f first (eM pos (bD (e::es) X.env)) (tT pos (tP [] X.env))):=by rfl) :
  PE X (.Call (.Attribute o m apos) (e::es) [] pos) (JX C m sp dvs E ta t):=by
 intro pins s σ H Q I h
 refine UN (pl:=pl) (thn (he pins s σ H _ I h) fun u s1 ⟨x,H1,I1,rx,a,dx,fs,ex,ea,l,q⟩=>?_) ht
 subst ex
 obtain rfl:u=cZ a:=rx
 refine FU I1 ea c hm l ?_
 refine IJ (first:=[.ref a]) (h₀:=X.base) I.ok.mod.kin hm.kp (thn (ha pos pins s1 σ H1 _ I1 q) fun us s2 ⟨vs,H2,I2,r,q2⟩=>⟨I2.kIn,?_⟩) hst hpl
 exact SZ (us:=.ref a::us) (vs:=.ref a::vs) F hr hb hd hx I2 (.cons rfl r) q2
structure Mk (K:aH)(C f:aB):Prop where
 makes:UO K C=true
 init:kH K (.ref C) "__init__" = some (some (.ref f))
 fn:IG K (.ref f)=true
 kp:kX K (.ref C)=true
end
structure FnScope (N P:List aD)(sc:gM):Prop where
 kind:sc.kind = .function
 co:sc.isCoroutine=false
 gen:sc.isGenerator=false
 nd:N.Nodup
 pre:N.take P.length=P
 par : ∀ x∈P,sc.names.lookup x=some .local \/ sc.names.lookup x=some .cell
 nofree : ∀ y∈sc.names,y.2 ≠ .free
theorem OS {kindOf:aD->Option lA}{x:aD} : ∀ {binds:List (aD×aE)} {m:aD->Option aE},(∀ v,(x,v)∉binds)->bindL kindOf binds m x=m x
 | [],_,_=>rfl
 | (n,v)::r,m,h=>by
  unfold bindL
  rw[OS fun w hw=>h w (cA _ hw)]
  split
  ·have:x≠n:=by rintro rfl; exact h v bY
   simp[this]
  ·rfl
theorem PZ {kindOf:aD->Option lA}{x:aD} : ∀ {binds:List (aD×aE)} {m:aD->Option aE},(∀ v,(x,v)∉binds)->bindC kindOf binds m x=m x
 | [],_,_=>rfl
 | (n,v)::r,m,h=>by
  unfold bindC
  rw[PZ fun w hw=>h w (cA _ hw)]
  split
  ·rfl
  ·have:x≠n:=by rintro rfl; exact h v bY
   simp[this]
theorem QB {kindOf:aD->Option lA}{x:aD}{v:aE} : ∀ {P:List aD} {vs:List aE} {i:Nat} {m:aD->Option aE},P.Nodup->P[i]?=some x->vs[i]?=some v->kindOf x=some .local ->
  bindL kindOf (P.zip vs) m x=some v
 | [],_,_,_,_,h,_,_=>by simp at h
 | _::_,[],_,_,_,_,h,_=>by simp at h
 | p::P,w::vs,0,m,nd,h1,h2,hk=>by
  simp at h1 h2; subst h1; subst h2
  show bindL kindOf ((p,w)::P.zip vs) m p=_
  unfold bindL
  rw[OS fun v hv=>(fS.mp nd).1 (VF hv).1,if_pos hk]
  simp
 | p::P,w::vs,i+1,m,nd,h1,h2,hk=>by
  show bindL kindOf ((p,w)::P.zip vs) m x=_
  unfold bindL
  exact QB (i:=i) (fS.mp nd).2 (by simpa using h1) (by simpa using h2) hk
theorem OJ {kindOf:aD->Option lA}{x:aD}{v:aE} : ∀ {P:List aD} {vs:List aE} {i:Nat} {m:aD->Option aE},P.Nodup->P[i]?=some x->vs[i]?=some v->kindOf x≠some .local ->
  bindC kindOf (P.zip vs) m x=some v
 | [],_,_,_,_,h,_,_=>by simp at h
 | _::_,[],_,_,_,_,h,_=>by simp at h
 | p::P,w::vs,0,m,nd,h1,h2,hk=>by
  simp at h1 h2; subst h1; subst h2
  show bindC kindOf ((p,w)::P.zip vs) m p=_
  unfold bindC
  rw[PZ fun v hv=>(fS.mp nd).1 (VF hv).1,if_neg hk]
  simp
 | p::P,w::vs,i+1,m,nd,h1,h2,hk=>by
  show bindC kindOf ((p,w)::P.zip vs) m x=_
  unfold bindC
  exact OJ (i:=i) (fS.mp nd).2 (by simpa using h1) (by simpa using h2) hk
noncomputable def start (N:List aD)(vs:List V):St:=vs.map some++lB (N.length - vs.length) none
noncomputable def iJ (CX:CXT)(P:bC)(w:aW)(K:aH)(mg:aD->Option aE)(base:aQ)(N:List aD)(qual:aD)(scope:gM)(f:aB)(cd:aE)(A:bT)(outer:List dN)(s:aG)(H:Hp)(E:XK):Cx where
 prog:=P
 w:=w
 K:=K
 mg:=mg
 base:=base
 A:=A.deeper (gX qual scope s.heap.objs.size f cd)
 N:=N
 s₀:=s
 H₀:=H
 env:=gX qual scope s.heap.objs.size f cd
 outer:=outer
 stack:=gX qual scope s.heap.objs.size f cd::outer
 ex:=[]
 calm:=true
 fn:=fun _=>true
 pn:=[]
 xe:=fun e s'=>aO (aP P w) (A.deeper (gX qual scope s.heap.objs.size f cd)) (leaving (gX qual scope s.heap.objs.size f cd) e) (fun _ s''=>CX outer H s E e s'') (fun e' s''=>CX outer H s E e' s'') s'
theorem OB {sc:gM}{n:Nat}{x:aD}(h:sc.names.lookup x=some .cell) : ∃ c,(cellsFrom n sc.names []).lookup x=some c:=by
 have q:=PySem.W.cellsFrom_some sc.names n [] (.inl h)
 exact xH.mp q
theorem Bl {CX:CXT}{P:bC}{w:aW}{K:aH}{mg:aD->Option aE}{base:aQ}{N ps:List aD}{qual:aD}{scope:gM}{f:aB}{cd:aE}{A:bT}{outer:List dN}{s s1:aG}{H:Hp}{E:XK}{us:List aE}{vs:List V}
  (S:FnScope N ps scope) (hd:A.handled=none) (e0:Env0 P w K mg base A outer s H) (hl:vs.length=ps.length) (r:Vals vs us)
  (x:InCallC s s.heap.objs.size (bindL (gX qual scope s.heap.objs.size f cd).kindOf (ps.zip us) fun _=>none) (cellsFrom (s.heap.objs.size+1) scope.names []) (bindC (gX qual scope s.heap.objs.size f cd).kindOf (ps.zip us) fun _=>none) s1) :
  Inv (iJ CX P w K mg base N qual scope f cd A outer s H E) [] (start N vs) H s1:=by
 have hpl:ps.length≤N.length:=by have:=congrArg xK S.pre; rw[pH] at this; omega
 obtain⟨h1,tk,rfl,hk⟩:=x.done
 have noA : ∀ b:aB,b∉(iJ CX P w K mg base N qual scope f cd A outer s H E).ex:=fun b z=>absurd (show b∈([]:List aB) from z) (by simp)
 refine⟨⟨e0.mod,S.kind,rfl,rfl,bX _,fun y z c h1 h2=>?_,fun y hy=>?_,fun y c _ h=>?_,fun _=>hd,Around.frames_deeper e0.frames,.inr ⟨rfl,rfl⟩,fun b z=>absurd z (noA b),e0.bs,e0.bsz,fun b _ _=>noA b,fun b z=>absurd z (noA b),e0.funs,e0.frf⟩,
  rfl,e0.bare,Un.kept hk,⟨_,x.toInCall.ns,fun i y v h1 h2 h3=>?_⟩,fun y c h=>⟨_,x.cell y c h⟩,e0.hok.fresh (bX _),fun y c h=>?_,fun p hp=>absurd (show p∈([]:List (aB×aY)) from hp) (by simp),e0.hok.kept hk,?_⟩
 ·exact name_of_addr x.apart (AR h1) (AR h2)
 ·have hy:scope.names.lookup y=some .cell \/ scope.names.lookup y=some .free:=hy
  rcases hy with hy | hy
  ·exact OB hy
  ·exact absurd rfl (S.nofree _ (AR hy))
 ·exact IR (x.above y c (AR h))
 ·have hi:i<vs.length:=by
   unfold start at h2
   by_cases hi:i<vs.length
   ·exact hi
   ·rw[VN (by simpa using hi)] at h2
    rw[List.getElem?_replicate] at h2
    split at h2 <;> cases h2
  have ha:vs[i]?=some v:=by
   unfold start at h2
   rw[AY (by simpa using hi),gZ] at h2
   cases e:vs[i]? with
   | none=>rw[e] at h2; cases h2
   | some a=>rw[e] at h2; cases h2; rfl
  obtain⟨u,hu,rv⟩:=r.get ha
  have hp:ps[i]?=some y:=by
   rw[← S.pre,List.getElem?_take_of_lt (by omega)]; exact h1
  have ndP:ps.Nodup:=by rw[← S.pre]; exact S.nd.sublist (List.take_sublist _ _)
  refine⟨u,rv,?_⟩
  rcases S.par y (rD hp) with k | k
  ·exact .inl ⟨k,QB ndP hp hu k⟩
  ·obtain⟨c,e⟩:=OB (n:=s.heap.objs.size+1) k
   refine .inr ⟨.inl k,c,e,?_⟩
   have q:=x.cell y c e
   rw[OJ ndP hp hu (by show scope.names.lookup y≠_; rw[k]; decide)] at q
   exact q
 ·exact e0.hok.fresh (IR (x.above y c (AR h)))
 ·unfold start
  show _=N.length
  rw[uA,cP,List.length_replicate]
  omega
theorem KA {CX:CXT}{P:bC}{w:aW}{K:aH}{mg:aD->Option aE}{base:aQ}{k:Nat}{f:aB}{name qual:aD}{params:Arguments}{body:List bG}{scope:gM}{dV kV doc pm cdv ct oc:aE}{an od:Option aB}
  {osl:Array (Option aE)} {N ps:List aD} {sp:Sp} (lk:K.lookup f=some ⟨oc,od,.func (iY name qual params body scope dV kV doc pm an cdv ct),osl⟩) (hcd:tW K cdv qual=true) (S:FnScope N ps scope)
  (len : ∀ vs H Q E,sp vs H Q E->vs.length=ps.length)
  (hbody : ∀ (A:bT) (outer:List dN) (s:aG) (H:Hp) (vs:List V) (Q:VK) (E:XK),Room k (A.deeper (gX qual scope s.heap.objs.size f cdv))->sp vs H Q E ->
   ∃ t,PSs (iJ CX P w K mg base N qual scope f cdv A outer s H E) body t/\t { nx:=fun _ H'=>Q .non H',rt:=Q } (start N vs) H) :
  FnOk P w K mg base CX (k+1) f (iY name qual params body scope dV kV doc pm an cdv ct) ps sp:=by
 refine⟨len,fun A outer s H args us vs Q E hr e0 hb r hsp=>?_⟩
 have hl:=len _ _ _ _ hsp
 have KX:K.In s.heap:=e0.mod.kin.keeps fun b o e=>(e0.bs b o e).1
 have lim:s.heap.NoLimit:=e0.mod.nolimit.keeps fun b o e=>(e0.bs b o e).1
 have hkind : ∀ y∈ps.zip us,scope.names.lookup y.1=some .local \/ (scope.names.lookup y.1=some .cell/\((cellsFrom (s.heap.objs.size+1) scope.names []).lookup y.1).isSome=true):=fun⟨n,v⟩ hy=>by
  rcases S.par n (VF hy).1 with q | q
  ·exact .inl q
  ·exact .inr ⟨q,PySem.W.cellsFrom_some _ _ _ (.inl q)⟩
 refine codeAny_call_function hr.depth (KX _ _ lk) rfl S.co S.gen rfl (PySem.W.codeRec_of KX hcd) (hb _ _ _ _ ?_)
 refine wpAny_newFunctionEnv_cells S.kind hkind fun env he s1 x=>?_
 subst he
 refine⟨lim.keeps x.toInCall.keep,codeAny_func ?_⟩
 obtain⟨t,ht,hq⟩:=hbody A outer s H vs Q E (hr.deeper _) hsp
 have I:Inv (iJ CX P w K mg base N qual scope f cdv A outer s H E) [] (start N vs) H s1:=Bl S hr.hd e0 hl r x
 refine iV (ht [] s1 (start N vs) H _ I hq) (fun fl s' hs=>?_) fun e s' hs=>hs
 have fin : ∀ {σ':St} {H':Hp} {v:V} {u:aE},Inv (iJ CX P w K mg base N qual scope f cdv A outer s H E) [] σ' H' s'->RelV v u->Q v H'->CE outer P w H s Q u s':=
  fun {σ' H' v u} J rv q=>⟨v,H',J.os,J.bare,J.base,J.hok,rv,q⟩
 cases fl with
 | ret u=>
  obtain⟨v,σ',H',J,rv,q⟩:=hs
  exact fin J rv q
 | next=>
  obtain⟨σ',H',J,q⟩:=hs
  exact fin (v:=V.non) (u:=fX) J rfl q
 | brk=>
  obtain⟨_,_,_,q⟩:=hs
  exact jB q
 | cont=>
  obtain⟨_,_,_,q⟩:=hs
  exact jB q
section
variable {X:Cx}{x:aD}{p pos:bL}{e:aS}{es:List aS}{t:TA}{id T:String}{r:List V->Hp->VK->Prop}
noncomputable def tCB (r:List V->Hp->VK->Prop)(t:TA):TE:=fun σ H Q=>t σ H fun vs H1=>r vs H1 Q
theorem vP (hc:Ac8 X (.builtin id) r)(hg:Gl X x)(hm:X.mg x=none)(hv:iX x=some (.builtin id))(ha:PA X (e::es) t)(hn:x ≠ "__name__":=by decide)(hdb:(x == ("__debug__" : aD))=false:=by decide)
  (he:bD (e::es) X.env=(false,bI e X.env)::bD es X.env:=by rfl) (hpl:(eM pos (bD es X.env)).any (·.1)=false:=by rfl):PE X (.Call (.Name x p) (e::es) [] pos) (tCB r t):=by
 intro pins s σ H Q I h
 refine IA (yG I hg hm hv ?_ hn hdb)
 exact PyProof.Rows.callWith_builtin1 (thn (ha pos pins s σ H _ I h) fun us s1 ⟨vs,H1,I1,r1,q1⟩=>hc pins s1 σ H1 vs us Q I1 r1 q1) he hpl
theorem PM (hc:Ac8 X (.type T) r)(hg:Gl X x)(hm:X.mg x=none)(hv:iX x=some (.type T))(ha:PA X (e::es) t)(hn:x ≠ "__name__":=by decide)(hdb:(x == ("__debug__" : aD))=false:=by decide)
  (he:bD (e::es) X.env=(false,bI e X.env)::bD es X.env:=by rfl) (hpl:(eM pos (bD es X.env)).any (·.1)=false:=by rfl):PE X (.Call (.Name x p) (e::es) [] pos) (tCB r t):=by
 intro pins s σ H Q I h
 refine IA (yG I hg hm hv ?_ hn hdb)
 exact Pg (thn (ha pos pins s σ H _ I h) fun us s1 ⟨vs,H1,I1,r1,q1⟩=>hc pins s1 σ H1 vs us Q I1 r1 q1) he hpl
end
section
variable {κ:Type}[DecidableEq κ]
noncomputable def dC (kvs:List (κ×V))(k:κ):Option V:=(kvs.find? fun kv=>decide (kv.1=k)).map (·.2)
noncomputable def putK (kvs:List (κ×V))(k:κ)(v:V):List (κ×V):=
 if (kvs.any fun kv=>decide (kv.1=k))=true then kvs.map (fun kv=>if kv.1=k then(kv.1,v) else kv) else kvs++[(k,v)]
theorem vI {p:κ×V}{r:List (κ×V)}{k:κ}(e:p.1=k):dC (p::r) k=some p.2:=by simp[dC,gD,e]
theorem vO {p:κ×V}{r:List (κ×V)}{k:κ}(e : ¬ p.1=k):dC (p::r) k=dC r k:=by simp[dC,gD,e]
theorem EN (k:κ) : ∀ kvs:List (κ×V),(kvs.any fun kv=>decide (kv.1=k))=(dC kvs k).isSome
 | []=>rfl
 | p::r=>by
  rw[BB]
  by_cases e:p.1=k
  ·simp only[vI e,decide_eq_true e,Bool.true_or,Option.isSome_some]
  ·rw[vO e,decide_eq_false e,Bool.false_or]; exact EN k r
theorem GK (kvs:List (κ×V))(k:κ)(v:V):(putK kvs k v).length≤kvs.length+1:=by
 unfold putK
 split
 ·rw[cP]; omega
 ·rw[uA,eE,List.length_nil]; omega
theorem FC {kvs:List (κ×V)}{k:κ}(v:V)(h:dC kvs k=none):putK kvs k v=kvs++[(k,v)]:=by
 unfold putK
 rw[EN,h]
 exact if_neg (by decide)
theorem An8.isSome_eq {o:Option V}{u:Option aE}(r:An8 o u):o.isSome=u.isSome:=by
 cases o with
 | none=>cases u with
  | none=>rfl
  | some _=>exact(show False from r).elim
 | some _=>cases u with
  | none=>exact(show False from r).elim
  | some _=>rfl
theorem An8.getD {o:Option V}{u:Option aE}{d:V}{d':aE}(r:An8 o u)(rd:RelV d d'):RelV (o.getD d) (u.getD d'):=by
 cases o with
 | none=>cases u with
  | none=>exact rd
  | some _=>exact(show False from r).elim
 | some _=>cases u with
  | none=>exact(show False from r).elim
  | some _=>exact r
theorem KV.val {kvs:List (κ×V)}{vs:List (κ×aE)}(r:KV kvs vs)(k:κ):An8 (dC kvs k) (tK vs k):=by
 unfold KV at r
 induction r with
 | nil=>exact gL
 | @cons p q ps qs h t ih=>
  obtain⟨h1,h2⟩:=h
  by_cases e:p.1=k
  ·have e':q.1=k:=h1.symm.trans e
   have b:tK (q::qs) k=some q.2:=by simp[tK,gD,e']
   rw[vI e,b]; exact h2
  ·have e' : ¬ q.1=k:=fun z=>e (h1.trans z)
   have b:tK (q::qs) k=tK qs k:=by simp[tK,gD,e']
   rw[vO e,b]; exact ih
theorem KV.any {kvs:List (κ×V)}{vs:List (κ×aE)}(r:KV kvs vs)(k:κ):(kvs.any fun kv=>decide (kv.1=k))=vs.any fun kv=>decide (kv.1=k):=by
 unfold KV at r
 induction r with
 | nil=>rfl
 | cons h t ih=>rw[BB,BB,ih,h.1]
theorem KV.repl {kvs:List (κ×V)}{vs:List (κ×aE)}(r:KV kvs vs)(k:κ){y:V}{u:aE}(ry:RelV y u) :
  KV (kvs.map fun kv=>if kv.1=k then(kv.1,y) else kv) (vs.map fun kv=>if kv.1=k then(kv.1,u) else kv):=by
 unfold KV at r ⊢
 induction r with
 | nil=>exact .nil
 | @cons p q ps qs h t ih=>
  rw[dJ,dJ]
  refine .cons ?_ ih
  obtain⟨h1,h2⟩:=h
  by_cases e:p.1=k
  ·rw[if_pos e,if_pos (h1.symm.trans e)]; exact⟨h1,ry⟩
  ·rw[if_neg e,if_neg (fun z=>e (h1.trans z))]; exact⟨h1,h2⟩
theorem KV.put {kvs:List (κ×V)}{vs:List (κ×aE)}(r:KV kvs vs)(k:κ){y:V}{u:aE}(ry:RelV y u):KV (putK kvs k y) (qU vs k u):=by
 unfold putK qU
 rw[r.any k]
 by_cases e:(vs.any fun kv=>decide (kv.1=k))=true
 ·rw[if_pos e,if_pos e]; exact r.repl k ry
 ·rw[if_neg e,if_neg e]; exact Paired.snoc r ⟨rfl,ry⟩
theorem KV.length {kvs:List (κ×V)}{vs:List (κ×aE)}(r:KV kvs vs):kvs.length=vs.length:=nT r
end
theorem rP {P:bC}{w:aW}{k:aN}{u:aE}(r:RelV (kV k) u):(eA P w).is k u=true:=by
 cases k with
 | inl i=>obtain⟨t,e⟩:=(show ∃ t,u=AO i t from r); subst e; exact GS P w i t
 | inr x=>obtain⟨t,e⟩:=(show ∃ t,u=AN x t from r); subst e; exact GQ P w x t
abbrev KT (H:Hp):List (List aA×V)->List (List aA×aB×aE)->Prop:=dI fun p q=>p.1=q.1/\Ajf H p.1 q.2.1/\RelV p.2 q.2.2
theorem KT.val {H:Hp}{kvs:List (List aA×V)}{xs:List (List aA×aB×aE)}(r:KT H kvs xs)(k:List aA):An8 (dC kvs k) ((mI xs k).map (·.2)):=by
 induction r with
 | nil=>exact gL
 | @cons p q ps qs h t ih=>
  obtain⟨h1,_,h2⟩:=h
  by_cases e:p.1=k
  ·have e':q.1=k:=h1.symm.trans e
   have b:mI (q::qs) k=some q.2:=by simp[mI,gD,e']
   rw[vI e,b]; exact h2
  ·have e' : ¬ q.1=k:=fun z=>e (h1.trans z)
   have b:mI (q::qs) k=mI qs k:=by simp[mI,gD,e']
   rw[vO e,b]; exact ih
theorem KT.repl {H:Hp}{kvs:List (List aA×V)}{xs:List (List aA×aB×aE)}(r:KT H kvs xs)(k:List aA){y:V}{u:aE}(ry:RelV y u) :
  KT H (kvs.map fun kv=>if kv.1=k then(kv.1,y) else kv) (xs.map (putAt k u)):=by
 induction r with
 | nil=>exact .nil
 | @cons p q ps qs h t ih=>
  rw[dJ,dJ]
  refine .cons ?_ ih
  obtain⟨h1,h2,h3⟩:=h
  unfold putAt
  by_cases e:p.1=k
  ·rw[if_pos e,if_pos (h1.symm.trans e)]; exact⟨h1,h2,ry⟩
  ·rw[if_neg e,if_neg (fun z=>e (h1.trans z))]; exact⟨h1,h2,h3⟩
theorem KT.put {H:Hp}{kvs:List (List aA×V)}{xs:List (List aA×aB×aE)}(r:KT H kvs xs)(k:List aA){b:aB}{y:V}{u:aE}(hb:Ajf H k b)(ry:RelV y u) :
  KT H (putK kvs k y) (storedH xs k b u):=by
 have e:(kvs.any fun kv=>decide (kv.1=k))=(mI xs k).isSome:=by
  rw[EN,(r.val k).isSome_eq,VB]
 unfold putK storedH
 rw[e]
 by_cases q:(mI xs k).isSome=true
 ·rw[if_pos q,if_pos q]; exact r.repl k ry
 ·rw[if_neg q,if_neg q]; exact Paired.snoc r ⟨rfl,hb,ry⟩
theorem KT.keeps {H H':Hp}{kvs:List (List aA×V)}{xs:List (List aA×aB×aE)}(r:KT H kvs xs)(ht : ∀ b ys,H b=some (.tup ys)->H' b=some (.tup ys)):KT H' kvs xs:=
 Paired.mapP r fun _ _ z=>⟨z.1,z.2.1.keep ht,z.2.2⟩
section
variable {P:bC}{w:aW}{H:Hp}{h:aQ}{a:aB}
theorem KC {u:HO}(ok:HOk P w H h)(e:Rd H a u):Acs P w H h a u:=e.ok ok
theorem pT {ep:Nat}{kvs:List (aN×V)}(ok:HOk P w H h)(e:Rd H a (.dK ep kvs)):kvs.length≤sizeLine/\(a == gW)=false /\ ∃ vs,KV kvs vs/\h.DictAt (eA P w) a vs ep:=
 show Acs P w H h a (.dK ep kvs) from KC ok e
theorem rL {ep:Nat}{kvs:List (aN×V)}(ok:HOk P w H h)(e:Rd H a (.dK ep kvs)):kvs.length≤sizeLine/\(a == gW)=false /\ ∃ vs,KV kvs vs/\h.DictOf (eA P w) a vs:=
 let ⟨z,y,vs,r,d⟩:=pT ok e; ⟨z,y,vs,r,d.dictOf⟩
theorem HH {ep:Nat}{kvs:List (aN×V)}(ok:HOk P w H h)(e:H a=some (.dK ep kvs)):kvs.length≤sizeLine/\(a == gW)=false /\ ∃ vs,KV kvs vs/\h.DictOf (eA P w) a vs:=rL ok (.inl e)
theorem wJ {P:bC}{w:aW}{A:bT}(hu:A.units+40<cLine):(mC P w).room A.in1:=by
 show A.in1.units+20<cLine
 have:A.in1.units=A.units+1:=rfl
 omega
mutual
theorem OU (ok:HOk P w H h) : ∀ (d:aA) {v:V} {u:aE},Ahd H d v->RelV v u -> ∃ as,nQ h u d as
 | .int i,v,u,k,r=>by
  have e:v = .int i:=by simpa [Ahd] using k
  subst e
  obtain⟨t,rfl⟩:=r
  exact⟨_,.int i t⟩
 | .str x,v,u,k,r=>by
  have e:v = .str x:=by simpa [Ahd] using k
  subst e
  obtain⟨t,rfl⟩:=r
  exact⟨_,.str x t⟩
 | .tuple ds,v,u,k,r=>by
  simp only[Ahd] at k
  obtain⟨a,xs,rfl,e,ks⟩:=k
  cases r
  obtain⟨_,its,rv,⟨o,h1,h2,n,h3⟩,_⟩:=(show Acs P w H h a (.tup xs) from ok a _ e)
  obtain⟨as,ra⟩:=PQ ok ds ks rv
  exact⟨as,.tuple h1 h2 h3 (by simpa using ra)⟩
 | .none,v,u,k,r=>by simp[Ahd] at k
 | .bool _,v,u,k,r=>by simp[Ahd] at k
 | .list _,v,u,k,r=>by simp[Ahd] at k
 | .dict _,v,u,k,r=>by simp[Ahd] at k
theorem PQ (ok:HOk P w H h) : ∀ (ds:List aA) {vs:List V} {us:List aE},Aeo H ds vs->Vals vs us -> ∃ as,nP h us ds as
 | [],vs,us,k,r=>by
  have e:vs=[]:=by simpa [Aeo] using k
  subst e
  cases r
  exact⟨_,.nil⟩
 | d::ds,vs,us,k,r=>by
  simp only[Aeo] at k
  obtain⟨x,rr,rfl,k1,k2⟩:=k
  cases r with
  | cons r1 r2=>
   obtain⟨as,ra⟩:=OU ok d k1 r1
   obtain⟨bs,rb⟩:=PQ ok ds k2 r2
   exact⟨_,.cons ra rb⟩
end
theorem pX {ks:List aA}(ok:HOk P w H h)(e:Ajf H ks a):(mC P w).is h ks a:=by
 obtain⟨k1,k2,xs,e,ks'⟩:=e
 refine⟨k1,k2,?_⟩
 exact OU ok (.tuple ks) (v:=.ref a) (u:=.ref a) (by simp only[Ahd]; exact⟨a,xs,rfl,e,ks'⟩) rfl
theorem uL {kvs:List (List aA×V)}(ok:HOk P w H h)(e : ∃ ep,Rd H a (.dT ep kvs)):kvs.length≤sizeLine/\(a == gW)=false /\
  ∃ xs,KT H kvs xs/\h.DictOfH (mC P w) a xs:=by
 obtain⟨ep,e⟩:=e
 obtain⟨z,y,xs,r,o,es,h1,h2,h3,h4,h5⟩:=(show Acs P w H h a (.dT ep kvs) from KC ok e)
 refine⟨z,y,xs,r,o,es,ep,h1,h2,h3,h4,fun x hx=>?_,h5⟩
 have all : ∀ {l:List (List aA×V)} {m:List (List aA×aB×aE)},KT H l m -> ∀ x∈m,(mC P w).is h x.1 x.2.1:=by
  intro l m q
  induction q with
  | nil=>intro x hx; exact nomatch hx
  | @cons p q ps qs hq t ih=>
   intro x hx
   rcases cJ.mp hx with e | hx
   ·subst e
    exact pX ok (by rw[← hq.1]; exact hq.2.1)
   ·exact ih x hx
 exact all r x hx
theorem HE {ep:Nat}{kvs:List (List aA×V)}(ok:HOk P w H h)(e:H a=some (.dT ep kvs)):kvs.length≤sizeLine/\(a == gW)=false /\
  ∃ xs,KT H kvs xs/\h.DictOfH (mC P w) a xs:=uL ok ⟨ep,.inl e⟩
end
def Avl (H:Hp)(a:aB)(y:V)(r:Option V):Prop:=
 (∃ ep kvs k,Rd H a (.dK ep kvs)/\y=kV k/\r=dC kvs k) \/ ∃ kvs k b,(∃ ep,Rd H a (.dT ep kvs))/\y = .ref b/\Ajf H k b/\r=dC kvs k
def Az4 (H:Hp)(a:aB)(y v:V)(H':Nat->Hp):Prop:=
 (∃ ep kvs k,H a=some (.dK ep kvs)/\y=kV k/\kvs.length<sizeLine/\H'=fun n=>upd H a (.dK n (putK kvs k v))) \/
 ∃ kvs k b,(∃ ep,H a=some (.dT ep kvs))/\y = .ref b/\Ajf H k b/\kvs.length<sizeLine/\H'=fun n=>upd H a (.dT n (putK kvs k v))
theorem Avl.k {H:Hp}{a:aB}{ep:Nat}{kvs:List (aN×V)}{k:aN}(e:H a=some (.dK ep kvs)):Avl H a (kV k) (dC kvs k):=.inl ⟨ep,kvs,k,.inl e,rfl,rfl⟩
theorem Avl.t {H:Hp}{a b:aB}{ep:Nat}{kvs:List (List aA×V)}{k:List aA}(e:H a=some (.dT ep kvs))(eb:Ajf H k b):Avl H a (.ref b) (dC kvs k):=.inr ⟨kvs,k,b,⟨ep,.inl e⟩,rfl,eb,rfl⟩
theorem Az4.k {H:Hp}{a:aB}{ep:Nat}{kvs:List (aN×V)}{k:aN}{v:V}(e:H a=some (.dK ep kvs))(hl:kvs.length<sizeLine):Az4 H a (kV k) v (fun n=>upd H a (.dK n (putK kvs k v))):=.inl ⟨ep,kvs,k,e,rfl,hl,rfl⟩
theorem Az4.t {H:Hp}{a b:aB}{ep:Nat}{kvs:List (List aA×V)}{k:List aA}{v:V}(e:H a=some (.dT ep kvs))(eb:Ajf H k b)(hl:kvs.length<sizeLine) :
  Az4 H a (.ref b) v (fun n=>upd H a (.dT n (putK kvs k v))):=.inr ⟨kvs,k,b,⟨ep,e⟩,rfl,eb,hl,rfl⟩
section
variable {X:Cx}{pins:List (aB×aY)}{σ:St}{H:Hp}{s:aG}{a:aB}{y v:V}{u r:aE}{o:Option V}{A:bT}{E:aE->aG->Prop}
theorem Inv.big (I:Inv X pins σ H s):gW<s.heap.objs.size:=by
 have h:bU<s.heap.objs.size:=(I.mod.glob.keeps I.bk).lt
 exact IP (by decide) h
theorem Dc {Q:aE->aG->Prop}(hu:A.units+40<cLine)(I:Inv X pins σ H s)(g:Avl H a y (some v))(ry:RelV y u)(h : ∀ w' s',Inv X pins σ H s'->RelV v w'->Q w' s') :
  aO (aP X.prog X.w) A (nN (.ref a) u) Q E s:=by
 rcases g with⟨ep,kvs,k,e,ey,l⟩ | ⟨kvs,k,b,e,ey,eb,l⟩
 ·subst ey
  obtain⟨z,hd,vs,rel,dd⟩:=rL I.hok e
  obtain⟨w',hw,rw'⟩:=An8.some_of (v:=v) (o:=tK vs k) (by rw[l]; exact rel.val k)
  exact wpAny_getItem_of (rP ry) dd.mapOf hw (h w' _ (I.tok _) rw')
 ·subst ey
  cases(show u=cZ b from ry)
  obtain⟨z,hd,xs,rel,dd⟩:=uL I.hok e
  obtain⟨w',hw,rw'⟩:=An8.some_of (v:=v) (o:=(mI xs k).map (·.2)) (by rw[l]; exact rel.val k)
  obtain⟨p,hp,hp2⟩:=tX.mp hw
  refine wpAny_getItem_heap (wJ hu) (pX I.hok eb) dd hp ?_
  rw[hp2]
  exact h w' _ (I.tok _) rw'
theorem WZ {Q:aE->aG->Prop}(hu:A.units+40<cLine)(I:Inv X pins σ H s)(g:Avl H a y o)(ry:RelV y u)(h : ∀ s',Inv X pins σ H s'->Q (.bool o.isSome) s') :
  aO (aP X.prog X.w) A (dR .In u (.ref a)) Q E s:=by
 rcases g with⟨ep,kvs,k,e,ey,l⟩ | ⟨kvs,k,b,e,ey,eb,l⟩
 ·subst ey
  obtain⟨z,hd,vs,rel,dd⟩:=rL I.hok e
  refine wpAny_in_of (rP ry) hd dd.mapOf ?_
  rw[← (rel.val k).isSome_eq,← l]
  exact h _ (I.tok _)
 ·subst ey
  cases(show u=cZ b from ry)
  obtain⟨z,hd,xs,rel,dd⟩:=uL I.hok e
  refine wpAny_in_heap (wJ hu) (pX I.hok eb) hd dd ?_
  have q:=(rel.val k).isSome_eq
  rw[VB] at q
  rw[← q,← l]
  exact h _ (I.tok _)
theorem Kc {Q:aE->aG->Prop}(hu:A.units+40<cLine)(I:Inv X pins σ H s)(g:Avl H a y o)(ry:RelV y u)(h : ∀ s',Inv X pins σ H s'->Q (.bool (!o.isSome)) s') :
  aO (aP X.prog X.w) A (dR .NotIn u (.ref a)) Q E s:=by
 rcases g with⟨ep,kvs,k,e,ey,l⟩ | ⟨kvs,k,b,e,ey,eb,l⟩
 ·subst ey
  obtain⟨z,hd,vs,rel,dd⟩:=rL I.hok e
  refine wpAny_notIn_of (rP ry) hd dd.mapOf ?_
  rw[← (rel.val k).isSome_eq,← l]
  exact h _ (I.tok _)
 ·subst ey
  cases(show u=cZ b from ry)
  obtain⟨z,hd,xs,rel,dd⟩:=uL I.hok e
  refine wpAny_notIn_heap (wJ hu) (pX I.hok eb) hd dd ?_
  have q:=(rel.val k).isSome_eq
  rw[VB] at q
  rw[← q,← l]
  exact h _ (I.tok _)
theorem EH {h':aQ}{t':Nat}{ob:HO}(I:Inv X pins σ H s)(mu:uF (H a))(hs:rF a s.heap h')(he : ∃ q,h'.get? a=some q)(new:Acs X.prog X.w (upd H a ob) h' a ob) :
  Inv X pins σ (upd H a ob) { s with heap:=h',toks:=t' }:=
 I.write (x:=a) (e:=a) mu (.inl rfl) (fun b q hb z=>(hs.2 b hb).trans z) he new
theorem TX {P:bC}{w:aW}{H':Hp}{h':aQ}{kvs:List (aN×V)}{vs:List (aN×aE)}(z:kvs.length≤sizeLine)(hd:(a == gW)=false)(rel:KV kvs vs){ep:Nat}(dd:h'.DictAt (eA P w) a vs ep) :
  Acs P w H' h' a (.dK ep kvs):=⟨z,hd,vs,rel,dd⟩
theorem Da {H':Nat->Hp}{Q:Unit->aG->Prop}(hu:A.units+40<cLine)(I:Inv X pins σ H s)(g:Az4 H a y v H')(ry:RelV y u)(rv:RelV v r)(h : ∀ n s',Inv X pins σ (H' n) s'->Q () s') :
  aO (aP X.prog X.w) A (setItem (.ref a) u r) Q E s:=by
 rcases g with⟨ep,kvs,k,e,ey,l,eH⟩ | ⟨kvs,k,b,e,ey,eb,l,eH⟩
 ·subst ey eH
  obtain⟨z,hd,vs,rel,dd⟩:=HH I.hok e
  have hz:vs.length≤sizeLine:=by rw[← rel.length]; exact z
  have hl:(putK kvs k v).length≤sizeLine:=by have:=GK kvs k v; omega
  refine wpAny_setItem_pairs (hsz:=hz) (rP ry) dd fun h' dd' hs=>?_
  have he : ∃ q,h'.get? a=some q:=let ⟨q,_,_,hq,_⟩:=dd'; ⟨q,hq⟩
  obtain⟨n,da⟩:=dd'.dictAt
  exact h n _ (EH I (by rw[e]; exact gL) hs he (TX hl hd (rel.put k rv) da))
 ·subst ey eH
  cases(show u=cZ b from ry)
  obtain⟨ep0,e⟩:=e
  obtain⟨z,hd,xs,rel,dd⟩:=HE I.hok e
  have hz:xs.length≤sizeLine:=by rw[← nT rel]; exact z
  have hl:(putK kvs k v).length≤sizeLine:=by have:=GK kvs k v; omega
  refine wpAny_setItem_heap (hsz:=hz) (wJ hu) (pX I.hok eb) dd fun h' dd' hs=>?_
  obtain⟨q,es,ep,hq,h2,h3,h4,_,h5⟩:=dd'
  refine h ep _ ?_
  refine EH I (by rw[e]; exact gL) hs ⟨q,hq⟩ ⟨hl,hd,_,(rel.put k eb rv).keeps fun c ys ec=>?_,q,es,hq,h2,h3,h4,h5⟩
  rw[bN (SH ec e (fun z=>nomatch z))]
  exact ec
end
section
variable {X:Cx}{pins:List (aB×aY)}{σ:St}{H:Hp}{s:aG}{a:aB}{kvs:List (aN×V)}{k:aN}{u:aE}{A:bT}{E:aE->aG->Prop}
theorem XZ {ep:Nat}{Q:aE->aG->Prop}(I:Inv X pins σ H s)(e:Rd H a (.dK ep kvs))(h : ∀ t s',Inv X pins σ H s'->Q (.int kvs.length t) s'):aO (aP X.prog X.w) A (call (.builtin "len") [.ref a]) Q E s:=by
 obtain⟨z,hd,vs,rel,dd⟩:=rL I.hok e
 refine call_len_dict hd dd (by rw[← rel.length]; rw[tN] at z; omega) ?_
 rw[← rel.length]
 exact h _ _ (I.tok _)
end
def JS (i:aS):Prop:=∀ ov iv,IB i false ov iv=operate [ov,iv] (nN ov iv)
theorem Ms {prog:bC}{w:aW}{A:bT}{E:aE->aG->Prop}{s:aG}{env:dN}{value slice:aS}{pos:bL}{T id:String}{Q:aE->aG->Prop}
  (hl:tL (.type T) "__getitem__" = pure (some (.builtin id))) (hs:JS slice)
  (h:aO (aP prog w) A (bI value env) (fun o s₁=>aO (aP prog w) A (bI slice env) (fun i s₂=>s₂.TypeIs o T/\aO (aP prog w) A (nN o i) Q E s₂) E s₁) E s) :
  aO (aP prog w) A (bI (.Subscript value slice pos) env) Q E s:=by
 refine Subscript_ (iV h (fun o s₁ h₁=>iV h₁ (fun i s₂ h₂=>?_) fun _ _ x=>x) fun _ _ x=>x)
 obtain⟨hT,h₂⟩:=h₂
 unfold subscriptTail
 refine aK ?_
 rw[getitemInPython_of_ne hT.not_modules]
 refine aK (AG hT hl ?_)
 have fin:aO (aP prog w) A (IB slice false o i) (fun r s₃=>aO (aP prog w) A (letTemporaryGo value o r >>= fun _=>pure r) Q E s₃) E s₂:=by
  rw[hs o i]
  exact wpAny_operating (iV h₂ (fun r s₃ h₃=>aK (wpAny_letTemporaryGo (aZ h₃))) fun _ _ x=>x)
 first
  | exact aZ (aK fin)
  | exact aK (aZ (aK fin))
  | exact aK fin
theorem Fu {X:Cx}{pins:List (aB×aY)}{σ:St}{H:Hp}{s:aG}{a:aB}{y:V}{o:Option V}(I:Inv X pins σ H s)(g:Avl H a y o):s.TypeIs (.ref a) "dict":=by
 rcases g with⟨ep,kvs,k,e,_,_⟩ | ⟨kvs,k,b,e,_,_,_⟩
 ·obtain⟨_,_,vs,_,dd⟩:=rL I.hok e
  exact dd.typeIs
 ·obtain⟨_,_,xs,_,dd⟩:=uL I.hok e
  exact dd.typeIs
noncomputable def YH (td ty:TE):TE:=fun σ H Q=>td σ H fun x H1=>ty σ H1 fun y H2=>∃ a v,x = .ref a/\Avl H2 a y (some v)/\Q v H2
noncomputable def YI (td ty tv:TE):TS:=fun D σ H=>tv σ H fun v H1=>td σ H1 fun x H2=>ty σ H2 fun y H3=>∃ a H4,x = .ref a/\Az4 H3 a y v H4 /\ ∀ n,D.nx σ (H4 n)
section
variable {X:Cx}{o i e value:aS}{pos pos' tpos:bL}{td ty tv:TE}
theorem EG (hu:X.A.units+40<cLine)(ho:PE X o td)(hi:PE X i ty)(hs:JS i):PE X (.Subscript o i pos) (YH td ty):=by
 intro pins s σ H Q I h
 refine Ms PySem.F.slot_dict_getitem.lookup hs (thn (ho pins s σ H _ I h) fun u s1 ⟨x,H1,I1,rx,q1⟩=>thn (hi pins s1 σ H1 _ I1 q1) fun iv s2 gh=>?_)
 obtain⟨y,H2,I2,ry,a,v,ex,g,q2⟩:=gh
 subst ex
 obtain rfl:u=cZ a:=rx
 exact⟨Fu I2 g,Dc hu I2 g ry fun w' s3 I3 rw'=>⟨v,H2,I3,rw',q2⟩⟩
theorem DJ (hu:X.A.units+40<cLine)(ho:PE X o td)(hi:PE X i ty)(hv:PE X value tv)(hs:mG value (some (.Subscript o i pos')) pos.line X.env=pure false) :
  PS X (.Assign [.Subscript o i pos'] value pos) (YI td ty tv):=by
 intro pins s σ H D I h
 refine wpAny_Assign_Subscript (thn (hv pins s σ H _ I h) fun r s1 ⟨v,H1,I1,rv,q1⟩=>thn (ho pins s1 σ H1 _ I1 q1) fun u s2 ⟨x,H2,I2,rx,q2⟩=>thn (hi pins s2 σ H2 _ I2 q2) fun iv s3 ⟨y,H3,I3,ry,a,H4,ex,g,q3⟩=>?_) hs
 subst ex
 obtain rfl:u=cZ a:=rx
 exact Da hu I3 g ry rv fun n s4 I4=>⟨σ,H4 n,I4,q3 n⟩
end
theorem Av {P:bC}{w:aW}{H:Hp}(h:aQ)(hb:gW<h.objs.size):Acs P w H (h.push { cls:=.type "dict",data:=.dict #[] }) h.objs.size (.dK 0 []):=
 ⟨fH _,beq_eq_false_iff_ne.mpr (jL (dA hb)),[],.nil,_,#[],eY _ rfl,⟨rfl,rfl,rfl⟩,rfl,fun _ he=>by simp at he,Pairs.nil,VH⟩
theorem Nv {P:bC}{w:aW}{H:Hp}(h:aQ)(hb:gW<h.objs.size):Acs P w H (h.push { cls:=.type "dict",data:=.dict #[] }) h.objs.size (.dT 0 []):=
 ⟨fH _,beq_eq_false_iff_ne.mpr (jL (dA hb)),[],.nil,_,#[],eY _ rfl,⟨rfl,rfl,rfl⟩,rfl,rfl,VH⟩
noncomputable def Ij:TE:=fun _ H Q=>∀ p,H p=none->Q (.ref p) (upd H p (.dK 0 []))
noncomputable def ZY:TE:=fun _ H Q=>∀ p,H p=none->Q (.ref p) (upd H p (.dT 0 []))
section
variable {X:Cx}{pos:bL}
theorem Nm:PE X (.Dict [] [] pos) Ij:=fun pins s σ H Q I h=>
 wpAny_Dict_empty ⟨.ref s.heap.objs.size,_,I.laid (a:=s.heap.objs.size) (o:=.dK 0 []) (t':=s.toks) (fun _ _ q=>cN _ q) (bX _) (Av s.heap I.big),rfl,h _ (I.hok.fresh (bX _))⟩
theorem NP:PE X (.Dict [] [] pos) ZY:=fun pins s σ H Q I h=>
 wpAny_Dict_empty ⟨.ref s.heap.objs.size,_,I.laid (a:=s.heap.objs.size) (o:=.dT 0 []) (t':=s.toks) (fun _ _ q=>cN _ q) (bX _) (Nv s.heap I.big),rfl,h _ (I.hok.fresh (bX _))⟩
end
noncomputable def oH (kvs more:List (aN×V)):List (aN×V):=more.foldl (fun acc kv=>putK acc kv.1 kv.2) kvs
theorem KV.merge : ∀ {more:List (aN×V)} {rs:List (aN×aE)} {kvs:List (aN×V)} {vs:List (aN×aE)},KV more rs->KV kvs vs->KV (oH kvs more) (mH vs rs):=by
 intro more rs kvs vs r
 unfold KV at r
 induction r generalizing kvs vs with
 | nil=>intro q; exact q
 | @cons p q ps qs h t ih=>
  intro r0
  have e:KV (putK kvs p.1 p.2) (qU vs q.1 q.2):=by
   have:=r0.put p.1 h.2
   rw[← h.1]; exact this
  exact ih e
theorem RZ : ∀ (more kvs:List (aN×V)),(oH kvs more).length≤kvs.length+more.length
 | [],kvs=>by show kvs.length≤kvs.length+0; omega
 | p::r,kvs=>by
  have h1:=RZ r (putK kvs p.1 p.2)
  have h2:=GK kvs p.1 p.2
  show(oH (putK kvs p.1 p.2) r).length≤_
  rw[eE]; omega
end L2
namespace HT
open PySem PyProof.Rows
section
variable {prog:bC}{w:aW}{A:bT}{E:aE->aG->Prop}{s:aG}
theorem A6m {t b:aB}{vs ws:List aE}{Q:aE->aG->Prop}(ht:IsTup s.heap t vs.toArray)(hb:IsTup s.heap b ws.toArray)(hv:vs≠[])
  (h1:ws=[]->Q (.ref t) s) (h2:ws≠[]->Q (.ref s.heap.objs.size) { s with heap:=s.heap.push { cls:=.type "tuple",data:=.seq (vs++ws).toArray } })
  (hsz:vs.length+ws.length≤sizeLine):aO (aP prog w) A (kC .Add (.ref t) (.ref b)) Q E s:=by
 obtain⟨⟨cls,dd,data,sl⟩,ho,hc,n,hd⟩:=id ht
 obtain⟨⟨cls2,dd2,data2,sl2⟩,ho2,hc2,n2,hd2⟩:=id hb
 simp only at hc hd hc2 hd2
 subst hc hd hc2 hd2
 have e:vs.toArray++ws.toArray=(vs++ws).toArray:=by simp
 by_cases hw:ws=[]
 ·exact IE ⟨_,ho,rfl⟩ ⟨_,ho2,rfl⟩ UG seq_tuple_add UT UV (UW _ _)
   (tuple_addW1 t b vs.toArray ws.toArray n n2 dd dd2 sl sl2 (by simpa using hv) (by simp[hw])) ⟨ho,ho2,h1 hw⟩
 ·refine IE ⟨_,ho,rfl⟩ ⟨_,ho2,rfl⟩ UG seq_tuple_add UT UV (UW _ _)
   (tuple_addW2 t b vs.toArray ws.toArray n n2 dd dd2 sl sl2 (by simpa using hv) (by simpa using hw) (by rw[dM,dM]; exact hsz)) ⟨ho,ho2,?_⟩
  rw[e]
  exact h2 hw
noncomputable def sIx (n d:Nat):Option Int->Nat
 | none=>d
 | some v=>if v<0 then(v+(n:Int)).toNat else min v.toNat n
theorem Am1 (n d:Nat):sIx n d none=d:=rfl
theorem Aqx (n d k:Nat):sIx n d (some (k:Int))=min k n:=by
 show(if (k:Int)<0 then((k:Int)+(n:Int)).toNat else min (k:Int).toNat n)=min k n
 rw[if_neg (by omega),VQ]
theorem YV (n d:Nat)(hd:d≤n)(o:Option Int):sIx n d o≤n:=by
 cases o with
 | none=>exact hd
 | some v=>
  show(if v<0 then(v+(n:Int)).toNat else min v.toNat n)≤n
  by_cases hv:v<0
  ·rw[if_pos hv]; omega
  ·rw[if_neg hv]; exact Nat.min_le_right _ _
theorem MC (v:Int)(n d:Nat):(if v<0 then max (v+(n:Int)) 0 else min v (n:Int))=((sIx n d (some v):Nat):Int):=by
 show(if v<0 then max (v+(n:Int)) 0 else min v (n:Int))=(((if v<0 then(v+(n:Int)).toNat else min v.toNat n):Nat):Int)
 by_cases hv:v<0
 ·simp only[if_pos hv]; omega
 ·simp only[if_neg hv]; omega
theorem Es (lo hi:Option Int)(n:Nat):VV lo hi 1 (n:Int)=(((sIx n 0 lo:Nat):Int),((sIx n n hi:Nat):Int)):=by
 have h1 : ¬ ((1:Int)<0):=by omega
 unfold VV
 simp only[h1,if_false]
 refine Prod.ext ?_ ?_
 ·cases lo with
  | none=>rfl
  | some v=>exact MC v n 0
 ·cases hi with
  | none=>rfl
  | some v=>exact MC v n n
theorem Eh (i j:Nat):JE (i:Int) (j:Int) 1=j - i:=by
 unfold JE
 have h1:(1:Int) > 0:=by omega
 simp only[h1,if_true,Int.ediv_one]
 split <;> omega
theorem QR {v:aE}{o:Option Int}{Q:Option Int->aG->Prop}(p:nV v o)(h:Q o s):aO (aP prog w) A (Builtin.Slice.slicePartIndex v) Q E s:=by
 cases p with
 | none=>exact slicePart_none h
 | int i t=>exact slicePart_int h
theorem Af7 {sl:aB}{vl vu:aE}{lo hi:Option Int}{n:Nat}{Q:Int×Int×Nat->aG->Prop}(hs:s.heap.IsSliceOf sl vl vu .none)(pl:nV vl lo)(pu:nV vu hi)
  (h:Q (((sIx n 0 lo:Nat):Int),1,sIx n n hi - sIx n 0 lo) s):aO (aP prog w) A (Builtin.Slice.sliceApplied (.ref sl) (pure (n:Int))) Q E s:=by
 obtain⟨os,hos,hcs,hds⟩:=id hs
 unfold Builtin.Slice.sliceApplied Builtin.Slice.sliceFields
 refine aK (aK (wpAny_field hos hds (x:=vl) rfl (aK (wpAny_field hos hds (x:=vu) rfl (aK (wpAny_field hos hds (x:=.none) rfl (aZ ?_)))))))
 refine aK (slicePart_none ?_)
 show aO _ _ (if ((1:Int) == 0)=true then _ else _) _ _ s
 rw[if_neg (by decide)]
 refine aK (QR pl (aK (QR pu (aK (aZ ?_)))))
 show aO _ _ (match VV lo hi 1 (n:Int) with | (lo,hi)=>pure (lo,(1:Int),JE lo hi 1)) _ _ s
 rw[Es lo hi n]
 show aO _ _ (pure (((sIx n 0 lo:Nat):Int),(1:Int),JE ((sIx n 0 lo:Nat):Int) ((sIx n n hi:Nat):Int) 1)) _ _ s
 rw[Eh]
 exact aZ h
theorem Na (xs:Array aE)(i k:Nat):((dF k).filterMap fun(m:Nat)=>xs[((i:Int)+(m:Int)*1).toNat]?).toArray=((xs.toList.drop i).take k).toArray:=by
 have e:(fun(m:Nat)=>xs[((i:Int)+(m:Int)*1).toNat]?)=fun m=>xs[i+m]?:=by
  funext m
  have:((i:Int)+(m:Int)*1).toNat=i+m:=by omega
  rw[this]
 rw[e]
 have:=pick_run xs i k
 rw[List.filterMap_map] at this
 have e2:((fun x=>xs[x]?)∘fun x=>i+x)=fun m=>xs[i+m]?:=rfl
 rw[e2] at this
 rw[this]
theorem Ai3 {t sl:aB}{items:Array aE}{vl vu:aE}{lo hi:Option Int}{Q:aE->aG->Prop}(ht:IsTup s.heap t items)(hs:s.heap.IsSliceOf sl vl vu .none)(pl:nV vl lo)(pu:nV vu hi)
  (hw : ¬ (sIx items.size 0 lo=0/\sIx items.size items.size hi=items.size))
  (h:Q (.ref s.heap.objs.size) { s with heap:=s.heap.push { cls:=.type "tuple",data:=.seq ((items.toList.drop (sIx items.size 0 lo)).take (sIx items.size items.size hi - sIx items.size 0 lo)).toArray } })
  (hsz:items.size≤sizeLine):aO (aP prog w) A (nN (.ref t) (.ref sl)) Q E s:=by
 have htake:sizeOk (.seq ((items.toList.drop (sIx items.size 0 lo)).take (sIx items.size items.size hi - sIx items.size 0 lo)).toArray):=by
  show((items.toList.drop (sIx items.size 0 lo)).take (sIx items.size items.size hi - sIx items.size 0 lo)).toArray.size≤sizeLine
  rw[dM,pH,VM,mP]
  omega
 have hj:sIx items.size items.size hi≤items.size:=YV _ _ (bX _) hi
 obtain⟨os,hos,hcs,hds⟩:=id hs
 have hTs:s.TypeIs (.ref sl) "slice":=⟨os,hos,hcs⟩
 unfold nN
 try with_reducible refine iG ?_
 first | refine aK (aZ ?_) | skip
 refine aK (wpAny_sequenceKey ht.typeIs (by decide) ?_)
 refine aK (AJ (name:=AQ "__getitem__") ht.typeIs UY
  (qT UY ht.typeIs entry_tuple_getitem ?_ (args_tuple_getitem _ _)))
 show aO _ _ (VU (.ref t) >>= _) _ _ s
 refine aK (tupleItemsOf_ ht ?_)
 refine aK (tJ hTs ?_)
 rw[if_pos (by decide)]
 refine aK (Af7 hs pl pu ?_)
 have hno : ¬ ((((sIx items.size 0 lo:Nat):Int) == 0&&(1:Int) == 1&&(sIx items.size items.size hi - sIx items.size 0 lo) == items.size)=true):=by
  intro q
  rw[rJ,rJ] at q
  have q1:((sIx items.size 0 lo:Nat):Int)=0:=eq_of_beq q.1.1
  have q2:sIx items.size items.size hi - sIx items.size 0 lo=items.size:=eq_of_beq q.2
  exact hw ⟨by omega,by omega⟩
 show aO _ _ (if (((sIx items.size 0 lo:Nat):Int) == 0&&(1:Int) == 1&&(sIx items.size items.size hi - sIx items.size 0 lo) == items.size)=true then _ else _) _ _ s
 rw[if_neg hno,Na]
 first
  | exact aK (m:=JD _) (pD (aZ ⟨_,rfl,aZ h⟩) htake)
  | exact aK (m:=JD _) (pD (aK (aZ (aZ ⟨_,rfl,aZ h⟩))) htake)
  | exact aK (aK (m:=JD _) (pD (aZ (aZ ⟨_,rfl,aZ h⟩)) htake))
  | exact aK (aK (m:=JD _) (pD (aZ ⟨_,rfl,aZ h⟩) htake))
end
end HT
namespace L2
open PySem PySem.Spec PyProof.Rows
abbrev TO:=St->Hp->(Option Int->Hp->Prop)->Prop
def PO (X:Cx)(e:Option aS)(t:TO):Prop:=
 ∀ (pins:List (aB×aY)) (s:aG) (σ:St) (H:Hp) (Q:Option Int->Hp->Prop),Inv X pins σ H s->t σ H Q ->
  aO (aP X.prog X.w) X.A (evalPart e X.env) (fun u s'=>∃ o H',Inv X pins σ H' s'/\nV u o/\Q o H') X.xe s
noncomputable def Lw:TO:=fun _ H Q=>Q none H
noncomputable def YJ (t:TE):TO:=fun σ H Q=>t σ H fun x H1=>∃ i,x = .int i/\Q (some i) H1
section
variable {X:Cx}{e:aS}{te:TE}{lo hi:Option aS}{tl th:TO}{pos p2:bL}
theorem Lg:PO X none Lw:=by
 intro pins s σ H Q I h
 rw[evalPart_none]
 exact aZ ⟨none,H,I,.none,h⟩
theorem Jv (h:PE X e te):PO X (some e) (YJ te):=by
 intro pins s σ H Q I hw
 rw[evalPart_some]
 refine thn (h pins s σ H _ I hw) fun u s1 gh=>?_
 obtain⟨x,H1,I1,r1,q1⟩:=gh
 obtain⟨i,rfl,q⟩:=q1
 obtain⟨t,rfl⟩:=r1
 exact⟨some i,H1,I1,.int i t,q⟩
def SlR (X:Cx)(r:V->Option Int->Option Int->Hp->VK->Prop):Prop:=
 ∀ (pins:List (aB×aY)) (s:aG) (σ:St) (H:Hp) (x:V) (v vl vu:aE) (lo hi:Option Int) (sl:aB) (Q:VK),Inv X pins σ H s->RelV x v->s.heap.IsSliceOf sl vl vu .none->nV vl lo->nV vu hi->r x lo hi H Q ->
  ∃ T id,tL (.type T) "__getitem__" = pure (some (.builtin id))/\s.TypeIs v T/\aO (aP X.prog X.w) X.A (nN v (.ref sl)) (EP X pins σ Q) X.xe s
theorem SlR.or {r r':V->Option Int->Option Int->Hp->VK->Prop}(h:SlR X r)(h':SlR X r'):SlR X (fun x lo hi H Q=>r x lo hi H Q \/ r' x lo hi H Q):=by
 intro pins s σ H x v vl vu lo hi sl Q I rx hs pl pu q
 rcases q with q | q
 ·exact h pins s σ H x v vl vu lo hi sl Q I rx hs pl pu q
 ·exact h' pins s σ H x v vl vu lo hi sl Q I rx hs pl pu q
noncomputable def tSl (r:V->Option Int->Option Int->Hp->VK->Prop)(te:TE)(tl th:TO):TE:=fun σ H Q=>te σ H fun x H1=>tl σ H1 fun l H2=>th σ H2 fun u H3=>r x l u H3 Q
theorem NU {r:V->Option Int->Option Int->Hp->VK->Prop}(hr:SlR X r)(he:PE X e te)(hl:PO X lo tl)(hu:PO X hi th):PE X (.Subscript e (.Slice lo hi none p2) pos) (tSl r te tl th):=by
 intro pins s σ H Q I h
 refine Subscript_ (thn (he pins s σ H _ I h) fun v s1 gh=>?_)
 obtain⟨x,H1,I1,r1,q1⟩:=gh
 refine wpAny_Slice (thn (hl pins s1 σ H1 _ I1 q1) fun vl s2 ⟨l,H2,I2,pl,q2⟩=>thn (hu pins s2 σ H2 _ I2 q2) fun vu s3 gh=>?_)
 obtain⟨u,H3,I3,pu,q3⟩:=gh
 rw[evalPart_none]
 refine aZ ?_
 have I4:Inv X pins σ H3 { s3 with heap:=s3.heap.push { cls:=.type "slice",data:=.fields #[vl,vu,.none] } }:=I3.kept (t':=s3.toks) fun b ob q=>cN _ q
 obtain⟨T,id,hT,ht,hg⟩:=hr pins { s3 with heap:=s3.heap.push { cls:=.type "slice",data:=.fields #[vl,vu,.none] } } σ H3 x v vl vu l u s3.heap.objs.size Q I4 r1 (Heap.IsSliceOf.new ..) pl pu q3
 show aO (aP X.prog X.w) X.A (subscriptTail e (.Slice lo hi none p2) v (.ref s3.heap.objs.size)) (EP X pins σ Q) X.xe { s3 with heap:=s3.heap.push { cls:=.type "slice",data:=.fields #[vl,vu,.none] } }
 exact tail_any (ops:=[.ref s3.heap.objs.size,v]) ht hT hg (by with_unfolding_all rfl)
noncomputable def pB (xs:List V)(lo hi:Option Int):List V:=(xs.drop (HT.sIx xs.length 0 lo)).take (HT.sIx xs.length xs.length hi - HT.sIx xs.length 0 lo)
theorem RI (xs:List V)(lo hi:Option Int):(pB xs lo hi).length≤xs.length:=by
 unfold pB
 rw[pH,VM]
 omega
def WG (K:aH):V->Option Int->Option Int->Hp->VK->Prop:=fun x lo hi H Q=>∃ a xs,x = .ref a/\SqT K H a xs /\
 ¬ (HT.sIx xs.length 0 lo=0/\HT.sIx xs.length xs.length hi=xs.length) /\ ∀ p,H p=none->Q (.ref p) (upd H p (.tup (pB xs lo hi)))
theorem Ip:SlR X (WG X.K):=by
 intro pins s σ H x v vl vu lo hi sl Q I rx hs pl pu h
 obtain⟨a,xs,rfl,hx,hw,q⟩:=h
 cases rx
 obtain⟨its,r,ht,hz⟩:=I.tuple hx
 have hlen:its.toArray.size=xs.length:=by rw[dM]; exact r.length.symm
 refine⟨"tuple",_,UY.lookup,ht.typeIs,?_⟩
 refine HT.Ai3 ht hs pl pu (by rw[hlen]; exact hw) ?_ (by rw[hlen]; exact hz)
 rw[hlen]
 refine⟨.ref s.heap.objs.size,_,I.laid (t':=s.toks) (o:=.tup (pB xs lo hi)) (fun b ob q=>cN _ q) (bX _) ?_,rfl,q _ (I.hok.fresh (bX _))⟩
 exact⟨jM (RI xs lo hi) hz,_,(r.drop (HT.sIx xs.length 0 lo)).take (HT.sIx xs.length xs.length hi - HT.sIx xs.length 0 lo),A8n.new _ _⟩
noncomputable def HN (K:aH):R2:=fun x y H Q=>∃ a b xs ys,x = .ref a/\y = .ref b/\SqT K H a xs/\SqT K H b ys/\xs≠[]/\xs.length+ys.length≤sizeLine /\
 (ys=[]->Q (.ref a) H)/\(ys≠[] -> ∀ p,H p=none->Q (.ref p) (upd H p (.tup (xs++ys))))
theorem Vals.nil_iff {xs:List V}{us:List aE}(r:Vals xs us):us=[]↔xs=[]:=by
 cases r with
 | nil=>simp
 | cons _ _=>simp
theorem Awu:OpR X (kC .Add) (HN X.K):=by
 intro pins s σ H x y v u Q I rx ry h
 obtain⟨a,b,xs,ys,rfl,rfl,ha,hb,hx,hz,q1,q2⟩:=h
 cases rx
 cases ry
 obtain⟨its,r1,p1,_⟩:=I.tuple ha
 obtain⟨its2,r2,p2,_⟩:=I.tuple hb
 refine HT.A6m p1 p2 (fun z=>hx (r1.nil_iff.mp z)) (fun z=>⟨.ref a,H,I,rfl,q1 (r2.nil_iff.mp z)⟩) (fun z=>?_) (by rw[← r1.length,← r2.length]; exact hz)
 refine⟨.ref s.heap.objs.size,_,I.laid (t':=s.toks) (o:=.tup (xs++ys)) (fun b ob q=>cN _ q) (bX _) ?_,rfl,q2 (fun w=>z (r2.nil_iff.mpr w)) _ (I.hok.fresh (bX _))⟩
 exact⟨by rw[uA]; exact hz,_,r1.append r2,A8n.new _ _⟩
end
noncomputable def ixN (n:Nat)(i:Int):Option Nat:=if 0≤i then(if i<n then some i.toNat else none) else if -(n:Int)≤i then some (i+n).toNat else none
noncomputable def atI {α:Type}(xs:List α)(i:Int):Option α:=(ixN xs.length i).bind fun j=>xs[j]?
theorem MA {n:Nat}{i:Int}{j:Nat}(h:ixN n i=some j):seqIndex? i n=some j/\j<n /\ -(n:Int)≤i/\i<n:=by
 unfold ixN at h
 by_cases h0:0≤i
 ·rw[if_pos h0] at h
  by_cases h1:i<n
  ·rw[if_pos h1] at h
   have e:i.toNat=j:=eO h
   exact⟨by rw[seqIndex_of h0 h1,e],by omega,by omega,h1⟩
  ·rw[if_neg h1] at h; cases h
 ·rw[if_neg h0] at h
  by_cases h1 : -(n:Int)≤i
  ·rw[if_pos h1] at h
   have e:(i+n).toNat=j:=eO h
   exact⟨by rw[seqIndex_neg (by omega) h1,e],by omega,h1,by omega⟩
  ·rw[if_neg h1] at h; cases h
theorem DV {α:Type}{xs:List α}{i:Int}{v:α}(h:atI xs i=some v) : ∃ j,seqIndex? i xs.length=some j/\xs[j]?=some v/\j<xs.length /\ -(xs.length:Int)≤i/\i<xs.length:=by
 unfold atI at h
 cases e:ixN xs.length i with
 | none=>rw[e] at h; cases h
 | some j=>
  rw[e] at h
  obtain⟨h1,h2,h3,h4⟩:=MA e
  exact⟨j,h1,h,h2,h3,h4⟩
theorem sE {α:Type}{xs:List α}{j:Nat}{v:α}(h:xs[j]?=some v):atI xs (j:Int)=some v:=by
 have hj:j<xs.length:=(fI.mp h).1
 have e:ixN xs.length (j:Int)=some j:=by
  unfold ixN
  rw[if_pos (by omega),if_pos (by omega)]; simp
 unfold atI; rw[e]; exact h
def LO (b:aS):Prop:=∀ o i,IB b false o i=operate [o,i] (nN o i)
def IxR (X:Cx)(r:R2):Prop:=
 ∀ (value slice:aS) (pins:List (aB×aY)) (s:aG) (σ:St) (H:Hp) (x y:V) (v u:aE) (Q:VK),Inv X pins σ H s->RelV x v->RelV y u->r x y H Q ->
  IB slice false v u=operate [v,u] (nN v u)->aO (aP X.prog X.w) X.A (subscriptTail value slice v u) (EP X pins σ Q) X.xe s
def MtR (X:Cx)(id:String)(r:V->List V->Hp->VK->Prop):Prop:=
 ∀ (pins:List (aB×aY)) (s:aG) (σ:St) (H:Hp) (x:V) (xs:List V) (v:aE) (us:List aE) (Q:VK),Inv X pins σ H s->RelV x v->Vals xs us->r x xs H Q ->
  aO (aP X.prog X.w) X.A (call (.builtin id) (v::us)) (EP X pins σ Q) X.xe s
section
variable {X:Cx}{a b:aS}{ta tb:TE}{pos:bL}
theorem IxR.or {r r':R2}(h:IxR X r)(h':IxR X r'):IxR X (fun x y H Q=>r x y H Q \/ r' x y H Q):=by
 intro value slice pins s σ H x y v u Q I rx ry q hs
 rcases q with q | q
 ·exact h value slice pins s σ H x y v u Q I rx ry q hs
 ·exact h' value slice pins s σ H x y v u Q I rx ry q hs
theorem YO {r:R2}(hr:IxR X r)(ha:PE X a ta)(hb:PE X b tb)(hs:LO b):PE X (.Subscript a b pos) (tOp r ta tb):=by
 intro pins s σ H Q I h
 exact Subscript_ (BK ha hb I h fun v u s2 x y H2 I2 rx ry q=>hr a b pins s2 σ H2 x y v u Q I2 rx ry q (hs _ _))
noncomputable def JH (K:aH):R2:=fun x y H Q=>∃ p xs i v,x = .ref p/\y = .int i/\SqL K H p xs/\atI xs i=some v/\Q v H
noncomputable def JW (K:aH):R2:=fun x y H Q=>∃ p xs i v,x = .ref p/\y = .int i/\SqT K H p xs/\atI xs i=some v/\Q v H
noncomputable def JL:R2:=fun x y H Q=>∃ z i c,x = .str z/\y = .int i/\z.length≤sizeLine/\atI z.cps.toList i=some c/\Q (.str ⟨#[c]⟩) H
theorem A6q:IxR X (JH X.K):=by
 intro value slice pins s σ H x y v u Q I rx ry h hs
 obtain⟨p,xs,i,z,rfl,rfl,hq,he,q⟩:=h
 cases rx
 obtain⟨t,rfl⟩:=ry
 obtain⟨its,r,pl,hz⟩:=I.list hq
 obtain⟨j,h1,h2,h3,h4,h5⟩:=DV he
 obtain⟨w,ew,rw'⟩:=r.get h2
 have hl:=r.length
 have hn:=rX
 have fin:EP X pins σ Q w s:=⟨z,H,I,rw',q⟩
 by_cases h0:0≤i
 ·have hj:i.toNat=j:=by
   rw[seqIndex_of h0 h5] at h1
   exact eO h1
  exact item_listR pl.isList h0 (by omega) (by rw[hj]; simpa using ew) fin hs
 ·have hj:(i+(its.toArray.size:Int)).toNat=j:=by
   rw[seqIndex_neg (by omega) h4] at h1
   rw[dM,← hl]
   exact eO h1
  exact subscriptTail_builtinR (x:=w) pl.isList.typeIs slot_list_getitem.lookup
   (wpAny_getItem_list_neg (Q:=fun r s'=>r=w/\EP X pins σ Q r s') pl.isList (by omega) (by rw[dM] <;> omega) (by omega) (by rw[hj]; simpa using ew) ⟨rfl,fin⟩) hs
theorem Baw:IxR X (JW X.K):=by
 intro value slice pins s σ H x y v u Q I rx ry h hs
 obtain⟨p,xs,i,z,rfl,rfl,hq,he,q⟩:=h
 cases rx
 obtain⟨t,rfl⟩:=ry
 obtain⟨its,r,pl,hz⟩:=I.tuple hq
 obtain⟨j,h1,h2,h3,h4,h5⟩:=DV he
 obtain⟨w,ew,rw'⟩:=r.get h2
 have hl:=r.length
 have hn:=rX
 have fin:EP X pins σ Q w s:=⟨z,H,I,rw',q⟩
 exact subscriptTail_builtinR (x:=w) pl.typeIs IC.lookup
  (getItem_tuple (j:=j) (Q:=fun r s'=>r=w/\EP X pins σ Q r s') pl (by omega) (by omega) (by rw[dM,← hl]; exact h1) (by simpa using ew) ⟨rfl,fin⟩) hs
theorem YW:IxR X JL:=by
 intro value slice pins s σ H x y v u Q I rx ry h hs
 obtain⟨z,i,c,rfl,rfl,hz,he,q⟩:=h
 obtain⟨t,rfl⟩:=rx
 obtain⟨t',rfl⟩:=ry
 obtain⟨j,h1,h2,h3,h4,h5⟩:=DV he
 have hl:z.cps.toList.length=z.length:=by simp[Str.length]
 rw[hl] at h1 h4 h5
 have hn:=rX
 exact tail_any (typeIs_str s z t) slot_str_getitem.lookup (getItem_str (c:=c) (by
  have e1:decide (i < -(2 ^ 63:Int))=false:=decide_eq_false (by omega)
  have e2:decide (i ≥ 2 ^ 63)=false:=decide_eq_false (by omega)
  rw[e1,e2,Bool.or_false]) (by rw[h1]; simpa using h2) ⟨.str ⟨#[c]⟩,H,I.tok _,⟨_,rfl⟩,q⟩) hs
noncomputable def rIx (K:aH):R2:=fun x y H Q=>JH K x y H Q \/ JW K x y H Q \/ JL x y H Q
theorem Il:IxR X (rIx X.K):=A6q.or (Baw.or YW)
theorem Em (its:List aE)(n j:Nat)(u:aE):kY (·.setIfInBounds j u) { cls:=.type "list",data:=.seq its.toArray n } = { cls:=.type "list",data:=.seq (its.set j u).toArray n }:=by
 simp[kY]
theorem Inv.lst {pins:List (aB×aY)}{σ:St}{H:Hp}{s:aG}{p:aB}{xs:List V}(I:Inv X pins σ H s)(h:H p=some (.lst xs)) :
  ∃ (its:List aE) (n:Nat),Vals xs its/\s.heap.get? p=some { cls:=.type "list",data:=.seq its.toArray n }/\xs.length≤sizeLine:=by
 obtain⟨z,its,n,r,e⟩:=I.hok p _ h
 exact⟨its,n,r,e,z⟩
theorem Inv.lstUpd {pins:List (aB×aY)}{σ:St}{H:Hp}{s:aG}{p:aB}{xs ys:List V}{its its':List aE}{n n':Nat}{f:aY->aY}(I:Inv X pins σ H s)(h:H p=some (.lst xs))
  (ho:s.heap.get? p=some { cls:=.type "list",data:=.seq its.toArray n }) (hf:f { cls:=.type "list",data:=.seq its.toArray n } = { cls:=.type "list",data:=.seq its'.toArray n' }) (r:Vals ys its') (hz:ys.length≤sizeLine) (t:Nat) :
  Inv X pins σ (upd H p (.lst ys)) { s with heap:=s.heap.update p f,toks:=t }:=by
 have e:(s.heap.update p f).get? p=some { cls:=.type "list",data:=.seq its'.toArray n' }:=by
  rw[BC f ho (by rw[hf] <;> rfl),hf]
 refine I.write (x:=p) (e:=p) (by rw[h]; trivial) (.inl rfl) (fun b u hb q=>(JB _ _ (jL hb)).trans q) ⟨_,e⟩ ?_
 exact⟨hz,its',n',r,e⟩
def XD:V->V->V->Hp->(Hp->Prop)->Prop:=fun o i v H Q=>∃ p xs k j,o = .ref p/\i = .int k/\H p=some (.lst xs)/\ixN xs.length k=some j/\Q (upd H p (.lst (xs.set j v)))
theorem set_list:JK X XD:=by
 intro pins s σ H o i v ov iv u Q I ro ri rv h
 obtain⟨p,xs,k,j,rfl,rfl,hp,hj,q⟩:=h
 cases ro
 obtain⟨t,rfl⟩:=ri
 obtain⟨its,n,r,ho,hz⟩:=I.lst hp
 obtain⟨h1,h2,h3,h4⟩:=MA hj
 have hl:=r.length
 have hn:=rX
 have I':Inv X pins σ (upd H p (.lst (xs.set j v))) { s with heap:=s.heap.update p (kY (·.setIfInBounds j u)) }:=
  I.lstUpd hp ho (Em its n j u) (r.set rv j) (by rw[List.length_set]; exact hz) s.toks
 by_cases h0:0≤k
 ·have hk:k.toNat=j:=by
   rw[seqIndex_of h0 h4] at h1
   exact eO h1
  exact PySem.W.ki_setAt ho h0 (by omega) (by rw[dM,← hl]; exact h4) (by rw[hk]; exact⟨_,I',q⟩)
 ·have hk:(k+(its.toArray.size:Int)).toNat=j:=by
   rw[seqIndex_neg (by omega) h3] at h1
   rw[dM,← hl]
   exact eO h1
  exact PySem.W.ki_setBack ho (by omega) (by rw[dM,← hl]; exact h3) (by omega) (by rw[hk]; exact⟨_,I',q⟩)
theorem Gk (lo hi:Option Int)(n:Nat):(tM lo hi none n).1=((HT.sIx n 0 lo:Nat):Int)/\(tM lo hi none n).2.1=((HT.sIx n n hi:Nat):Int)/\(tM lo hi none n).2.2=1:=by
 refine⟨?_,?_,rfl⟩
 ·cases lo with
  | none=>simp[tM,HT.sIx]
  | some i=>
   simp only[tM,HT.sIx,Option.getD_none,show(1:Int) > 0 by decide,if_true]
   by_cases h:i<0
   ·simp only[h,if_true] <;> omega
   ·simp only[h,if_false] <;> omega
 ·cases hi with
  | none=>simp[tM,HT.sIx]
  | some i=>
   simp only[tM,HT.sIx,Option.getD_none,show(1:Int) > 0 by decide,if_true]
   by_cases h:i<0
   ·simp only[h,if_true] <;> omega
   ·simp only[h,if_false] <;> omega
theorem Hj (its:List aE)(lo hi:Option Int):slicePick its.toArray lo hi none=((its.drop (HT.sIx its.length 0 lo)).take (HT.sIx its.length its.length hi - HT.sIx its.length 0 lo)).toArray:=by
 obtain⟨h1,h2,h3⟩:=Gk lo hi its.toArray.size
 unfold slicePick
 rw[h1,h2,h3]
 simp only[sliceRange_one,pick_run,dM] <;> rfl
def WW (K:aH):V->Option Int->Option Int->Hp->VK->Prop:=fun x lo hi H Q=>∃ a xs,x = .ref a/\SqL K H a xs /\ ∀ p,H p=none->Q (.ref p) (upd H p (.lst (pB xs lo hi)))
theorem Mh:SlR X (WW X.K):=by
 intro pins s σ H x v vl vu lo hi sl Q I rx hs pl pu h
 obtain⟨a,xs,rfl,hx,q⟩:=h
 cases rx
 obtain⟨its,r,ht,hz⟩:=I.list hx
 have hlen:=r.length
 refine⟨"list",_,slot_list_getitem.lookup,ht.isList.typeIs,?_⟩
 refine wpAny_getItem_list_slice ht.isList hs pl pu .none (by simp) ?_ (by rw[dM] <;> omega)
 rw[Hj,← hlen]
 refine⟨.ref s.heap.objs.size,_,I.laid (t':=s.toks) (o:=.lst (pB xs lo hi)) (fun b ob q=>cN _ q) (bX _) ?_,rfl,q _ (I.hok.fresh (bX _))⟩
 exact⟨jM (RI xs lo hi) hz,_,0,(r.drop (HT.sIx xs.length 0 lo)).take (HT.sIx xs.length xs.length hi - HT.sIx xs.length 0 lo),eY _ rfl⟩
theorem Gj:OpR X (dR .NotIn) (fun x y H Q=>∃ i j,x = .str i/\y = .str j/\Q (.bl (!(!(rH j i 0 j.length 1).isEmpty))) H):=by
 intro pins s σ H x y v u Q I rx ry h
 obtain⟨i,j,rfl,rfl,q⟩:=h
 obtain⟨t,rfl⟩:=rx
 obtain⟨t',rfl⟩:=ry
 exact notIn_str ⟨.bl _,H,I,rfl,q⟩
theorem Apo:Ac8 X (.builtin "len") (fun xs H Q=>∃ p ys,xs=[.ref p]/\(SqL X.K H p ys \/ SqT X.K H p ys)/\Q (.int ys.length) H):=by
 intro pins s σ H xs us Q I r h
 obtain⟨p,ys,rfl,hq,q⟩:=h
 obtain⟨u,rfl,rx⟩:=vals1 r
 cases rx
 have hn:=rX
 rcases hq with hq | hq
 ·obtain⟨its,r',pl,hz⟩:=I.list hq
  have hlen:=r'.length
  exact Calls.call_len_list pl.isList (by simp only[dM] <;> omega) ⟨.int ys.length,H,I.tok _,⟨s.toks+1,by rw[dM,hlen]⟩,q⟩
 ·obtain⟨its,r',pl,hz⟩:=I.tuple hq
  have hlen:=r'.length
  exact len_tuple pl (by simp only[dM] <;> omega) ⟨.int ys.length,H,I.tok _,⟨s.toks+1,by rw[dM,hlen]⟩,q⟩
theorem Aor:Ac8 X (.builtin "len") (fun xs H Q=>∃ z,xs=[.str z]/\z.length≤sizeLine/\Q (.int z.length) H):=by
 intro pins s σ H xs us Q I r h
 obtain⟨z,rfl,hz,q⟩:=h
 obtain⟨u,rfl,t,rfl⟩:=vals1 r
 have hn:=rX
 exact len_str (by omega) ⟨.int z.length,H,I.tok _,⟨_,rfl⟩,q⟩
theorem Ac8.or {f:aE}{r r':List V->Hp->VK->Prop}(h:Ac8 X f r)(h':Ac8 X f r'):Ac8 X f (fun xs H Q=>r xs H Q \/ r' xs H Q):=by
 intro pins s σ H xs us Q I rs q
 rcases q with q | q
 ·exact h pins s σ H xs us Q I rs q
 ·exact h' pins s σ H xs us Q I rs q
theorem Aof:Ac8 X (.type "list") (fun xs H Q=>∃ p ys,xs=[.ref p]/\(SqL X.K H p ys \/ SqT X.K H p ys) /\ ∀ l,H l=none->Q (.ref l) (upd H l (.lst ys))):=by
 intro pins s σ H xs us Q I r h
 obtain⟨p,ys,rfl,hq,q⟩:=h
 obtain⟨u,rfl,rx⟩:=vals1 r
 cases rx
 have fin : ∀ (its:List aE),Vals ys its->ys.length≤sizeLine -> ∀ (h':aQ) (c':Nat),(∀ b o',s.heap.get? b=some o'->h'.get? b=some o') ->
   h'.get? s.heap.objs.size=some { cls:=.type "list",dict:=none,data:=.seq its.toArray c',slots:=#[] }->EP X pins σ Q (.ref s.heap.objs.size) { s with heap:=h' }:=fun its r' hz h' c' kp e=>
  ⟨.ref s.heap.objs.size,_,I.laid (t':=s.toks) kp (bX _) (show Acs X.prog X.w _ h' _ (.lst ys) from⟨hz,its,c',r',e⟩),rfl,q _ (I.hok.fresh (bX _))⟩
 rcases hq with hq | hq
 ·obtain⟨its,r',pl,hz⟩:=I.list hq
  have hlen:=r'.length
  obtain⟨o,ho,hc,n,hd⟩:=pl.isList
  exact call_list_seq p (.inl rfl) ho hc hd (fun h' c' kp e=>fin its r' hz h' c' kp e) (by simp only[dM] <;> omega)
 ·obtain⟨its,r',pl,hz⟩:=I.tuple hq
  have hlen:=r'.length
  obtain⟨o,ho,hc,n,hd⟩:=pl
  exact call_list_seq p (.inr rfl) ho hc hd (fun h' c' kp e=>fin its r' hz h' c' kp e) (by simp only[dM] <;> omega)
theorem Hb:Ac8 X (.type "tuple") (fun xs H Q=>∃ p ys,xs=[.ref p]/\((SqL X.K H p ys /\ ∀ l,H l=none->Q (.ref l) (upd H l (.tup ys))) \/ (SqT X.K H p ys/\Q (.ref p) H))):=by
 intro pins s σ H xs us Q I r h
 obtain⟨p,ys,rfl,h⟩:=h
 obtain⟨u,rfl,rx⟩:=vals1 r
 cases rx
 rcases h with⟨hq,q⟩ | ⟨hq,q⟩
 ·obtain⟨its,r',pl,hz⟩:=I.list hq
  have hlen:=r'.length
  refine call_tuple_list pl.isList (fun h' kp=>?_) (by simp only[dM] <;> omega)
  have I1:Inv X pins σ H { s with heap:=h' }:=I.kept (t':=s.toks) kp
  have I2:Inv X pins σ (upd H h'.objs.size (.tup ys)) { s with heap:=h'.push { cls:=.type "tuple",data:=.seq its.toArray } }:=
   I1.laid (t':=s.toks) (fun b o e=>cN _ e) (bX _) (show Acs X.prog X.w _ _ _ (.tup ys) from⟨hz,its,r',A8n.new _ _⟩)
  exact⟨.ref h'.objs.size,_,I2,rfl,q _ (I1.hok.fresh (bX _))⟩
 ·obtain⟨its,r',pl,hz⟩:=I.tuple hq
  exact call_tuple_same pl ⟨.ref p,H,I,rfl,q⟩
def tyV (K:aH)(T:String)(x:V)(H:Hp):Prop:=match x with
 | .str _=>T = "str"
 | .int _=>T = "int"
 | .ref p=>(T = "list" /\ ∃ xs,SqL K H p xs) \/ (T = "tuple" /\ ((∃ o,K.lookup p=some o/\o.cls = .type "tuple" /\ o.dict=none) \/ ∃ xs,H p=some (.tup xs))) \/
   (T = "dict" /\ ((∃ ep kvs,H p=some (.dK ep kvs)) \/ ∃ kvs,∃ ep,H p=some (.dT ep kvs))) \/ (T = "set" /\ ∃ S n,H p=some (.set S n))
 | _=>False
theorem ZA {pins:List (aB×aY)}{σ:St}{H:Hp}{s:aG}{T:String}{x:V}{v:aE}(I:Inv X pins σ H s)(r:RelV x v)(ty:tyV X.K T x H) :
  s.TypeIs v T /\ ∀ a,v = .ref a -> ∃ ob,s.heap.get? a=some ob/\ob.dict=none:=by
 cases x with
 | str z=>
  obtain⟨t,rfl⟩:=r
  cases(show T = "str" from ty)
  exact⟨typeIs_str s z t,fun _ e=>nomatch e⟩
 | int i=>
  obtain⟨t,rfl⟩:=r
  cases(show T = "int" from ty)
  exact⟨typeIs_int s i t,fun _ e=>nomatch e⟩
 | ref p=>
  cases r
  rcases ty with⟨rfl,xs,hq⟩ | ⟨rfl,⟨o,hk,hc,hd⟩ | ⟨xs,hx⟩⟩ | ⟨rfl,hk⟩ | ⟨rfl,S,n,hk⟩
  ·obtain⟨its,_,pl,_⟩:=I.list hq
   refine⟨pl.isList.typeIs,fun a e=>?_⟩
   cases e
   obtain⟨o,n,e,c,hd,_⟩:=pl
   exact⟨o,e,hd⟩
  ·refine⟨⟨o,I.kIn p o hk,hc⟩,fun a e=>?_⟩
   cases e
   exact⟨o,I.kIn _ o hk,hd⟩
  ·obtain⟨_,_,_,⟨o,e,c,_⟩,n⟩:=(show Acs X.prog X.w H s.heap p (.tup xs) from I.hok p _ hx)
   refine⟨⟨o,e,c⟩,fun a e=>?_⟩
   cases e
   exact n
  ·have z : ∃ o,s.heap.get? p=some o/\o.ExactDict:=by
    rcases hk with⟨ep,kvs,hk⟩ | ⟨kvs,ep,hk⟩
    ·obtain⟨_,_,_,_,o,_,e,ex,_⟩:=I.hok p _ hk
     exact⟨o,e,ex⟩
    ·obtain⟨_,_,_,_,o,_,e,ex,_⟩:=I.hok p _ hk
     exact⟨o,e,ex⟩
   obtain⟨o,e,ex⟩:=z
   refine⟨⟨o,e,ex.1⟩,fun a e2=>?_⟩
   cases e2
   exact⟨o,e,ex.2.1⟩
  ·obtain⟨o,_,_,_,e,ex,_⟩:=I.hok p _ hk
   refine⟨⟨o,e,ex.1⟩,fun a e2=>?_⟩
   cases e2
   exact⟨o,e,ex.2.1⟩
 | _=>exact jB ty
noncomputable def tBM (K:aH)(T:String)(r:V->List V->Hp->VK->Prop)(to:TE)(t:TA):TE:=fun σ H Q=>to σ H fun x H1=>tyV K T x H1/\t σ H1 fun xs H2=>r x xs H2 Q
variable {o e:aS}{es:List aS}{to:TE}{t:TA}{name:aD}{apos cpos:bL}{T id:String}{r:V->List V->Hp->VK->Prop}
theorem AA (pa:PlainAttrs T)(slot:Slot T name id)(hty:typeOf (.builtin id)=pure (.type "method_descriptor"))(hm:MtR X id r)(ho:PE X o to)(ha:PA X (e::es) t)
  (hbase:pE o name X.env (bI o X.env)=bI o X.env:=by rfl)
  (hfew:((eM cpos (bD (e::es) X.env)).all (fun x=>!x.1)&&(tT cpos (tP [] X.env)).all (fun x=>x.1.isSome)
   && decide ((e::es).length+([]:List Keyword).length+(if ([]:List Keyword).isEmpty then 0 else 1)<30))=true:=by rfl)
  (hline:(apos.endLine == cpos.line)=true:=by rfl) (hs:bD (e::es) X.env=(false,bI e X.env)::bD es X.env:=by rfl) (hplain:(eM cpos (bD es X.env)).any (·.1)=false:=by rfl) :
  PE X (.Call (.Attribute o name apos) (e::es) [] cpos) (tBM X.K T r to t):=by
 intro pins s σ H Q I h
 refine wpAny_Call_method_late hbase hfew hline rfl (thn (ho pins s σ H _ I h) fun v s1 gh=>?_)
 obtain⟨x,H1,I1,r1,ty,q1⟩:=gh
 obtain⟨h1,h2⟩:=ZA I1 r1 ty
 refine⟨T,id,pa,slot,hty,h1,h2,?_⟩
 have hA:=ha cpos pins s1 σ H1 _ I1 q1
 rw[hs] at hA ⊢
 refine Calls.callWith_builtin (by show(false||(eM cpos (bD es X.env)).any (·.1))=false; rw[hplain] <;> rfl) (Calls.evalArgs_plain ?_)
 exact thn hA fun us s2 ⟨vs,H2,I2,r2,q2⟩=>hm pins s2 σ H2 x vs v us Q I2 r1 r2 q2
end
def MtM (X:Cx)(id:String)(r:V->List V->Hp->VK->Prop):Prop:=
 ∀ (pins:List (aB×aY)) (s:aG) (σ:St) (H:Hp) (x:V) (xs:List V) (v:aE) (us:List aE) (Q:VK),Inv X pins σ H s->RelV x v->Vals xs us->r x xs H Q ->
  aO (aP X.prog X.w) X.A (call (.builtin id) (v::us)) (EP X pins σ Q) X.xe s
theorem Vals.one : ∀ {x:V} {us:List aE},Vals [x] us -> ∃ u,us=[u]/\RelV x u:=by
 intro x us h
 cases h with
 | cons r t=>cases t; exact⟨_,rfl,r⟩
section
variable {X:Cx}{pins:List (aB×aY)}{σ:St}{H:Hp}{s:aG}{l b:aB}{xs ys zs:List V}
theorem Inv.lset {its its':List aE}{n:Nat}{f:Array aE->Array aE}{t':Nat}(I:Inv X pins σ H s)(hH:H l=some (.lst xs))
  (e:s.heap.get? l=some { cls:=.type "list",data:=.seq its.toArray n }) (hf:f its.toArray=its'.toArray) (hv:Vals ys its') (hz:ys.length≤sizeLine) :
  Inv X pins σ (upd H l (.lst ys)) { s with heap:=s.heap.update l (kY f),toks:=t' }:=by
 have q:=PySem.IsL.update e f
 rw[hf] at q
 refine I.write (x:=l) (e:=l) (by rw[hH]; exact trivial) (.inl rfl) (fun b' u hb hu=>(JB s.heap (kY f) (jL hb)).trans hu) ⟨_,q⟩ ?_
 exact⟨hz,its',_,hv,q⟩
theorem Inv.lnew {its:List aE}{t':Nat}(I:Inv X pins σ H s)(hv:Vals ys its)(hz:ys.length≤sizeLine) :
  Inv X pins σ (upd H s.heap.objs.size (.lst ys)) { s with heap:=s.heap.push { cls:=.type "list",data:=.seq its.toArray },toks:=t' }:=
 I.laid (fun _ _ q=>cN _ q) (bX _) ⟨hz,its,0,hv,eY _ rfl⟩
theorem Inv.fresh (I:Inv X pins σ H s):H s.heap.objs.size=none:=I.hok.fresh (bX _)
theorem Inv.lstM (I:Inv X pins σ H s)(hH:H l=some (.lst xs)):xs.length≤sizeLine /\ ∃ (its:List aE) (n:Nat),Vals xs its/\xs.length=its.length/\s.heap.get? l=some { cls:=.type "list",data:=.seq its.toArray n }:=by
 obtain⟨z,its,n,r,e⟩:=I.hok l _ hH
 exact⟨z,its,n,r,r.length,e⟩
end
section
variable {X:Cx}
def Lb:V->List V->Hp->VK->Prop:=fun x vs H Q=>∃ l xs y,x = .ref l/\vs=[y]/\H l=some (.lst xs)/\xs.length<sizeLine/\Q .non (upd H l (.lst (xs++[y])))
theorem QI:MtM X "list.append" Lb:=by
 intro pins s σ H x vs v us Q I rx rv h
 obtain⟨l,xs,y,rfl,rfl,hH,hz,q⟩:=h
 cases rx
 obtain⟨u,rfl,ru⟩:=rv.one
 obtain⟨z,its,n,r,hl,e⟩:=I.lstM hH
 refine call_meets F.slot_list_append ⟨_,e,rfl⟩ F.entry_list_append (F.args_list_append_2 _ _) (PySem.list_append l its.toArray n u (by rw[dM]; omega)) ⟨e,?_⟩
 refine⟨.non,_,I.lset (its':=its++[u]) hH e (by simp) (r.append (.cons ru .nil)) ?_,rfl,q⟩
 rw[uA,List.length_singleton]
 omega
end
end L2
namespace Att
open PySem PySem.W PySem.Calls PyProof.Rows
theorem Hu {P:Params}{h:aQ} : ∀ (ns:List Int) (vs:List aE),WellAll P h vs (ns.map WData.int)->IntsAre vs ns:=by
 intro ns
 induction ns with
 | nil=>
  intro vs w
  rw[List.map_nil] at w
  cases w
  exact .nil
 | cons n ns ih=>
  intro vs w
  rw[dJ] at w
  cases w with
  | cons a b=>
   cases a
   exact .cons _ _ (ih _ b)
theorem Bv {l:OpenLaw}{n:Nat}(hn:l.most=some n){P:Params}{h:aQ}{args:List WData}{vals:List aE}
  (hpre:l.row.toRowW.claim.pre args=true) (hwl:WellAll P h vals args) :
  ∃ a vs ns,vals=[cZ a]/\args=[WData.list (ns.map WData.int)]/\h.get? a=some { cls:=.type "list",data:=.seq vs.toArray }/\IntsAre vs ns/\ns.length≤n:=by
 have hsh:WShape.hasAll [] args [.list .int]=true:=(pre_splitW hpre).1
 have hc:l.pre.holds [] { args:=args }=true:=(pre_splitW hpre).2
 obtain⟨d,r,rfl,h1,h2⟩:=hasAllW_cons hsh
 obtain rfl:=hasAllW_nil h2
 obtain⟨xs,rfl,h3⟩:=hasW_list h1
 obtain⟨ns,rfl⟩:=items_int h3
 have hlen:ns.length≤n:=by
  unfold OpenLaw.pre at hc
  have h4:(WTm.not (.lt (.lit (.int (n:Int))) (.len (.arg 0)))).holds [] { args:=[.list (ns.map .int)] }=true:=by
   have h4:=(holds_andW hc).1
   rw[hn] at h4
   exact h4
  have h5:=condW_of h4 (w_not (w_lt w_lit (w_len_list (w_arg rfl))))
  rw[cP] at h5
  refine Nat.le_of_not_lt fun q=>?_
  have q':(n:Int)<((ns.length:Nat):Int):=by omega
  first
   | (rw[decide_eq_true q'] at h5; exact absurd h5 (by decide))
   | (simp at h5; omega)
 cases hwl with
 | cons w1 w2=>
  cases w2
  cases w1 with
  | list ho hall=>exact⟨_,_,ns,rfl,rfl,ho,Hu ns _ hall,hlen⟩
theorem Bc (l:OpenLaw)(args:List WData):l.row.toRowW.claim.post args (.bool true) args=true:=
 postW_of (r:=l.row.toRowW) (X:=(true == true))
  (show WShape.has [] (.bool true) .bool=true by first | rfl | decide | simp[WShape.has,WShape.arms,WShape.armsAll])
  (show(WTm.eq .res (.lit (.bool true))).value [] { args:=args,res:=some (.bool true),after:=args }=some (.bool (true == true)) from w_eq_bool (w_res rfl) w_lit) rfl
theorem Arl {l:OpenLaw}{n:Nat}{q:bC}{loose:List aD}{XP:(aD->Option aE)->aQ->Prop}{YP:aW->aQ->Prop}{d:DefRec}
  (hn:l.most=some n) (hdf:d.params.defaults=[])
  (call : ∀ (w:aW) (s₀ s₁:aG) (mg mb:aD->Option aE) (fa:aB) (o:aY) (pm cd doc:aE) (a:aB) (vs:List aE) (ns:List Int),
   Ground q loose [] XP w s₀ mg mb s₁.heap->YP w s₁.heap ->
   s₁.heap.get? fa=some o->o.data = .func (docDef d.name d.params d.body d.scope pm cd doc)->s₁.heap.CodeRec cd d.name->mg d.name=some (.ref fa) ->
   s₁.heap.get? a=some { cls:=.type "list",data:=.seq vs.toArray }->IntsAre vs ns->ns.length≤n->s₁.gens = #[] ->
   iW (aP l.prog w) tQ (.call (.ref fa) ⟨[.ref a],[]⟩) (fun r s'=>r = .ok (.ret (.bool true))/\OldK s₁.heap s'.heap/\s'.os=s₁.os/\nY s'.gens) s₁) :
  WalkO q loose XP YP l.row.toRowW d [] (fun f vs=>PySem.call f vs):=by
 intro w s₀ s₁ mg mb G Y fa o pm cd doc dV kV ho hd hcd hD hmg hg args vals as hpre hlay hrd hwl hlo
 obtain rfl:dV = .none:=Dflts.none hD hdf
 obtain rfl:kV = .none:=Dflts.noKw hD
 obtain⟨a,vs,ns,rfl,rfl,hobj,hints,hlen⟩:=Bv hn hpre hwl
 refine enter_call (qX (call w s₀ s₁ mg mb fa o pm cd doc a vs ns G Y ho (fd_plain hd) hcd hmg hobj hints hlen hg) fun r s' hq=>?_)
 obtain⟨rfl,h2,h3,h4⟩:=hq
 exact⟨.inl ⟨.bool true,.bool true,[],rfl,fun _=>rfl,.bool true,Bc l _,fun _=>⟨List.Pairwise.nil,fun _ hm=>(nomatch hm)⟩⟩,h2,h3,h4⟩
end Att
namespace L2
open PySem PySem.Spec PyProof.Rows
theorem OK : ∀ {vs:List aE} {ns:List Int},IntsAre vs ns->Vals (ns.map V.int) vs
 | _,_,.nil=>.nil
 | _,_,.cons n t h=>.cons ⟨t,rfl⟩ (OK h)
def Only (H:Hp):Prop:=∀ b,H b=none \/ ∃ o xs,H b=some (.frz o (.lst xs))
theorem Aq {P:bC}{w:aW}{K:aH}{mg mb:aD->Option aE}{CX:CXT}{k:Nat}{fa a:aB}{fd:dS}{x:aD}{sp:Sp}{s₁:aG}{vs:List aE}{ns:List Int}
  (KX:K.In s₁.heap) (hns:s₁.heap.Ns bU mg) (hb:s₁.heap.Ns builtinsNs mb) (hbb : ∀ x:aD,x ≠ "__name__" -> mb x=iX x) (hlim:s₁.heap.NoLimit) (hg:s₁.gens = #[])
  (ha:s₁.heap.get? a=some { cls:=.type "list",data:=.seq vs.toArray }) (hi:IntsAre vs ns) (hl:ns.length≤sizeLine) (hr:Room k tQ)
  (F : ∀ base:aQ,K.In base->base.Ns bU mg->FnOk P w K mg base CX k fa fd [x] sp) (hbind : ∀ (s:aG) (u:aE),rK s fd ⟨[u],[]⟩ [(x,u)])
  (hsp : ∀ H:Hp,Only H->SqL K H a (ns.map V.int)->sp [.ref a] H (fun v _=>v = .bl true) fun _ _ _=>False)
  (hCX : ∀ H e s',CX [] H s₁ (fun _ _ _=>False) e s'->False) :
  iW (aP P w) tQ (.call (.ref fa) ⟨[.ref a],[]⟩) (fun r s'=>r = .ok (.ret (.bool true))/\OldK s₁.heap s'.heap/\s'.os=s₁.os/\nY s'.gens) s₁:=by
 have rv:=OK hi
 have lenV:=hi.length
 have core : ∀ H:Hp,Only H->SqL K H a (ns.map V.int)->HOk P w H s₁.heap->(∀ b,H b≠none->b=a)->(H a≠none->K.lookup a=none) ->
   iW (aP P w) tQ (.call (.ref fa) ⟨[.ref a],[]⟩) (fun r s'=>r = .ok (.ret (.bool true))/\OldK s₁.heap s'.heap/\s'.os=s₁.os/\nY s'.gens) s₁:=by
  intro H hO hS hok hA hK
  have base_of : ∀ {b:aB} {o:aY},s₁.heap.get? b=some o->H b=none->(nD s₁.heap H).get? b=some o:=fun e n=>Ox e n
  have noA : ∀ {b:aB} {o:aY} {es:Array mM} {ep:Nat},s₁.heap.get? b=some o->o.data = .dict es ep->H b=none:=fun {b o es ep} e d=>by
   cases q:H b with
   | none=>rfl
   | some u=>
    have e':b=a:=hA b (by rw[q]; simp)
    subst e'
    rw[ha] at e; cases e
    have d':Data.seq vs.toArray _=Data.dict es ep:=d
    cases d'
  have nsK : ∀ {b:aB} {m:aD->Option aE},s₁.heap.Ns b m->(nD s₁.heap H).Ns b m:=fun {b m} ⟨o,es,ep,e,d,r⟩=>⟨o,es,ep,base_of e (noA e d),d,r⟩
  have hKb:K.In (nD s₁.heap H):=fun b o e=>base_of (KX b o e) (by
   cases q:H b with
   | none=>rfl
   | some u=>
    have e':b=a:=hA b (by rw[q]; simp)
    subst e'
    rw[hK (by rw[q]; simp)] at e; cases e)
  have hM:Mod K mg (nD s₁.heap H):=⟨hKb,nsK hns,⟨mb,nsK hb,hbb⟩,let ⟨mc,h1,h2⟩:=hlim; ⟨mc,nsK h1,h2⟩⟩
  have e0:Env0 P w K mg (nD s₁.heap H) tQ [] s₁ H:=⟨rfl,hM,fun b o e=>Ma e,IS (Bs _ _),trivial,fun b hb=>absurd (show b∈([]:List aB) from hb) (by simp),hok,.of_eq hg⟩
  refine qX ((F _ hKb (nsK hns)).run tQ [] s₁ H ⟨[.ref a],[]⟩ [.ref a] [.ref a] _ _ hr e0 (hbind s₁ (.ref a)) (.cons rfl .nil) (hsp H hO hS)) fun r s' h=>?_
  cases r with
  | error e=>exact(hCX H e s' h).elim
  | ok fl=>
   cases fl with
   | next=>exact jB h
   | brk=>exact jB h
   | cont=>exact jB h
   | ret u=>
    obtain⟨v,H',os,bare,un,hok',r',q⟩:=h
    have q':v = .bl true:=q
    subst q'
    obtain rfl:u=Value.bool true:=r'
    refine⟨rfl,OldK.of_keep fun b o e=>?_,os,bare⟩
    cases q:H b with
    | none=>exact un.keep b o e q (by intro z; exact absurd (show b∈([]:List aB) from z) (by simp)) (by simp)
    | some u=>
     rcases hO b with z | ⟨ob,xs,z⟩
     ·rw[q] at z; cases z
     ·have z2:=un.frzs b ob _ z
      obtain⟨e1,_⟩:=hok b _ z
      obtain⟨e2,_⟩:=hok' b _ z2
      rw[e] at e1; cases e1
      exact e2
 cases hk:K.lookup a with
 | some o=>
  have e:=KX a o hk
  rw[ha] at e
  cases e
  refine core (fun _=>none) (fun _=>.inl rfl) (.inr ⟨_,vs.toArray,_,hk,rfl,rfl,rfl,by rw[dM,lenV]; exact hl,by simpa using rv⟩) (fun b u z=>by have z':(none:Option HO)=some u:=z; cases z') (fun b z=>absurd rfl z) fun z=>absurd rfl z
 | none=>
  refine core (fun b=>if b=a then some (.frz { cls:=.type "list",data:=.seq vs.toArray } (.lst (ns.map V.int))) else none) (fun b=>?_) (.inl (.inr ⟨{ cls:=.type "list",data:=.seq vs.toArray },if_pos rfl⟩)) (fun b u z=>?_) (fun b z=>?_) fun _=>hk
  ·by_cases hb:b=a
   ·exact .inr ⟨_,_,if_pos hb⟩
   ·exact .inl (if_neg hb)
  ·by_cases hb:b=a
   ·have z':=(if_pos hb).symm.trans z
    cases z'
    subst hb
    exact⟨ha,by rw[cP]; exact hl,vs,_,rv,ha⟩
   ·have z':=(if_neg hb).symm.trans z
    cases z'
  ·by_cases hb:b=a
   ·exact hb
   ·exact absurd (if_neg hb) z
theorem A5l {l:UR}{n k:Nat}{q:bC}{loose:List aD}{XP:(aD->Option aE)->aQ->Prop}{YP:aW->aQ->Prop}{d:DefRec}{K:Params->aH}{CX:aW->CXT}{sp:aW->Sp}{x:aD}
  (hn:l.most=some n) (hn2:n≤sizeLine) (hdf:d.params.defaults=[]) (hr:Room k tQ)
  (hY : ∀ (w:aW) (h:aQ),YP w h->(K w.params).In h)
  (F : ∀ (w:aW) (mg:aD->Option aE) (fa:aB) (h:aQ),(K w.params).In h->h.Ns bU mg->mg d.name=some (.ref fa) ->
   ∃ fd:dS,(∀ (s:aG) (u:aE),rK s fd ⟨[u],[]⟩ [(x,u)]) /\
    ∀ base:aQ,(K w.params).In base->base.Ns bU mg->FnOk l.prog w (K w.params) mg base (CX w) k fa fd [x] (sp w))
  (hsp : ∀ (w:aW) (H:Hp) (a:aB) (ns:List Int),ns.length≤n->Only H->SqL (K w.params) H a (ns.map V.int)->sp w [.ref a] H (fun v _=>v = .bl true) fun _ _ _=>False)
  (hCX : ∀ (w:aW) (H:Hp) (s:aG) (e:aE) (s':aG),CX w [] H s (fun _ _ _=>False) e s'->False) :
  PySem.W.WalkO q loose XP YP l.row.toRowW d [] (fun f vs=>PySem.call f vs):=by
 refine Att.Arl hn hdf fun w s₀ s₁ mg mb fa o pm cd doc a vs ns G Y ho hd hcd hmg hobj hints hlen hg=>?_
 have KX:=hY w _ Y
 obtain⟨fd,hb,hF⟩:=F w mg fa _ KX G.T.g hmg
 exact Aq KX G.T.g G.T.b G.T.builtins G.T.nolimit hg hobj hints (jM hlen hn2) hr hF hb (fun H hO hS=>hsp w H a ns hlen hO hS) fun H e s'=>hCX w H s₁ e s'
noncomputable def inClass (s:bG)(j:Nat):bG:=match s with
 | .ClassDef _ _ _ body _ _ _ _ _ _ _=>body.getD j (.Pass ⟨0,0,0,0⟩)
 | _=>.Pass ⟨0,0,0,0⟩
noncomputable def jG (s:bG):Arguments:=match s with
 | .FunctionDef _ a _ _ _ _ _ _ _ _=>a
 | _=>{ posonlyargs:=[],args:=[],vararg:=none,kwonlyargs:=[],kw_defaults:=[],kwarg:=none,defaults:=[] }
noncomputable def gU (s:bG):List bG:=match s with
 | .FunctionDef _ _ b _ _ _ _ _ _ _=>b
 | _=>[]
noncomputable def bQ (s:bG):gM:=match s with
 | .FunctionDef _ _ _ _ _ _ sc _ _ _=>sc
 | _=>{ kind:=.function,names:=[],isGenerator:=false,isCoroutine:=false }
noncomputable abbrev CX0:CXT:=fun _ _ _ _ _ _=>False
noncomputable abbrev E0:XK:=fun _ _ _=>False
theorem XS {X:Cx}:Passes CX0 X E0:=fun _ _ _ _ _ _ _ h=>h.elim
structure Fun (K:aH)(x qual:aD)(st:bG)(f:aB)(fd:dS):Prop where
 ex : ∃ (oc:aE) (od:Option aB) (kV doc pm:aE) (an:Option aB) (cdv ct:aE) (osl:Array (Option aE)),
  fd=iY x qual (jG st) (gU st) (bQ st) .none kV doc pm an cdv ct/\K.lookup f=some ⟨oc,od,.func fd,osl⟩/\tW K cdv qual=true
 kp:kX K (.ref f)=true
section
variable {P:bC}{w:aW}{K:aH}{mg:aD->Option aE}{base:aQ}
theorem Fun.ok {x qual:aD}{st:bG}{f:aB}{fd:dS}{N ps:List aD}{k:Nat}{sp:Sp}(F:Fun K x qual st f fd)(S:FnScope N ps (bQ st))(len : ∀ vs H Q E,sp vs H Q E->vs.length=ps.length)
  (hbody : ∀ (cdv:aE) (A:bT) (outer:List dN) (s:aG) (H:Hp) (vs:List V) (Q:VK) (E:XK),Room k (A.deeper (gX qual (bQ st) s.heap.objs.size f cdv))->sp vs H Q E ->
   ∃ t,PSs (iJ CX0 P w K mg base N qual (bQ st) f cdv A outer s H E).nox (gU st) t/\t { nx:=fun _ H'=>Q .non H',rt:=Q } (start N vs) H):FnOk P w K mg base CX0 (k+1) f fd ps sp:=by
 obtain⟨oc,od,kV,doc,pm,an,cdv,ct,osl,rfl,lk,hcd⟩:=F.ex
 refine KA lk hcd S len fun A outer s H vs Q E hr hsp=>?_
 obtain⟨t,h,q⟩:=hbody cdv A outer s H vs Q E hr hsp
 exact⟨t,h.nox,q⟩
theorem Fun.binds {x qual:aD}{st:bG}{f:aB}{fd:dS}{ps:List aD}(F:Fun K x qual st f fd)
  (h : ∀ (kV doc pm:aE) (an:Option aB) (cdv ct:aE) (us:List aE),us.length=ps.length->tR (iY x qual (jG st) (gU st) (bQ st) .none kV doc pm an cdv ct) ⟨us,[]⟩=pure (ps.zip us)):Binds K fd ps []:=by
 obtain⟨oc,od,kV,doc,pm,an,cdv,ct,osl,rfl,lk,hcd⟩:=F.ex
 exact .all (h kV doc pm an cdv ct)
theorem CV {x qual:aD}{st:bG}{f:aB}{oc:aE}{od an:Option aB}{osl:Array (Option aE)}{kV doc pm cdv ct:aE}(l:K.lookup f=some ⟨oc,od,.func (iY x qual (jG st) (gU st) (bQ st) .none kV doc pm an cdv ct),osl⟩)
  (c:tW K cdv qual=true) (k:kX K (.ref f)=true):Fun K x qual st f (iY x qual (jG st) (gU st) (bQ st) .none kV doc pm an cdv ct):=⟨⟨oc,od,kV,doc,pm,an,cdv,ct,osl,rfl,l,c⟩,k⟩
end
theorem eK {A:bT}{k:Nat}(hr:Room k A):A.units+40<cLine:=Nat.lt_of_le_of_lt (Nat.add_le_add_left (by decide:40≤64) _) hr.units
section
variable {X:Cx}
theorem pv (i:Nat){x:aD}{pos:bL}(hN:X.N[i]?=some x:=by rfl)(hv:lO X.env.scope x:=by first | exact bH rfl | exact bE (bH rfl) | exact bE (bE rfl))(hd:(x == ("__debug__" : aD))=false:=by decide)
  (hcd:(x == ("__classdict__" : aD))=false:=by decide):PE X (.Name x pos) (uI i):=oJ hN hv hd hcd
theorem Cv:Ac8 X (.builtin "len") (fun xs H Q=>∃ a ep kvs,xs=[V.ref a]/\H a=some (.dK ep kvs)/\Q (.int kvs.length) H):=by
 intro pins s σ H xs us Q I r h
 obtain⟨a,ep,kvs,rfl,ha,q⟩:=h
 obtain⟨u,rfl,ru⟩:=vals1 r
 cases ru
 exact XZ I (.inl ha) fun t s' I'=>⟨.int kvs.length,H,I',⟨t,rfl⟩,q⟩
end
theorem iB {A B:Prop}(h:B):if false=true then A else B:=by
 rw[if_neg pI]
 exact h
theorem jO {A B:Prop}(h:A):if true=true then A else B:=by
 rw[if_pos rfl]
 exact h
def Same (H H':Hp):Prop:=∀ b o,H b=some o->H' b=some o
theorem Same.trans {H H1 H2:Hp}(a:Same H H1)(b:Same H1 H2):Same H H2:=fun c o h=>b c o (a c o h)
theorem Same.free {H H':Hp}(e:Same H H'){l:aB}(h:H' l=IM):H l=IM:=by
 cases q:H l with
 | none=>rfl
 | some o=>
  rw[e l o q] at h
  cases h
theorem Same.seq {K:aH}{H H':Hp}{a:aB}{xs:List V}(e:Same H H')(h:SqL K H a xs):SqL K H' a xs:=by
 rcases h with(h | ⟨o,h⟩) | h
 ·exact .inl (.inl (e _ _ h))
 ·exact .inl (.inr ⟨o,e _ _ h⟩)
 ·exact .inr h
section
variable {prog:bC}{w:aW}{A:bT}{R:nO->aG->Prop}{s:aG}
theorem Fh {elt target iter:aS}{ifs:List aS}{scope:gM}{pos:bL}{it acc:aE}{env:dN}(I:Nat->aG->Prop)
  (turn : ∀ n s,I n s->aO (aP prog w) A (pyNext it) (fun r s₁=>match r with
   | none=>R (.ok .next) s₁
   | some v=>aO (aP prog w) A (ID target it v) (fun _ s₂=>aO (aP prog w) A (assign target env v) (fun _ s₃=>
     aO (aP prog w) A (forIn ifs true fun c r=>if r=true then do let ok ← qV c env (bI c env); pure (xQ ok) else pure (xQ r)) (fun ok s₄=>
      if ok=true then aO (aP prog w) A (bI elt env) (fun x s₅=>
       aO (aP prog w) A (call (.builtin "list.append") [acc,x]) (fun _ s₆=>∃ m,m<n/\I m s₆) (fun _ _=>False) s₅) (fun _ _=>False) s₄
      else ∃ m,m<n/\I m s₄) (fun _ _=>False) s₃) (fun _ _=>False) s₂) (fun _ _=>False) s₁) (fun _ _=>False) s)
  (n:Nat) (h:I n s):iW (aP prog w) A (.compLoop (.ListComp elt [⟨target,iter,ifs,0⟩] scope pos) 0 it acc env) R s:=by
 refine codeAny_loop rfl I (fun n s hI=>?_) n h
 refine wpAny_noted ?_
 rw[compTurn_list]
 refine aK (wpAny_standAt (aK (iV (turn n s hI) (fun r s₁ h₁=>?_) fun _ _ h'=>h'.elim)))
 cases r with
 | none=>exact aZ h₁
 | some v=>
  refine aK (iV h₁ (fun _ s₂ h₂=>?_) fun _ _ h'=>h'.elim)
  refine aK (iV h₂ (fun _ s₃ h₃=>aK (iV h₃ (fun ok s₄ h₄=>?_) fun _ _ h'=>h'.elim)) fun _ _ h'=>h'.elim)
  cases ok with
  | false=>exact aZ ⟨rfl,h₄⟩
  | true=>
   exact aK (aK (iV h₄ (fun x s₅ h₅=>aK (iV h₅ (fun _ s₆ h₆=>aZ (aZ ⟨rfl,h₆⟩)) fun _ _ h'=>h'.elim)) fun _ _ h'=>h'.elim))
end
theorem cellOf_eq {env:dN}{n:aD}{c:aB}(h:env.cells.lookup n=some c):cellOf env n=pure c:=by
 unfold cellOf
 rw[h]
noncomputable def eR (env:dN):List (aD×lA)->List (aD×aB)->List (aD×aB)
 | [],cs=>cs
 | (n,k)::r,cs=>eR env r (if (k == fO)=true then(match env.cells.lookup n with | some c=>(n,c)::cs | none=>cs) else cs)
theorem RU {sc:gM}{env:dN}(h : ∀ n,(n,fO)∈sc.names -> ∃ c,env.cells.lookup n=some c):closureFor sc env=pure (eR env sc.names []):=by
 unfold closureFor
 generalize sc.names=l at h
 have go : ∀ (l:List (aD×lA)) (cs:List (aD×aB)),(∀ n,(n,fO)∈l -> ∃ c,env.cells.lookup n=some c) ->
   (forIn l cs (fun(x:aD×lA) (r:List (aD×aB))=>if (x.2 == fO)=true then(do let c ← cellOf env x.1; pure (xQ ((x.1,c)::r))) else pure (xQ r)):Sem (List (aD×aB)))=pure (eR env l cs):=by
  intro l
  induction l with
  | nil=>intro cs _; rfl
  | cons p r ih=>
   intro cs hl
   obtain⟨n,k⟩:=p
   rw[List.forIn_cons]
   have hr : ∀ n,(n,fO)∈r -> ∃ c,env.cells.lookup n=some c:=fun n hn=>hl n (cA _ hn)
   cases hk:(k == fO) with
   | true=>
    have ek:k=fO:=by simpa using hk
    subst ek
    obtain⟨c,hc⟩:=hl n bY
    have e1:eR env ((n,fO)::r) cs=eR env r ((n,c)::cs):=by
     show eR env r (if (fO == fO)=true then(match env.cells.lookup n with | some c=>(n,c)::cs | none=>cs) else cs)=_
     rw[hc]; rfl
    rw[e1]
    simp only[cellOf_eq hc,hk,if_true]
    exact ih ((n,c)::cs) hr
   | false=>
    have e1:eR env ((n,k)::r) cs=eR env r cs:=by
     show eR env r (if (k == fO)=true then(match env.cells.lookup n with | some c=>(n,c)::cs | none=>cs) else cs)=_
     rw[hk]; rfl
    rw[e1]
    simp only[hk,mO,if_false]
    exact ih cs hr
 have e:=go l [] h
 simp only[e]
 rfl
theorem GG {env:dN} : ∀ (l:List (aD×lA)) (cs:List (aD×aB)),(∀ x c,cs.lookup x=some c->env.cells.lookup x=some c) -> ∀ x c,(eR env l cs).lookup x=some c->env.cells.lookup x=some c
 | [],cs,h,x,c,e=>h x c e
 | (n,k)::r,cs,h,x,c,e=>by
  refine GG r _ ?_ x c e
  intro y d q
  by_cases hk:(k == fO)=true
  ·rw[if_pos hk] at q
   cases hc:env.cells.lookup n with
   | none=>rw[hc] at q; exact h y d q
   | some a=>
    rw[hc] at q
    by_cases hy:(y == n)=true
    ·simp only[lM,hy] at q
     have:y=n:=by simpa using hy
     rw[this,hc]; exact q
    ·have hy':(y == n)=false:=by simpa using hy
     simp only[lM,hy'] at q
     exact h y d q
  ·rw[if_neg hk] at q; exact h y d q
theorem RM {env:dN}{x:aD}{c:aB}(hx:env.cells.lookup x=some c) : ∀ (l:List (aD×lA)) (cs:List (aD×aB)),cs.lookup x=some c->(eR env l cs).lookup x=some c
 | [],cs,h=>h
 | (n,k)::r,cs,h=>by
  refine RM hx r _ ?_
  by_cases hk:(k == fO)=true
  ·rw[if_pos hk]
   cases hc:env.cells.lookup n with
   | none=>exact h
   | some a=>
    by_cases hy:(x == n)=true
    ·have:x=n:=by simpa using hy
     subst this
     rw[hx] at hc; cases hc
     simp[lM]
    ·have hy':(x == n)=false:=by simpa using hy
     simp only[lM,hy']; exact h
  ·rw[if_neg hk]; exact h
theorem GB {env:dN}{x:aD}{c:aB}(hx:env.cells.lookup x=some c) : ∀ (l:List (aD×lA)) (cs:List (aD×aB)),(x,fO)∈l->(eR env l cs).lookup x=some c
 | [],cs,h=>by simp at h
 | (n,k)::r,cs,h=>by
  rcases cJ.mp h with e | h
  ·cases e
   refine RM hx r _ ?_
   rw[if_pos (by rfl),hx]
   simp[lM]
  ·exact GB hx r _ h
theorem RP {sc:gM}{env:dN}(x:aD):(tO sc env).names.lookup x=(sc.names.lookup x).map fun k=>if (k == fO&&env.scope.kind == .function&&env.kindOf x == some .cell)=true then NameKind.cell else k:=by
 unfold tO
 induction sc.names with
 | nil=>rfl
 | cons p r ih=>
  obtain⟨n,k⟩:=p
  show iI x ((if (k == fO&&env.scope.kind == .function&&env.kindOf n == some .cell)=true then(n,NameKind.cell) else(n,k))::List.map _ r)=_
  by_cases hy:(x == n)=true
  ·have:x=n:=by simpa using hy
   subst this
   by_cases hc:(k == fO&&env.scope.kind == .function&&env.kindOf x == some .cell)=true
   ·rw[if_pos hc]
    simp only[lM,hy,rB]
    rw[if_pos hc]
   ·rw[if_neg hc]
    simp only[lM,hy,rB]
    rw[if_neg hc]
  ·have hy':(x == n)=false:=by simpa using hy
   have e2:iI x ((n,k)::r)=iI x r:=by simp only[lM,hy']
   rw[e2]
   by_cases hc:(k == fO&&env.scope.kind == .function&&env.kindOf n == some .cell)=true
   ·rw[if_pos hc]
    simp only[lM,hy']
    exact ih
   ·rw[if_neg hc]
    simp only[lM,hy']
    exact ih
theorem lookup_mem {α:Type}{x:aD}{v:α} : ∀ {l:List (aD×α)},l.lookup x=some v->(x,v)∈l
 | [],h=>by simp at h
 | (n,k)::r,h=>by
  by_cases hy:(x == n)=true
  ·have:x=n:=by simpa using hy
   subst this
   simp[lM] at h
   subst h
   exact bY
  ·have hy':(x == n)=false:=by simpa using hy
   simp only[lM,hy'] at h
   exact cA _ (lookup_mem h)
noncomputable def gH (X:Cx)(N:List aD)(sc:gM)(cl:List (aD×aB))(C:aB)(s₀:aG)(H₀:Hp)(ex:List aB):Cx:=
 { X with N:=N,s₀:=s₀,H₀:=H₀,env:=compEnvC sc cl C X.env,outer:=X.stack,ex:=ex,fn:=fun _=>false,pn:=[],xe:=fun _ _=>False }
structure CompScope (X:Cx)(N:List aD)(cap:List (Option Nat))(sc:gM):Prop where
 kind:sc.kind = .function
 nocell : ∀ y∈sc.names,y.2 ≠ .cell
 nm : ∀ y∈sc.names,y.2 = .local->sc.names.lookup y.1=some .local
 fre : ∀ y∈sc.names,y.2 = .free->X.env.scope.names.lookup y.1=some .cell \/ X.env.scope.names.lookup y.1=some .free
 len:cap.length=N.length
 cap : ∀ (i j:Nat),cap[i]?=some (some j) -> ∃ x,N[i]?=some x/\X.N[j]?=some x/\sc.names.lookup x=some .free
noncomputable def sZ (cap:List (Option Nat))(σ:St):St:=cap.map fun o=>o.bind fun j=>(σ[j]?).join
def xZ (X:Cx)(ifs:List aS)(t:TT):Prop:=
 ∀ (pins:List (aB×aY)) (s:aG) (σ:St) (H:Hp) (Q:Bool->Hp->Prop),Inv X pins σ H s->t σ H Q ->
  aO (aP X.prog X.w) X.A (forIn ifs true fun c r=>if r=true then do let ok ← qV c X.env (bI c X.env); pure (xQ ok) else pure (xQ r)) (TP X pins σ Q) X.xe s
noncomputable def XT:TT:=fun _ H Q=>Q true H
theorem Le {X:Cx}:xZ X [] XT:=fun _ _ _ H _ I h=>wpAny_tests_nil ⟨H,I,h⟩
def JT (cap:List (Option Nat))(J:It)(g:TG)(tc:TT)(te:TE)(σ:St)(H1:Hp)(Q:VK):Prop:=∀ D,H1 D=none ->
 ∃ W:Nat->Nat->List V->St->Hp->Prop,(∃ m,W 0 m [] (sZ cap σ) (upd H1 D (.lst []))) /\
  ∀ i m ys σ' H',W i m ys σ' H'->H' D=some (.lst ys)/\((J.stop i H'/\Q (.ref D) H') \/
   (J.go i H'/\ys.length<sizeLine /\ ∃ M:List V->St->Hp->Prop,(∀ zs σ2 H2,M zs σ2 H2 -> ∃ m',m'<m/\W (i+1) m' zs σ2 H2) /\ ∀ x H2,J.yld i H' x H2->g x σ' H2 fun σ3 H3=>tc σ3 H3 fun b H4=>
    if b=true then te σ3 H4 fun y H5=>H5 D=some (.lst ys)/\M (ys++[y]) σ3 (upd H5 D (.lst (ys++[y]))) else M ys σ3 H4))
noncomputable def tLC (cap:List (Option Nat))(wi:TI)(g:TG)(tc:TT)(te:TE):TE:=fun σ H Q=>wi σ H fun J H1=>JT cap J g tc te σ H1 Q
section
variable {X:Cx}{N:List aD}{cap:List (Option Nat)}{sc:gM}{pins:List (aB×aY)}{σ:St}{H:Hp}{s:aG}
theorem CompScope.cells (S:CompScope X N cap sc)(ok:X.Ok) : ∀ n,(n,fO)∈sc.names -> ∃ c,X.env.cells.lookup n=some c:=fun n hn=>ok.has n (S.fre _ hn rfl)
theorem Cd (S:CompScope X N cap sc){fp:List aB}(I:Inv X pins σ H s)(hf : ∀ b∈fp,jC X pins H b)(hl : ∀ b∈fp,b<s.heap.objs.size) :
  (gH X N sc (eR X.env sc.names []) s.heap.objs.size s H fp).Ok:=by
 have sub : ∀ x c,(eR X.env sc.names []).lookup x=some c->X.env.cells.lookup x=some c:=GG sc.names [] (fun x c e=>by simp at e)
 refine⟨I.ok.mod,?_,I.ok.glob,I.ok.blt,bX _,?_,?_,?_,I.ok.hd,I.ok.frames,.inl rfl,?_,I.bs,jM I.ok.bsz I.sz,?_,?_,I.stack,I.stkFree⟩
 ·exact S.kind
 ·intro x y c h1 h2
  exact I.ok.inj x y c (sub x c h1) (sub y c h2)
 ·intro x hx
  have hk:(tO sc X.env).names.lookup x=some .cell \/ (tO sc X.env).names.lookup x=some .free:=hx
  have hfree:sc.names.lookup x=some .free:=by
   rw[RP] at hk
   cases e:sc.names.lookup x with
   | none=>rw[e] at hk; simp at hk
   | some k=>
    rw[e] at hk
    have hm:=lookup_mem e
    have nc:=S.nocell _ hm
    simp only[rB,xG] at hk
    by_cases hc:(k == fO&&X.env.scope.kind == .function&&X.env.kindOf x == some .cell)=true
    ·have:(k == fO)=true:=by
      simp only[rJ] at hc; exact hc.1.1
     rw[show k=fO by simpa using this]
    ·rw[if_neg hc] at hk
     rcases hk with q | q
     ·exact absurd q nc
     ·rw[q]
  obtain⟨c,hc⟩:=S.cells I.ok x (lookup_mem hfree)
  exact⟨c,GB hc _ _ (lookup_mem hfree)⟩
 ·intro x c h1 _
  exact absurd (show false=true from h1) pI
 ·intro b hb
  refine⟨dA (hl b hb),fun x c e=>(hf b hb).2.2.2.2.1 x c (sub x c e)⟩
 ·intro b o e hb
  rcases(hf b hb).2.2.2.1 with z | z
  ·exact I.ok.noex b o e z
  ·exact absurd (fL (cD e) (jM I.ok.bsz z)) (kZ _)
 ·intro b hb hz
  obtain⟨_,h1,h2,_⟩:=hf b hb
  rcases cJ.mp (I.stkSub b hz) with e | e
  ·exact h1 e
  ·exact h2 e
theorem Ni (S:CompScope X N cap sc){fp:List aB}{h':aQ}{tk:Nat}(I:Inv X pins σ H s)(hf : ∀ b∈fp,jC X pins H b)(hl : ∀ b∈fp,b<s.heap.objs.size)
  (hn:h'.Ns s.heap.objs.size fun _=>none) (hk : ∀ b o,s.heap.get? b=some o->h'.get? b=some o) :
  Inv (gH X N sc (eR X.env sc.names []) s.heap.objs.size s H fp) [] (sZ cap σ) H { s with heap:=h',toks:=tk }:=by
 have sub : ∀ x c,(eR X.env sc.names []).lookup x=some c->X.env.cells.lookup x=some c:=GG sc.names [] (fun x c e=>by simp at e)
 have fr:H s.heap.objs.size=none:=I.hok.fresh (bX _)
 refine⟨Cd S I hf hl,rfl,I.bare,Un.kept hk,⟨_,hn,fun i x v e1 e2 e3=>?_⟩,fun x c e=>?_,fr,fun x c e=>I.freeC x c (sub x c e),fun p hp=>by simp[gH] at hp,I.hok.kept hk,?_⟩
 ·have e2':(cap.map fun o=>o.bind fun j=>(σ[j]?).join)[i]?=some (some v):=e2
  rw[gZ] at e2'
  cases hc:cap[i]? with
  | none=>rw[hc] at e2'; simp at e2'
  | some o=>
   rw[hc] at e2'
   simp only[rB,xG] at e2'
   cases o with
   | none=>simp at e2'
   | some j=>
    have e2':(σ[j]?).join=some v:=e2'
    have ej:σ[j]?=some (some v):=by
     cases q:σ[j]? with
     | none=>rw[q] at e2'; simp at e2'
     | some z=>rw[q] at e2'; simp at e2'; rw[e2']
    obtain⟨y,n1,n2,fr1⟩:=S.cap i j hc
    have exy:x=y:=eO (e1.symm.trans n1)
    subst exy
    have hmem:=lookup_mem fr1
    have hkind:=S.fre _ hmem rfl
    obtain⟨m,_,hlk⟩:=I.loc
    obtain⟨u,r,l⟩:=hlk j x v n2 ej (.inr hkind)
    refine⟨u,r,.inr ⟨?_,?_⟩⟩
    ·show(tO sc X.env).names.lookup x=some .cell \/ (tO sc X.env).names.lookup x=some .free
     rw[RP,fr1]
     simp only[rB,xG]
     by_cases hc:(fO == fO&&X.env.scope.kind == .function&&X.env.kindOf x == some .cell)=true
     ·exact .inl (if_pos hc)
     ·exact .inr (if_neg hc)
    ·rcases l with⟨k1,_⟩ | ⟨_,c,hc1,hcell⟩
     ·exfalso
      have k1':X.env.scope.names.lookup x=some .local:=k1
      rcases hkind with q | q
      ·rw[k1'] at q; cases q
      ·rw[k1'] at q; cases q
     ·obtain⟨oc,h1,h2⟩:=hcell
      exact⟨c,GB hc1 _ _ hmem,oc,hk _ _ h1,h2⟩
 ·obtain⟨v,oc,h1,h2⟩:=I.cell x c (sub x c e)
  exact⟨v,oc,hk _ _ h1,h2⟩
 ·show(cap.map _).length=N.length
  rw[cP,S.len]
theorem comp_back {fp:List aB}{cl:List (aD×aB)}{σ':St}{H':Hp}{s':aG}{pl:List (aB×aY)}(I:Inv X pins σ H s)(hf : ∀ b∈fp,jC X pins H b)
  (I':Inv (gH X N sc cl s.heap.objs.size s H fp) pl σ' H' s'):Inv X pins σ H' s':=
 I.call' I'.os (show Un (frs X.stack) fp H H' s.heap s'.heap from I'.base) I'.hok I'.bare fun b hb=>⟨(hf b hb).2.2.2.1,(hf b hb).2.1,(hf b hb).2.2.2.2.1,(hf b hb).2.2.2.2.2⟩
end
section
variable {X:Cx}{N:List aD}{cap:List (Option Nat)}{sc:gM}{elt iter tg:aS}{ifs:List aS}{pos:bL}{wi:TI}{g:TG}{tc:TT}{te:TE}
def Block (X:Cx)(N:List aD)(sc:gM)(tg elt:aS)(ifs:List aS)(g:TG)(tc:TT)(te:TE):Prop:=
 ∀ (cl:List (aD×aB)) (C:aB) (s₀:aG) (H₀:Hp) (ex:List aB),PG (gH X N sc cl C s₀ H₀ ex) tg g/\xZ (gH X N sc cl C s₀ H₀ ex) ifs tc/\PE (gH X N sc cl C s₀ H₀ ex) elt te
theorem MK {pins:List (aB×aY)}{σ:St}{H:Hp}{s:aG}{RR:aE->aB->nO->aG->Prop}{E:aE->aG->Prop}(hc:X.calm=true)(S:CompScope X N cap sc)(hb:Block X N sc tg elt ifs g tc te)
  {it:aB} {fp:List aB} {tn:Nat->aQ->Prop} {J:It} {Q:VK} (I:Inv X pins σ H s) (T:Turn X.prog X.w X.K tg J fp it tn) (st:tn 0 s.heap) (hf : ∀ b∈fp,jC X pins H b)
  (q:JT cap J g tc te σ H Q)
  (hRR : ∀ (D:aB) (s₀:aG) (H₀:Hp) (σ':St) (H':Hp) (s':aG),Inv X pins σ H₀ s₀->(∀ b∈fp,jC X pins H₀ b)->Inv (gH X N sc (eR X.env sc.names []) s₀.heap.objs.size s₀ H₀ fp) [] σ' H' s'->Q (.ref D) H' ->
   RR (.ref D) s₀.heap.objs.size (.ok .next) s') :
  aO (aP X.prog X.w) X.A (newList []) (fun acc s₃=>aO (aP X.prog X.w) X.A (newFunctionEnv sc X.env.globals (eR X.env sc.names []) [] X.env.qual none .none (some X.env)) (fun cenv s₄=>
   iW (aP X.prog X.w) X.A (.compStart (.ListComp elt [⟨tg,iter,ifs,0⟩] sc pos) 0 (.ref it) acc { cenv with scope:=tO sc X.env }) (RR acc cenv.locals) s₄) E s₃) E s:=by
 have hl : ∀ b∈fp,b<s.heap.objs.size:=fun b hb=>by
  obtain⟨o,e,_⟩:=T.obj 0 _ st b hb
  exact cD e
 refine pD (wpAny_newFunctionEnv S.nocell (by intro y hy; simp at hy) (fun h₁ hns₁ hsb₁=>?_) S.kind)
 dsimp only at hns₁ hsb₁ ⊢
 have I0:Inv X pins σ (upd H s.heap.objs.size (.lst [])) { s with heap:=s.heap.push { cls:=.type "list",data:=.seq ([]:List aE).toArray },toks:=s.toks }:=I.lnew (ys:=[]) .nil (by simp)
 obtain⟨W,⟨m0,w0⟩,turn⟩:=q s.heap.objs.size I.fresh
 generalize hs0:({ s with heap:=s.heap.push { cls:=.type "list",data:=.seq ([]:List aE).toArray },toks:=s.toks }:aG)=s0 at I0
 have hh:s.heap.push { cls:=.type "list",dict:=none,data:=.seq ([]:List aE).toArray }=s0.heap:=by rw[← hs0]
 have ht0:s0.toks=s.toks:=by rw[← hs0]
 have hg0:s0.gens=s.gens/\s0.drawn=s.drawn/\s0.os=s.os:=by rw[← hs0]; exact⟨rfl,rfl,rfl⟩
 rw[hh] at hns₁ hsb₁ ⊢
 have old0 : ∀ b o,s.heap.get? b=some o->s0.heap.get? b=some o:=fun b o e=>by rw[← hh]; exact cN _ e
 have old1 : ∀ b o,s0.heap.get? b=some o->h₁.get? b=some o:=fun b o e=>hsb₁.extBut b o (dA (cD e)) (cN _ e)
 have hl0 : ∀ b∈fp,b<s0.heap.objs.size:=fun b hb=>by
  obtain⟨o,e,_⟩:=T.obj 0 _ st b hb
  exact cD (old0 b o e)
 have hf0 : ∀ b∈fp,jC X pins (upd H s.heap.objs.size (.lst [])) b:=fun b hb=>by
  refine⟨?_,(hf b hb).2⟩
  rw[bN (dA (hl b hb))]
  exact(hf b hb).1
 have I1:Inv (gH X N sc (eR X.env sc.names []) s0.heap.objs.size s0 (upd H s.heap.objs.size (.lst [])) fp) [] (sZ cap σ) (upd H s.heap.objs.size (.lst [])) { s0 with heap:=h₁,toks:=s.toks+0 }:=
  Ni S I0 hf0 hl0 hns₁ old1
 obtain⟨pg,pf,pe⟩:=hb (eR X.env sc.names []) s0.heap.objs.size s0 (upd H s.heap.objs.size (.lst [])) fp
 have st1:tn 0 h₁:=T.keep _ _ _ st fun b hb o e=>old1 b o (old0 b o e)
 have stat : ∀ {H':Hp},(∀ b∈fp,H' b=none) -> ∀ b∈fp,jC (gH X N sc (eR X.env sc.names []) s0.heap.objs.size s0 (upd H s.heap.objs.size (.lst [])) fp) [] H' b:=fun hn b hb=>
  ⟨hn b hb,(I1.ok.exf b hb).1,I1.ok.exfs b hb,.inl hb,(I1.ok.exf b hb).2,fun p hp=>by simp[gH] at hp⟩
 have loop : ∀ s3:aG,s3 = { s0 with heap:=h₁,toks:=s.toks+0 } ->
   iW (aP X.prog X.w) X.A (.compLoop (.ListComp elt [⟨tg,iter,ifs,0⟩] sc pos) 0 (.ref it) (.ref s.heap.objs.size) (compEnvC sc (eR X.env sc.names []) s0.heap.objs.size X.env)) (RR (.ref s.heap.objs.size) s0.heap.objs.size) s3:=by
  rintro s3 rfl
  refine Fh (fun n s'=>∃ i ys σ' H',Inv (gH X N sc (eR X.env sc.names []) s0.heap.objs.size s0 (upd H s.heap.objs.size (.lst [])) fp) [] σ' H' s'/\tn i s'.heap/\(∀ b∈fp,H' b=none)/\W i n ys σ' H') ?_ m0
   ⟨0,[],sZ cap σ,_,I1,st1,fun b hb=>(hf0 b hb).1,w0⟩
  rintro n s3 ⟨i,ys,σ3,H3,I3,st3,fr3,w3⟩
  obtain⟨hD,h3⟩:=turn i n ys σ3 H3 w3
  rcases h3 with⟨stop,qn⟩ | ⟨go,hlen,M,hM,step⟩
  ·refine thn (T.done (gH X N sc (eR X.env sc.names []) s0.heap.objs.size s0 (upd H s.heap.objs.size (.lst [])) fp) rfl rfl rfl hc i [] s3 σ3 H3 (fun _ _=>False) I3 (stat fr3) st3 stop) fun r s4 gh=>?_
   obtain⟨hr,I4⟩:=gh
   subst hr
   exact hRR _ s0 _ σ3 H3 s4 I0 hf0 I4 qn
  ·refine thn (T.item (gH X N sc (eR X.env sc.names []) s0.heap.objs.size s0 (upd H s.heap.objs.size (.lst [])) fp) rfl rfl rfl hc i [] s3 σ3 H3 (fun _ _=>False) I3 (stat fr3) st3 go) fun r s4 gh=>?_
   obtain⟨u,hr,h4⟩:=gh
   subst hr
   refine thn h4 fun _ s5 gh=>?_
   obtain⟨x,H5,I5,r5,y5,st5,fr5⟩:=gh
   have I5':=I5.pinned (stat fr5) (T.obj _ _ st5)
   refine thn (pg _ s5 σ3 H5 x u _ I5' r5 (step x H5 y5)) fun _ s6 gh=>?_
   obtain⟨σ6,H6,I6,q6⟩:=gh
   refine thn (pf _ s6 σ6 H6 _ I6 q6) fun b s7 gh=>?_
   obtain⟨H7,I7,q7⟩:=gh
   have again : ∀ {s8:aG} {H8:Hp} {zs:List V},Inv (gH X N sc (eR X.env sc.names []) s0.heap.objs.size s0 (upd H s.heap.objs.size (.lst [])) fp) ([]++uW fp s5.heap) σ6 H8 s8->M zs σ6 H8 ->
     ∃ m,m<n /\ ∃ i ys σ' H',Inv (gH X N sc (eR X.env sc.names []) s0.heap.objs.size s0 (upd H s.heap.objs.size (.lst [])) fp) [] σ' H' s8/\tn i s8.heap/\(∀ b∈fp,H' b=none)/\W i m ys σ' H':=fun {s8 H8 zs} I8 w8=>by
    obtain⟨m',hm,w8⟩:=hM _ _ _ w8
    refine⟨m',hm,i+1,zs,σ6,H8,I8.unpinned,T.keep _ _ _ st5 fun b hb o e=>(I8.pin (b,o) (mK _ (mK _ (zP hb e)))).1,fun b hb=>?_,w8⟩
    obtain⟨o,e,d⟩:=T.obj _ _ st5 b hb
    exact(I8.pin (b,o) (mK _ (mK _ (zP hb e)))).2.1
   cases b with
   | false=>
    rw[if_neg pI] at q7 ⊢
    exact again I7 q7
   | true=>
    rw[if_pos rfl] at q7 ⊢
    refine thn (pe _ s7 σ6 H7 _ I7 q7) fun v s8 gh=>?_
    obtain⟨y,H8,I8,r8,hD8,w8⟩:=gh
    refine thn (QI _ s8 σ6 H8 (.ref s.heap.objs.size) [y] (.ref s.heap.objs.size) [v] (fun _ H9=>H9=upd H8 s.heap.objs.size (.lst (ys++[y]))) I8 rfl (.cons r8 .nil) ⟨_,ys,y,rfl,rfl,hD8,hlen,rfl⟩) fun _ s9 gh=>?_
    obtain⟨_,H9,I9,_,e9⟩:=gh
    subst e9
    exact again I9 w8
 have e3:({ s with heap:=h₁,toks:=s.toks+([]:List (aD×aE)).length }:aG) = { s0 with heap:=h₁,toks:=s.toks+0 }:=by
  rw[← hs0]; rfl
 have fin:=codeAny_compStart_list (loop _ rfl) (T.self X.A 0 _ _ _ st1 (loop _ rfl))
 rw[← e3] at fin
 exact fin
theorem YA (hc:X.calm=true)(S:CompScope X N cap sc)(hi:PI X tg iter wi)(hb:Block X N sc tg elt ifs g tc te)(hs : ∀ x,qW iter X.env x=pure x:=by intro _; rfl) :
  PE X (.ListComp elt [⟨tg,iter,ifs,0⟩] sc pos) (tLC cap wi g tc te):=by
 intro pins s σ H Q I h
 rw[eval_ListComp]
 refine wpAny_comprehension_free rfl hs (RU (S.cells I.ok)) S.kind S.nm (thn (hi pins s σ H _ I h) fun v s1 h1=>thn h1 fun itv s2 h2=>?_)
 obtain⟨it,fp,tn,J,H2,e,I2,T,st2,f2,q2⟩:=h2
 subst e
 refine MK hc S hb I2 T st2 f2 q2 ?_
 intro D s₀ H₀ σ' H' s' I0 f0 I' qD
 obtain⟨m,hn,_⟩:=id I'.loc
 have IX:=comp_back I0 f0 I'
 refine⟨m,hn,fun h' hs'=>⟨.ref D,H',?_,rfl,qD⟩⟩
 exact IX.turned (fun b o hb e=>(hs'.2 b hb).trans e) I'.free (rC I0.lt) (.inr I0.sz) (fun x c e z=>by
  obtain⟨v,oc,h1,_⟩:=I0.cell x c e
  exact absurd (cD h1) (by rw[z]; exact kZ _)) fun p hp z=>by
   have h1:=(I0.pin p hp).1
   exact absurd (cD h1) (by rw[z]; exact kZ _)
theorem Nf {i:Nat}{x:aD}{px spos:bL}(hc:X.calm=true)(hN:X.N.Nodup)(hi':X.N[i]?=some x)(hx:lP X.env.scope x)(S:CompScope X N cap sc)(hi:PI X tg iter wi)(hb:Block X N sc tg elt ifs g tc te)
  (hsw:mG (.ListComp elt [⟨tg,iter,ifs,0⟩] sc pos) (some (.Name x px)) spos.line X.env=pure true:=by rfl)
  (hs : ∀ x,qW iter X.env x=pure x:=by intro _; rfl) (hf:X.fn x=true \/ X.env.scope.names.lookup x=some .local:=by first | exact .inl rfl | exact .inr rfl | assumption) :
  PS X (.Assign [.Name x px] (.ListComp elt [⟨tg,iter,ifs,0⟩] sc pos) spos) (xW (tLC cap wi g tc te) (uM i)):=by
 intro pins s σ H D I h
 rw[exec_Assign_Name_used _ _ _ _ hsw]
 refine aK (wpAny_standAt (aK ?_))
 refine aK (iV (wpAny_comprehension_free rfl hs (RU (S.cells I.ok)) S.kind S.nm
  (thn (hi pins s σ H _ I h) fun v s1 h1=>thn h1 fun itv s2 h2=>?_)) (fun _ s' hq=>aZ (aZ hq)) fun _ _ e=>e)
 obtain⟨it,fp,tn,J,H2,e,I2,T,st2,f2,q2⟩:=h2
 subst e
 refine MK hc S hb I2 T st2 f2 q2 ?_
 intro D' s₀ H₀ σ' H' s' I0 f0 I' qD
 obtain⟨m,hn,_⟩:=id I'.loc
 have IX:=comp_back I0 f0 I'
 have cellNe : ∀ x c,X.env.cells.lookup x=some c->c≠s₀.heap.objs.size:=fun x c e z=>by
  obtain⟨v,oc,h1,_⟩:=I0.cell x c e
  exact absurd (cD h1) (by rw[z]; exact kZ _)
 refine wpAny_assign_Name (OW IX hN hi' hx (show RelV (.ref D') (.ref D') from rfl) (fun s3 I3 ch=>?_) hf)
 obtain⟨a,sb,ha⟩:=ch
 have hne:s₀.heap.objs.size≠a:=by
  rcases ha with z | z
  ·rw[z]; exact rC I0.lt
  ·exact fun q=>cellNe x a z q.symm
 refine⟨m,Heap.Ns.sameBut hn sb hne,fun h' hs'=>⟨_,H',?_,qD⟩⟩
 exact I3.turned (fun b o hb e=>(hs'.2 b hb).trans e) I'.free (rC I0.lt) (.inr I0.sz) cellNe fun p hp z=>by
  have h1:=(I0.pin p hp).1
  exact absurd (cD h1) (by rw[z]; exact kZ _)
end
noncomputable def LR (out:List (aD×lA))(XN N:List aD)(cap:List (Option Nat))(ns:List (aD×lA)):Bool:=
 ns.all (fun y=>y.2 != .cell)&&ns.all (fun y=>y.2 != .local||ns.lookup y.1 == some .local)&&ns.all (fun y=>y.2 != .free||out.lookup y.1 == some .cell||out.lookup y.1 == some .free) &&
 cap.length == N.length&&(cap.zip N).all (fun p=>match p.1 with | none=>true | some j=>XN[j]? == some p.2&&ns.lookup p.2 == some .free)
theorem oV {X:Cx}{N:List aD}{cap:List (Option Nat)}{sc:gM}{out:List (aD×lA)}{XN:List aD}(h1:X.env.scope.names=out)(h2:X.N=XN)(chk:LR out XN N cap sc.names=true)(hk:sc.kind = .function):CompScope X N cap sc:=by
 unfold LR at chk
 simp only[rJ,iA,bne_iff_ne,ne_eq,Bool.or_eq_true,beq_iff_eq] at chk
 obtain⟨⟨⟨⟨c1,c2⟩,c3⟩,c4⟩,c5⟩:=chk
 refine⟨hk,c1,fun y hy e=>?_,fun y hy e=>?_,c4,fun i j e=>?_⟩
 ·rcases c2 y hy with q | q
  ·exact absurd e q
  ·exact q
 ·rw[h1]
  rcases c3 y hy with(q | q) | q
  ·exact absurd e q
  ·exact .inl q
  ·exact .inr q
 ·have hi:=(fI.mp e).1
  have hi':i<N.length:=by omega
  have hm:(cap[i],N[i])∈cap.zip N:=by
   have:(cap.zip N)[i]?=some (cap[i],N[i]):=by
    rw[List.getElem?_zip_eq_some]
    exact⟨lC hi,lC hi'⟩
   exact rD this
  have q:=c5 _ hm
  have ec:cap[i]=some j:=by
   rw[lC hi] at e
   exact eO e
  rw[ec] at q
  simp only[rJ,beq_iff_eq] at q
  exact⟨N[i],lC hi',by rw[h2]; exact q.1,q.2⟩
abbrev Ext (H H':Hp):Prop:=∀ b o,H b=some o->H' b=some o
theorem Ext.refl {H:Hp}:Ext H H:=fun _ _ e=>e
theorem Ext.trans {H H1 H2:Hp}(a:Ext H H1)(b:Ext H1 H2):Ext H H2:=fun x o e=>b x o (a x o e)
theorem Ext.new {H:Hp}{p:aB}{o:HO}(n:H p=none):Ext H (upd H p o):=fun b u e=>by
 rw[bN (gK e n)]; exact e
theorem Ext.rd {H H':Hp}(x:Ext H H'){a:aB}{u:HO}(r:Rd H a u):Rd H' a u:=by
 rcases r with r | ⟨o,r⟩
 ·exact .inl (x _ _ r)
 ·exact .inr ⟨o,x _ _ r⟩
theorem Ext.sqL {K:aH}{H H':Hp}(x:Ext H H'){a:aB}{xs:List V}(h:SqL K H a xs):SqL K H' a xs:=h.imp x.rd id
theorem Ext.none {H H':Hp}(x:Ext H H'){a:aB}(h:H' a=IM):H a=IM:=by
 cases e:H a with
 | none=>rfl
 | some o=>rw[x a o e] at h; cases h
theorem Ext.ty {K:aH}{H H':Hp}(x:Ext H H'){v:V}{t:aE}(h:TyOf K H v t):TyOf K H' v t:=by
 cases h with
 | non=>exact .non
 | bl b=>exact .bl b
 | int i=>exact .int i
 | str y=>exact .str y
 | flt y=>exact .flt y
 | lst e=>exact .lst (x _ _ e)
 | frz e=>exact .frz (x _ _ e)
 | tup e=>exact .tup (x _ _ e)
 | dK e=>exact .dK (x _ _ e)
 | dT e=>exact .dT (x _ _ e)
 | ins e cl ha hn htk hm=>exact .ins (x _ _ e) cl ha hn htk hm
open Classical in
noncomputable def hid (H:Hp)(P:aB->Prop):Hp:=fun a=>if P a then none else H a
theorem Ab3 {H:Hp}{P:aB->Prop}{a:aB}{o:HO}:hid H P a=some o ↔ ¬ P a/\H a=some o:=by
 unfold hid
 by_cases h:P a <;> simp[h]
theorem dZ {H:Hp}{P:aB->Prop}{a:aB}{o:HO}(n : ¬ P a)(e:H a=some o):hid H P a=some o:=Ab3.mpr ⟨n,e⟩
theorem Aax {H:Hp}{P:aB->Prop}:Ext (hid H P) H:=fun _ _ e=>(Ab3.mp e).2
theorem bO {H H':Hp}{P:aB->Prop}(x:Ext H H'):Ext (hid H P) (hid H' P):=fun b o e=>by
 obtain⟨n,e⟩:=Ab3.mp e
 exact dZ n (x b o e)
theorem fP {H:Hp}{P P':aB->Prop}(s : ∀ a,P' a->P a):Ext (hid H P) (hid H P'):=fun b o e=>by
 obtain⟨n,e⟩:=Ab3.mp e
 exact dZ (fun q=>n (s b q)) e
inductive DQ where
 | inl (kvs:Nat×List (aN×V)) | inr (ts:Nat×List (List aA×V)) | ins (C dx:aB) (fs:List (aD×V))
noncomputable def dO:DQ->HO
 | .inl kvs=>.dK kvs.1 kvs.2
 | .inr ts=>.dT ts.1 ts.2
 | .ins C dx fs=>.ins C dx fs
def Hid (P:aB->Prop)(H:Hp):Prop:=∀ a,P a->(∃ xs,H a=some (.lst xs)) \/ ∃ q:DQ,H a=some (dO q)
theorem Hid.ext {P:aB->Prop}{H H':Hp}(h:Hid P H)(x:Ext H H'):Hid P H':=fun a p=>(h a p).imp (fun⟨xs,e⟩=>⟨xs,x _ _ e⟩) fun⟨xs,e⟩=>⟨xs,x _ _ e⟩
theorem Hid.new {P:aB->Prop}{H:Hp}(h:Hid P H){a:aB}(n:H a=none) : ¬ P a:=fun p=>by
 rcases h a p with⟨xs,e⟩ | ⟨xs,e⟩ <;> rw[n] at e <;> cases e
theorem Hid.tup {P:aB->Prop}{H:Hp}(h:Hid P H){a:aB}{xs:List V}(e:H a=some (.tup xs)):hid H P a=some (.tup xs):=dZ (fun p=>by
 rcases h a p with⟨ys,e2⟩ | ⟨ys,e2⟩ <;> rw[e] at e2 <;> first | cases e2 | (cases ys <;> simp[dO] at e2)) e
abbrev orL (P:aB->Prop)(F:List aB):aB->Prop:=fun a=>P a \/ a∈F
theorem LU {P:aB->Prop}:orL P []=P:=by
 funext a
 simp[orL]
noncomputable def kD:aN->aA
 | .inl i=>.int i
 | .inr x=>.str x
noncomputable def JU (a:aB)(kvs:Nat×List (V×V)):HO:=.ext fun h=>kvs.2.length≤sizeLine/\(a == gW)=false /\ ∃ o es,h.get? a=some o/\o.ExactDict/\o.data = .dict es kvs.1/\dI (fun(p:V×V) (e:mM)=>RelV p.1 e.key/\RelV p.2 e.val) kvs.2 es.toList
noncomputable def cX (K:aH)(c:aD):Option aE:=(cI K bU c).join
def Au4 (x:aB)(cls:aE)(h:aQ):Prop:=∃ o,h.get? x=some o/\o.cls=cls /\ ∃ vs,o.data = .fields vs
noncomputable def exO (cls:aE)(a:aB):HO:=.ext (Au4 a cls)
def A3m (K:aH)(H:Hp)(kds:List (aA×aA))(a:aB):Prop:=(∃ c cls,kds=[(.none,.str c),(.none,.none)]/\cX K c=some cls/\H a=some (exO cls a)) \/ ∃ c,kds=[(.none,.str c),(.none,.bool false)]/\cX K c=some (.ref a)
theorem A3m.mark {K:aH}{H:Hp}{kds:List (aA×aA)}{a:aB}(h:A3m K H kds a) : ∃ c m,kds=[(.none,.str c),(.none,m)]:=by
 rcases h with⟨c,_,e,_⟩ | ⟨c,e,_⟩
 ·exact⟨c,_,e⟩
 ·exact⟨c,_,e⟩
theorem A3m.ext {K:aH}{H H':Hp}(x:Ext H H'){kds:List (aA×aA)}{a:aB}(h:A3m K H kds a):A3m K H' kds a:=h.imp (fun⟨c,cls,e,h1,h2⟩=>⟨c,cls,e,h1,x _ _ h2⟩) id
mutual
def Aa6 (K:aH)(H:Hp):aA->V->Prop
 | .none,v=>v = .non
 | .bool b,v=>v = .bl b
 | .int i,v=>v = .int i
 | .str x,v=>v = .str x/\dE (.str x)=true
 | .list ds,v=>∃ a xs,v = .ref a/\SqL K H a xs/\Aar K H ds xs
 | .tuple ds,v=>∃ a xs,v = .ref a/\H a=some (.tup xs)/\Aar K H ds xs
 | .dict kds,v=>∃ a,v = .ref a/\((∃ kvs:Nat×List (aN×V),H a=some (.dK kvs.1 kvs.2)/\Abp K H kds kvs.2) \/ (∃ ts:Nat×List (List aA×V),H a=some (.dT ts.1 ts.2)/\Avk K H kds ts.2) \/ (∃ xs,H a=some (JU a xs)/\Avr K H kds xs.2) \/ A3m K H kds a \/ Awz K H kds a)
def Aar (K:aH)(H:Hp):List aA->List V->Prop
 | [],xs=>xs=[]
 | d::ds,xs=>∃ x r,xs=x::r/\Aa6 K H d x/\Aar K H ds r
def Abp (K:aH)(H:Hp):List (aA×aA)->List (aN×V)->Prop
 | [],xs=>xs=[]
 | (k,d)::ds,xs=>∃ k' x r,xs=(k',x)::r/\k=kD k'/\Aa6 K H d x/\Abp K H ds r
def Abx (K:aH)(H:Hp):List (aA×aA)->List (List aA×V)->Prop
 | [],xs=>xs=[]
 | (k,d)::ds,xs=>∃ k' x r,xs=(k',x)::r/\(k = .tuple k'/\bP k'=true)/\Aa6 K H d x/\Abx K H ds r
def Avk (K:aH)(H:Hp):List (aA×aA)->List (List aA×V)->Prop
 | [],_=>False
 | (k,_)::ds,xs=>k = .none/\Abx K H ds xs
def Avr (K:aH)(H:Hp):List (aA×aA)->List (V×V)->Prop
 | [],_=>False
 | (k,m)::ds,xs=>k = .none/\ds=[(.none,.none)]/\Aqq K H m xs
def Aqq (K:aH)(H:Hp):aA->List (V×V)->Prop
 | .list es,xs=>Aij K H es xs
 | _,_=>False
def Aij (K:aH)(H:Hp):List aA->List (V×V)->Prop
 | [],xs=>xs=[]
 | d::ds,xs=>∃ x r,xs=x::r/\Al0 K H d x/\Aij K H ds r
def Al0 (K:aH)(H:Hp):aA->V×V->Prop
 | .tuple ds,x=>Aar K H ds [x.1,x.2]
 | _,_=>False
def Awz (K:aH)(H:Hp):List (aA×aA)->aB->Prop
 | [],_=>False
 | (k,m)::ds,a=>k = .none /\ ∃ c C dx fs,m = .str c/\cX K c=some (.ref C)/\H a=some (.ins C dx fs)/\Ahv K H ds fs
def Ahv (K:aH)(H:Hp):List (aA×aA)->List (aD×V)->Prop
 | [],fs=>fs=[]
 | (k,m)::ds,fs=>∃ f x r,fs=(f,x)::r/\k = .none/\Al0 K H m (.str f,x)/\Ahv K H ds r
end
noncomputable def plK:List (aA×aA)->Bool
 | (.none,_)::_=>false
 | _=>true
section
variable {K:aH}{H H':Hp}
theorem Abg {v:V}:Aa6 K H .none v↔v = .non:=by simp[Aa6]
theorem Aak {b:Bool}{v:V}:Aa6 K H (.bool b) v↔v = .bl b:=by simp[Aa6]
theorem Aao {b:Int}{v:V}:Aa6 K H (.int b) v↔v = .int b:=by simp[Aa6]
theorem Aaq {b:aD}{v:V}:Aa6 K H (.str b) v↔v = .str b/\dE (.str b)=true:=by simp only[Aa6]
theorem Abf {ds:List aA}{v:V}:Aa6 K H (.list ds) v ↔ ∃ a xs,v = .ref a/\SqL K H a xs/\Aar K H ds xs:=by simp only[Aa6]
theorem Aaw {ds:List aA}{v:V}:Aa6 K H (.tuple ds) v ↔ ∃ a xs,v = .ref a/\H a=some (.tup xs)/\Aar K H ds xs:=by simp only[Aa6]
theorem Abl {ds:List (aA×aA)}{v:V}:Aa6 K H (.dict ds) v ↔ ∃ a,v = .ref a/\((∃ kvs:Nat×List (aN×V),H a=some (.dK kvs.1 kvs.2)/\Abp K H ds kvs.2) \/ (∃ ts:Nat×List (List aA×V),H a=some (.dT ts.1 ts.2)/\Avk K H ds ts.2) \/ (∃ xs,H a=some (JU a xs)/\Avr K H ds xs.2) \/ A3m K H ds a \/ Awz K H ds a):=by simp only[Aa6]
theorem Ahp {k m:aA}{ds:List (aA×aA)}{a:aB}:Awz K H ((k,m)::ds) a↔k = .none /\ ∃ c C dx fs,m = .str c/\cX K c=some (.ref C)/\H a=some (.ins C dx fs)/\Ahv K H ds fs:=by simp only[Awz]
theorem Akd {fs:List (aD×V)}:Ahv K H [] fs↔fs=[]:=by simp[Ahv]
theorem Adf {k m:aA}{ds:List (aA×aA)}{fs:List (aD×V)}:Ahv K H ((k,m)::ds) fs ↔ ∃ f x r,fs=(f,x)::r/\k = .none/\Al0 K H m (.str f,x)/\Ahv K H ds r:=by simp only[Ahv]
theorem OP : ∀ {ds:List (aA×aA)} {fs:List (aD×V)},Ahv K H ds fs -> ∀ p∈ds,p.1 = .none
 | [],_,_,p,m=>by simp at m
 | (k,d)::ds,fs,h,p,m=>by
  obtain⟨_,_,_,_,rfl,_,h2⟩:=Adf.mp h
  rcases cJ.mp m with rfl | m
  ·rfl
  ·exact OP h2 p m
theorem yQ {ds:List (aA×aA)}{a:aB}(h:A3m K H ds a \/ Awz K H ds a) : ∃ c r,ds=(.none,.str c)::r /\ ∀ p∈r,p.1 = .none:=by
 rcases h with h | h
 ·obtain⟨c,m,rfl⟩:=h.mark
  exact⟨c,_,rfl,fun p m=>by rw[dB.mp m]⟩
 ·cases ds with
  | nil=>simp[Awz] at h
  | cons p r=>
   obtain⟨k,m⟩:=p
   obtain⟨rfl,c,_,_,_,rfl,_,_,h2⟩:=Ahp.mp h
   exact⟨c,r,rfl,OP h2⟩
theorem Agx {k m:aA}{ds:List (aA×aA)}{xs:List (V×V)}:Avr K H ((k,m)::ds) xs↔k = .none/\ds=[(.none,.none)]/\Aqq K H m xs:=by simp only[Avr]
theorem Bz {m:aA}{xs:List (V×V)}(h:Aqq K H m xs) : ∃ es,m = .list es/\Aij K H es xs:=by
 cases m with
 | list es=>exact⟨es,rfl,by simpa only[Aqq] using h⟩
 | _=>simp[Aqq] at h
theorem As6 {xs:List (V×V)}:Aij K H [] xs↔xs=[]:=by simp[Aij]
theorem Aps {d:aA}{ds:List aA}{xs:List (V×V)}:Aij K H (d::ds) xs ↔ ∃ x r,xs=x::r/\Al0 K H d x/\Aij K H ds r:=by simp only[Aij]
theorem sO {ds:List (aA×aA)}{xs:List (V×V)}(h:Avr K H ds xs) : ∃ es,ds=[(.none,.list es),(.none,.none)]/\Aij K H es xs:=by
 cases ds with
 | nil=>simp[Avr] at h
 | cons p r=>
  obtain⟨k,m⟩:=p
  obtain⟨rfl,rfl,h1⟩:=Agx.mp h
  obtain⟨es,rfl,h2⟩:=Bz h1
  exact⟨es,rfl,h2⟩
theorem Abz {xs:List (List aA×V)}:Abx K H [] xs↔xs=[]:=by simp[Abx]
theorem Aa2 {k d:aA}{ds:List (aA×aA)}{xs:List (List aA×V)}:Abx K H ((k,d)::ds) xs ↔ ∃ k' x r,xs=(k',x)::r/\(k = .tuple k'/\bP k'=true)/\Aa6 K H d x/\Abx K H ds r:=by simp only[Abx]
theorem Ac1 {k m:aA}{ds:List (aA×aA)}{xs:List (List aA×V)}:Avk K H ((k,m)::ds) xs↔k = .none/\Abx K H ds xs:=by simp only[Avk]
theorem Ao {ds:List (aA×aA)}{xs:List (List aA×V)}(hk:plK ds=true) : ¬ Avk K H ds xs:=by
 cases ds with
 | nil=>simp[Avk]
 | cons p r=>
  obtain⟨k,d⟩:=p
  intro h
  rw[(Ac1.mp h).1] at hk
  simp[plK] at hk
theorem yW {ds:List (aA×aA)}{v:V}(hk:plK ds=true):Aa6 K H (.dict ds) v ↔ ∃ a,∃ kvs:Nat×List (aN×V),v = .ref a/\H a=some (.dK kvs.1 kvs.2)/\Abp K H ds kvs.2:=by
 rw[Abl]
 constructor
 ·rintro⟨a,e,⟨kvs,h,r⟩ | ⟨ts,h,r⟩ | ⟨xs,h,r⟩ | r⟩
  case inr.inr.inr=>
   obtain⟨_,_,rfl,_⟩:=yQ r
   simp[plK] at hk
  ·exact⟨a,kvs,e,h,r⟩
  ·exact absurd r (Ao hk)
  ·obtain⟨es,rfl,_⟩:=sO r
   simp[plK] at hk
 ·rintro⟨a,kvs,e,h,r⟩
  exact⟨a,e,.inl ⟨kvs,h,r⟩⟩
theorem FO {ds:List (aA×aA)}{v:V}{a:aB}{kvs:Nat×List (aN×V)}(e:v = .ref a)(h:H a=some (.dK kvs.1 kvs.2))(r:Abp K H ds kvs.2):Aa6 K H (.dict ds) v:=Abl.mpr ⟨a,e,.inl ⟨kvs,h,r⟩⟩
theorem Aan {xs:List V}:Aar K H [] xs↔xs=[]:=by simp[Aar]
theorem Aad {d:aA}{ds:List aA}{xs:List V}:Aar K H (d::ds) xs ↔ ∃ x r,xs=x::r/\Aa6 K H d x/\Aar K H ds r:=by simp only[Aar]
theorem Abn {xs:List (aN×V)}:Abp K H [] xs↔xs=[]:=by simp[Abp]
theorem Aay {k d:aA}{ds:List (aA×aA)}{xs:List (aN×V)}:Abp K H ((k,d)::ds) xs ↔ ∃ k' x r,xs=(k',x)::r/\k=kD k'/\Aa6 K H d x/\Abp K H ds r:=by simp only[Abp]
theorem oU {m:aA}{ds:List (aA×aA)}{v:V}(hm : ∀ es,m ≠ .list es:=by intro _ z; cases z)(hm2 : ∀ c,m ≠ .str c:=by intro _ z; cases z):Aa6 K H (.dict ((.none,m)::ds)) v ↔ ∃ a,∃ ts:Nat×List (List aA×V),v = .ref a/\H a=some (.dT ts.1 ts.2)/\Abx K H ds ts.2:=by
 rw[Abl]
 constructor
 ·rintro⟨a,e,⟨kvs,h,r⟩ | ⟨ts,h,r⟩ | ⟨xs,h,r⟩ | r⟩
  case inr.inr.inr=>
   obtain⟨_,_,z,_⟩:=yQ r
   cases z
   exact absurd rfl (hm2 _)
  ·obtain⟨k',_,_,_,ek,_⟩:=Aay.mp r
   cases k' <;> simp[kD] at ek
  ·exact⟨a,ts,e,h,(Ac1.mp r).2⟩
  ·obtain⟨es,z,_⟩:=sO r
   cases z
   exact absurd rfl (hm es)
 ·rintro⟨a,ts,e,h,r⟩
  exact⟨a,e,.inr (.inl ⟨ts,h,Ac1.mpr ⟨rfl,r⟩⟩)⟩
end
mutual
theorem Aa6.ext {K:aH}{H H':Hp}(x:Ext H H') : ∀ {d:aA} {v:V},Aa6 K H d v->Aa6 K H' d v
 | .none,_,h=>Abg.mpr (Abg.mp h)
 | .bool _,_,h=>Aak.mpr (Aak.mp h)
 | .int _,_,h=>Aao.mpr (Aao.mp h)
 | .str _,_,h=>Aaq.mpr (Aaq.mp h)
 | .list ds,_,h=>by
  obtain⟨a,xs,e,s,r⟩:=Abf.mp h
  exact Abf.mpr ⟨a,xs,e,x.sqL s,Aar.ext x r⟩
 | .tuple ds,_,h=>by
  obtain⟨a,xs,e,s,r⟩:=Aaw.mp h
  exact Aaw.mpr ⟨a,xs,e,x _ _ s,Aar.ext x r⟩
 | .dict ds,_,h=>by
  obtain⟨a,e,⟨kvs,r,q⟩ | ⟨ts,r,q⟩ | ⟨xs,r,q⟩ | r⟩:=Abl.mp h
  ·exact Abl.mpr ⟨a,e,.inl ⟨kvs,x _ _ r,Abp.ext x q⟩⟩
  ·exact Abl.mpr ⟨a,e,.inr (.inl ⟨ts,x _ _ r,Avk.ext x q⟩)⟩
  ·exact Abl.mpr ⟨a,e,.inr (.inr (.inl ⟨xs,x _ _ r,Avr.ext x q⟩))⟩
  ·exact Abl.mpr ⟨a,e,.inr (.inr (.inr (r.imp (fun r=>r.ext x) fun r=>Awz.ext x r)))⟩
theorem Awz.ext {K:aH}{H H':Hp}(x:Ext H H') : ∀ {ds:List (aA×aA)} {a:aB},Awz K H ds a->Awz K H' ds a
 | [],_,h=>absurd h (by simp[Awz])
 | (k,d)::ds,_,h=>by
  obtain⟨e,c,C,dx,fs,e1,e2,e3,h2⟩:=Ahp.mp h
  exact Ahp.mpr ⟨e,c,C,dx,fs,e1,e2,x _ _ e3,Ahv.ext x h2⟩
theorem Ahv.ext {K:aH}{H H':Hp}(x:Ext H H') : ∀ {ds:List (aA×aA)} {fs:List (aD×V)},Ahv K H ds fs->Ahv K H' ds fs
 | [],_,h=>Akd.mpr (Akd.mp h)
 | (k,d)::ds,_,h=>by
  obtain⟨f,y,r,e,ek,h1,h2⟩:=Adf.mp h
  exact Adf.mpr ⟨f,y,r,e,ek,Al0.ext x h1,Ahv.ext x h2⟩
theorem Aar.ext {K:aH}{H H':Hp}(x:Ext H H') : ∀ {ds:List aA} {vs:List V},Aar K H ds vs->Aar K H' ds vs
 | [],_,h=>Aan.mpr (Aan.mp h)
 | d::ds,_,h=>by
  obtain⟨y,r,e,h1,h2⟩:=Aad.mp h
  exact Aad.mpr ⟨y,r,e,Aa6.ext x h1,Aar.ext x h2⟩
theorem Abp.ext {K:aH}{H H':Hp}(x:Ext H H') : ∀ {ds:List (aA×aA)} {vs:List (aN×V)},Abp K H ds vs->Abp K H' ds vs
 | [],_,h=>Abn.mpr (Abn.mp h)
 | (k,d)::ds,_,h=>by
  obtain⟨k',y,r,e,ek,h1,h2⟩:=Aay.mp h
  exact Aay.mpr ⟨k',y,r,e,ek,Aa6.ext x h1,Abp.ext x h2⟩
theorem Abx.ext {K:aH}{H H':Hp}(x:Ext H H') : ∀ {ds:List (aA×aA)} {vs:List (List aA×V)},Abx K H ds vs->Abx K H' ds vs
 | [],_,h=>Abz.mpr (Abz.mp h)
 | (k,d)::ds,_,h=>by
  obtain⟨k',y,r,e,ek,h1,h2⟩:=Aa2.mp h
  exact Aa2.mpr ⟨k',y,r,e,ek,Aa6.ext x h1,Abx.ext x h2⟩
theorem Avk.ext {K:aH}{H H':Hp}(x:Ext H H') : ∀ {ds:List (aA×aA)} {vs:List (List aA×V)},Avk K H ds vs->Avk K H' ds vs
 | [],_,h=>absurd h (by simp[Avk])
 | (k,d)::ds,_,h=>Ac1.mpr ⟨(Ac1.mp h).1,Abx.ext x (Ac1.mp h).2⟩
theorem Avr.ext {K:aH}{H H':Hp}(x:Ext H H') : ∀ {ds:List (aA×aA)} {vs:List (V×V)},Avr K H ds vs->Avr K H' ds vs
 | [],_,h=>absurd h (by simp[Avr])
 | (k,d)::ds,_,h=>Agx.mpr ⟨(Agx.mp h).1,(Agx.mp h).2.1,Aqq.ext x (Agx.mp h).2.2⟩
theorem Aqq.ext {K:aH}{H H':Hp}(x:Ext H H') : ∀ {d:aA} {vs:List (V×V)},Aqq K H d vs->Aqq K H' d vs
 | .list es,_,h=>by
  rw[Aqq] at h ⊢
  exact Aij.ext x h
 | .none,_,h=>absurd h (by simp[Aqq])
 | .bool _,_,h=>absurd h (by simp[Aqq])
 | .int _,_,h=>absurd h (by simp[Aqq])
 | .str _,_,h=>absurd h (by simp[Aqq])
 | .tuple _,_,h=>absurd h (by simp[Aqq])
 | .dict _,_,h=>absurd h (by simp[Aqq])
theorem Aij.ext {K:aH}{H H':Hp}(x:Ext H H') : ∀ {ds:List aA} {vs:List (V×V)},Aij K H ds vs->Aij K H' ds vs
 | [],_,h=>As6.mpr (As6.mp h)
 | d::ds,_,h=>by
  obtain⟨y,r,e,h1,h2⟩:=Aps.mp h
  exact Aps.mpr ⟨y,r,e,Al0.ext x h1,Aij.ext x h2⟩
theorem Al0.ext {K:aH}{H H':Hp}(x:Ext H H') : ∀ {d:aA} {y:V×V},Al0 K H d y->Al0 K H' d y
 | .tuple ds,_,h=>by
  rw[Al0] at h ⊢
  exact Aar.ext x h
 | .none,_,h=>absurd h (by simp[Al0])
 | .bool _,_,h=>absurd h (by simp[Al0])
 | .int _,_,h=>absurd h (by simp[Al0])
 | .str _,_,h=>absurd h (by simp[Al0])
 | .list _,_,h=>absurd h (by simp[Al0])
 | .dict _,_,h=>absurd h (by simp[Al0])
end
section
variable {K:aH}{H H':Hp}
theorem Aar.length : ∀ {ds:List aA} {vs:List V},Aar K H ds vs->vs.length=ds.length
 | [],_,h=>by rw[Aan.mp h]; rfl
 | d::ds,_,h=>by
  obtain⟨y,r,e,h1,h2⟩:=Aad.mp h
  rw[e,eE,eE,Aar.length h2]
theorem Aar.get : ∀ {ds:List aA} {vs:List V} {i:Nat} {d:aA},Aar K H ds vs->ds[i]?=some d -> ∃ v,vs[i]?=some v/\Aa6 K H d v
 | [],_,_,_,h,e=>by simp at e
 | d::ds,_,0,d',h,e=>by
  obtain⟨y,r,rfl,h1,h2⟩:=Aad.mp h
  have:d=d':=by simpa using e
  subst this
  exact⟨y,rfl,h1⟩
 | d::ds,_,i+1,d',h,e=>by
  obtain⟨y,r,rfl,h1,h2⟩:=Aad.mp h
  obtain⟨v,h3,h4⟩:=Aar.get h2 (by simpa using e)
  exact⟨v,by simpa using h3,h4⟩
theorem Aar.append : ∀ {ds es:List aA} {vs ws:List V},Aar K H ds vs->Aar K H es ws->Aar K H (ds++es) (vs++ws)
 | [],es,_,_,h,g=>by rw[Aan.mp h]; exact g
 | d::ds,es,_,_,h,g=>by
  obtain⟨y,r,rfl,h1,h2⟩:=Aad.mp h
  exact Aad.mpr ⟨y,_,rfl,h1,Aar.append h2 g⟩
theorem Aar.snoc {ds:List aA}{vs:List V}{d:aA}{v:V}(h:Aar K H ds vs)(g:Aa6 K H d v):Aar K H (ds++[d]) (vs++[v]):=
 h.append (Aad.mpr ⟨v,[],rfl,g,Aan.mpr rfl⟩)
theorem Aar.drop : ∀ {ds:List aA} {vs:List V} (n:Nat),Aar K H ds vs->Aar K H (ds.drop n) (vs.drop n)
 | _,_,0,h=>h
 | [],_,n+1,h=>by rw[Aan.mp h]; exact Aan.mpr rfl
 | d::ds,_,n+1,h=>by
  obtain⟨y,r,rfl,h1,h2⟩:=Aad.mp h
  exact Aar.drop n h2
theorem Aar.take : ∀ {ds:List aA} {vs:List V} (n:Nat),Aar K H ds vs->Aar K H (ds.take n) (vs.take n)
 | _,_,0,h=>Aan.mpr rfl
 | [],_,n+1,h=>by rw[Aan.mp h]; exact Aan.mpr rfl
 | d::ds,_,n+1,h=>by
  obtain⟨y,r,rfl,h1,h2⟩:=Aad.mp h
  exact Aad.mpr ⟨y,_,rfl,h1,Aar.take n h2⟩
theorem Aar.set {d:aA}{v:V}(g:Aa6 K H d v) : ∀ {ds:List aA} {vs:List V} (n:Nat),Aar K H ds vs->Aar K H (ds.set n d) (vs.set n v)
 | [],_,n,h=>by rw[Aan.mp h]; exact Aan.mpr rfl
 | e::ds,_,0,h=>by
  obtain⟨y,r,rfl,h1,h2⟩:=Aad.mp h
  exact Aad.mpr ⟨v,r,rfl,g,h2⟩
 | e::ds,_,n+1,h=>by
  obtain⟨y,r,rfl,h1,h2⟩:=Aad.mp h
  exact Aad.mpr ⟨y,_,rfl,h1,Aar.set g n h2⟩
theorem OO : ∀ ns:List Int,Aar K H (ns.map bA) (ns.map V.int)
 | []=>Aan.mpr rfl
 | n::r=>Aad.mpr ⟨_,_,rfl,Aao.mpr rfl,OO r⟩
theorem Fx {k:aN}{v:V}(h:Aa6 K H (kD k) v):v=kV k:=by
 cases k with
 | inl i=>exact Aao.mp h
 | inr x=>exact(Aaq.mp h).1
mutual
theorem Aa6.key {K:aH}{H:Hp} : ∀ (d:aA) {v:V},bJ d=true->Aa6 K H d v->Ahd H d v
 | .int i,v,_,h=>by simpa [Ahd] using Aao.mp h
 | .str i,v,_,h=>by simpa [Ahd] using(Aaq.mp h).1
 | .tuple ds,v,k,h=>by
  obtain⟨a,xs,e,s,r⟩:=Aaw.mp h
  simp only[Ahd]
  exact⟨a,xs,e,s,Aar.keys ds (by simpa [bJ] using k) r⟩
 | .none,v,k,_=>by simp[bJ] at k
 | .bool _,v,k,_=>by simp[bJ] at k
 | .list _,v,k,_=>by simp[bJ] at k
 | .dict _,v,k,_=>by simp[bJ] at k
theorem Aar.keys {K:aH}{H:Hp} : ∀ (ds:List aA) {vs:List V},bP ds=true->Aar K H ds vs->Aeo H ds vs
 | [],vs,_,h=>by simpa [Aeo] using Aan.mp h
 | d::ds,vs,k,h=>by
  have k':bJ d=true/\bP ds=true:=by simpa [bP] using k
  obtain⟨y,r,e,h1,h2⟩:=Aad.mp h
  simp only[Aeo]
  exact⟨y,r,e,Aa6.key d k'.1 h1,Aar.keys ds k'.2 h2⟩
end
end
mutual
noncomputable def fM:aA->Bool
 | .list _=>false
 | .dict _=>false
 | .tuple ds=>uY ds
 | _=>true
noncomputable def uY:List aA->Bool
 | []=>true
 | d::r=>fM d&&uY r
end
mutual
theorem Aa6.flat {K:aH}{H H':Hp}(x : ∀ a xs,H a=some (.tup xs)->H' a=some (.tup xs)) : ∀ (d:aA) {v:V},fM d=true->Aa6 K H d v->Aa6 K H' d v
 | .none,_,_,h=>Abg.mpr (Abg.mp h)
 | .bool _,_,_,h=>Aak.mpr (Aak.mp h)
 | .int _,_,_,h=>Aao.mpr (Aao.mp h)
 | .str _,_,_,h=>Aaq.mpr (Aaq.mp h)
 | .tuple ds,_,f,h=>by
  obtain⟨a,xs,e,s,r⟩:=Aaw.mp h
  exact Aaw.mpr ⟨a,xs,e,x _ _ s,Aar.flat x ds (by simpa [fM] using f) r⟩
 | .list _,_,f,_=>by simp[fM] at f
 | .dict _,_,f,_=>by simp[fM] at f
theorem Aar.flat {K:aH}{H H':Hp}(x : ∀ a xs,H a=some (.tup xs)->H' a=some (.tup xs)) : ∀ (ds:List aA) {vs:List V},uY ds=true->Aar K H ds vs->Aar K H' ds vs
 | [],_,_,h=>Aan.mpr (Aan.mp h)
 | d::ds,_,f,h=>by
  have f':fM d=true/\uY ds=true:=by simpa [uY] using f
  obtain⟨y,r,e,h1,h2⟩:=Aad.mp h
  exact Aad.mpr ⟨y,r,e,Aa6.flat x d f'.1 h1,Aar.flat x ds f'.2 h2⟩
end
inductive All3 {α β γ:Type}(R:α->β->γ->Prop):List α->List β->List γ->Prop
 | nil:All3 R [] [] []
 | cons {a b c as bs cs}:R a b c->All3 R as bs cs->All3 R (a::as) (b::bs) (c::cs)
theorem All3.imp {α β γ:Type}{R S:α->β->γ->Prop} : ∀ {as:List α} {bs:List β} {cs:List γ},All3 R as bs cs->(∀ a b c,c∈cs->R a b c->S a b c)->All3 S as bs cs:=by
 intro as bs cs h
 induction h with
 | nil=>exact fun _=>.nil
 | cons h _ ih=>exact fun f=>.cons (f _ _ _ bY h) (ih fun a b c m=>f a b c (cA _ m))
def Ae5 (K:aH)(B H:Hp):Nat->aA->V->List aB->Prop
 | 0,d,v,F=>F=[]/\Aa6 K B d v
 | n+1,d,v,F=>match d with
  | .list ds=>∃ p xs Fs,v = .ref p/\H p=some (.lst xs)/\F=p::Fs.flatten/\All3 (Ae5 K B H n) ds xs Fs
  | .dict kds=>∃ p,∃ kvs:Nat×List (aN×V),∃ Fs,v = .ref p/\H p=some (.dK kvs.1 kvs.2)/\F=p::Fs.flatten/\All3 (fun(kd:aA×aA) (kv:aN×V) f=>kd.1=kD kv.1/\Ae5 K B H n kd.2 kv.2 f) kds kvs.2 Fs
  | .tuple ds=>(n=0/\F=[]/\Aa6 K B (.tuple ds) v) \/ (n≠0 /\ ∃ p xs Fs,v = .ref p/\B p=some (.tup xs)/\F=Fs.flatten/\All3 (Ae5 K B H n) ds xs Fs)
  | d=>F=[]/\Aa6 K B d v
theorem Ae5.keep {K:aH}{B B' H H':Hp}(xb:Ext B B') : ∀ {n:Nat} {d:aA} {v:V} {F:List aB},(∀ a∈F,H' a=H a)->Ae5 K B H n d v F->Ae5 K B' H' n d v F
 | 0,d,v,F,_,h=>⟨h.1,h.2.ext xb⟩
 | n+1,.list ds,v,F,kp,h=>by
  obtain⟨p,xs,Fs,e,hp,rfl,q⟩:=h
  refine⟨p,xs,Fs,e,(kp p bY).trans hp,rfl,q.imp fun a b c m r=>Ae5.keep xb (fun z hz=>kp z (cA _ (pG.mpr ⟨c,m,hz⟩))) r⟩
 | n+1,.dict kds,v,F,kp,h=>by
  obtain⟨p,xs,Fs,e,hp,rfl,q⟩:=h
  refine⟨p,xs,Fs,e,(kp p bY).trans hp,rfl,q.imp fun a b c m r=>⟨r.1,Ae5.keep xb (fun z hz=>kp z (cA _ (pG.mpr ⟨c,m,hz⟩))) r.2⟩⟩
 | n+1,.none,v,F,_,h=>⟨h.1,h.2.ext xb⟩
 | n+1,.bool _,v,F,_,h=>⟨h.1,h.2.ext xb⟩
 | n+1,.int _,v,F,_,h=>⟨h.1,h.2.ext xb⟩
 | n+1,.str _,v,F,_,h=>⟨h.1,h.2.ext xb⟩
 | n+1,.tuple ds,v,F,kp,h=>by
  rcases h with⟨h0,h1,h2⟩ | ⟨h0,p,xs,Fs,e,hp,rfl,q⟩
  ·exact .inl ⟨h0,h1,h2.ext xb⟩
  ·exact .inr ⟨h0,p,xs,Fs,e,xb _ _ hp,rfl,q.imp fun a b c m r=>Ae5.keep xb (fun z hz=>kp z (pG.mpr ⟨c,m,hz⟩)) r⟩
theorem OI {K:aH}{B:Hp}{R:aA->V->List aB->Prop}(f : ∀ d v F,R d v F->Aa6 K B d v) : ∀ {ds:List aA} {xs:List V} {Fs:List (List aB)},All3 R ds xs Fs->Aar K B ds xs:=by
 intro ds xs Fs h
 induction h with
 | nil=>exact Aan.mpr rfl
 | cons h _ ih=>exact Aad.mpr ⟨_,_,rfl,f _ _ _ h,ih⟩
theorem Cs {K:aH}{B:Hp}{R:aA×aA->aN×V->List aB->Prop}(f : ∀ d v F,R d v F->d.1=kD v.1/\Aa6 K B d.2 v.2) : ∀ {ds:List (aA×aA)} {xs:List (aN×V)} {Fs:List (List aB)},All3 R ds xs Fs->Abp K B ds xs:=by
 intro ds xs Fs h
 induction h with
 | nil=>exact Abn.mpr rfl
 | @cons p q F ds xs Fs h _ ih=>
  obtain⟨k,d⟩:=p
  obtain⟨k',v⟩:=q
  exact Aay.mpr ⟨_,_,_,rfl,(f _ _ _ h).1,(f _ _ _ h).2,ih⟩
theorem Ae5.share {K:aH}{B B' H:Hp}(xb:Ext B B') : ∀ {n:Nat} {d:aA} {v:V} {F:List aB},(∀ a∈F,∀ o,H a=some o->B' a=some o)->Ae5 K B H n d v F->Aa6 K B' d v
 | 0,d,v,F,_,h=>h.2.ext xb
 | n+1,.list ds,v,F,kp,h=>by
  obtain⟨p,xs,Fs,e,hp,rfl,q⟩:=h
  refine Abf.mpr ⟨p,xs,e,SqL.of (kp p bY _ hp),?_⟩
  exact OI (fun d v F r=>r) (q.imp fun a b c m r=>Ae5.share xb (fun z hz=>kp z (cA _ (pG.mpr ⟨c,m,hz⟩))) r)
 | n+1,.dict kds,v,F,kp,h=>by
  obtain⟨p,xs,Fs,e,hp,rfl,q⟩:=h
  refine FO e (kp p bY _ hp) ?_
  exact Cs (fun d v F r=>r) (q.imp fun a b c m r=>⟨r.1,Ae5.share xb (fun z hz=>kp z (cA _ (pG.mpr ⟨c,m,hz⟩))) r.2⟩)
 | n+1,.none,v,F,_,h=>h.2.ext xb
 | n+1,.bool _,v,F,_,h=>h.2.ext xb
 | n+1,.int _,v,F,_,h=>h.2.ext xb
 | n+1,.str _,v,F,_,h=>h.2.ext xb
 | n+1,.tuple ds,v,F,kp,h=>by
  rcases h with⟨h0,h1,h2⟩ | ⟨h0,p,xs,Fs,e,hp,rfl,q⟩
  ·exact h2.ext xb
  ·refine Aaw.mpr ⟨p,xs,e,xb _ _ hp,?_⟩
   exact OI (fun d v F r=>r) (q.imp fun a b c m r=>Ae5.share xb (fun z hz=>kp z (pG.mpr ⟨c,m,hz⟩)) r)
noncomputable def hX:Nat->aA->Bool
 | 0,d=>fM d
 | n+1,.list ds=>ds.all (hX n)
 | n+1,.dict kds=>kds.all fun kd=>hX n kd.2
 | n+2,.tuple ds=>ds.all (hX (n+1))
 | n+1,d=>fM d
theorem Ae5.flat {K:aH}{B B' H:Hp}(xb : ∀ a xs,B a=some (.tup xs)->B' a=some (.tup xs)) : ∀ {n:Nat} {d:aA} {v:V} {F:List aB},hX n d=true->Ae5 K B H n d v F->Ae5 K B' H n d v F
 | 0,d,v,F,f,h=>⟨h.1,h.2.flat xb d f⟩
 | n+1,.list ds,v,F,f,h=>by
  obtain⟨p,xs,Fs,e,hp,rfl,q⟩:=h
  refine⟨p,xs,Fs,e,hp,rfl,?_⟩
  have f' : ∀ d∈ds,hX n d=true:=by simpa [hX] using f
  clear hp f e
  induction q with
  | nil=>exact .nil
  | cons h t ih=>exact .cons (Ae5.flat xb (f' _ bY) h) (ih fun d m=>f' d (cA _ m))
 | n+1,.dict kds,v,F,f,h=>by
  obtain⟨p,xs,Fs,e,hp,rfl,q⟩:=h
  refine⟨p,xs,Fs,e,hp,rfl,?_⟩
  have f' : ∀ d∈kds,hX n d.2=true:=fun d m=>by
   have:kds.all (fun kd=>hX n kd.2)=true:=by simpa [hX] using f
   exact iA.mp this d m
  clear hp f e
  obtain⟨xe,xs⟩:=xs
  replace q:All3 _ kds xs Fs:=q
  induction q with
  | nil=>exact .nil
  | cons h t ih=>exact .cons ⟨h.1,Ae5.flat xb (f' _ bY) h.2⟩ (ih fun d m=>f' d (cA _ m))
 | n+1,.none,v,F,f,h=>⟨h.1,h.2.flat xb _ f⟩
 | n+1,.bool _,v,F,f,h=>⟨h.1,h.2.flat xb _ f⟩
 | n+1,.int _,v,F,f,h=>⟨h.1,h.2.flat xb _ f⟩
 | n+1,.str _,v,F,f,h=>⟨h.1,h.2.flat xb _ f⟩
 | 1,.tuple ds,v,F,f,h=>by
  rcases h with⟨h0,h1,h2⟩ | ⟨h0,_⟩
  ·exact .inl ⟨h0,h1,h2.flat xb _ f⟩
  ·exact absurd rfl h0
 | n+2,.tuple ds,v,F,f,h=>by
  rcases h with⟨h0,_⟩ | ⟨h0,p,xs,Fs,e,hp,rfl,q⟩
  ·exact absurd h0 (by omega)
  ·refine .inr ⟨h0,p,xs,Fs,e,xb _ _ hp,rfl,?_⟩
   have f' : ∀ d∈ds,hX (n+1) d=true:=by simpa [hX] using f
   clear hp f e
   induction q with
   | nil=>exact .nil
   | cons h t ih=>exact .cons (Ae5.flat xb (f' _ bY) h) (ih fun d m=>f' d (cA _ m))
theorem All3.of {α β γ:Type}{R:α->β->γ->Prop} : ∀ {as:List α} {bs:List β} {cs:List γ},All3 R as bs cs -> ∀ c∈cs,∃ a b,R a b c:=by
 intro as bs cs h
 induction h with
 | nil=>exact fun c m=>by simp at m
 | cons h _ ih=>
  intro c m
  rcases cJ.mp m with rfl | m
  ·exact⟨_,_,h⟩
  ·exact ih c m
mutual
noncomputable def ndD:aA->Bool
 | .dict kds=>ndM kds
 | .list ds=>tD ds
 | .tuple ds=>tD ds
 | _=>true
noncomputable def tD:List aA->Bool
 | []=>true
 | d::r=>ndD d&&tD r
noncomputable def ndM:List (aA×aA)->Bool
 | (.none,.none)::r=>uK r
 | _=>false
noncomputable def uK:List (aA×aA)->Bool
 | []=>true
 | (_,d)::r=>ndD d&&uK r
end
noncomputable def iN:Nat->aA->Bool
 | 0,d=>ndD d
 | n+1,.list ds=>ds.all (iN n)
 | n+1,.dict kds=>kds.all fun kd=>iN n kd.2
 | _,_=>false
theorem ZP (xs:List V) : ∀ q,HO.lst xs≠dO q:=fun q z=>by cases q <;> cases z
theorem ZI (xs:List V) : ∀ q,HO.tup xs≠dO q:=fun q z=>by cases q <;> cases z
theorem Ic (o:aY)(u:HO) : ∀ q,HO.frz o u≠dO q:=fun q z=>by cases q <;> cases z
def NdX (H H':Hp):Prop:=∀ a o,H a=some o->(∀ q,o≠dO (.inl q))->H' a=some o
mutual
theorem Aa6.nd {K:aH}{H H':Hp}(x:NdX H H') : ∀ (d:aA) {v:V},ndD d=true->Aa6 K H d v->Aa6 K H' d v
 | .none,_,_,h=>Abg.mpr (Abg.mp h)
 | .bool _,_,_,h=>Aak.mpr (Aak.mp h)
 | .int _,_,_,h=>Aao.mpr (Aao.mp h)
 | .str _,_,_,h=>Aaq.mpr (Aaq.mp h)
 | .tuple ds,_,f,h=>by
  obtain⟨a,xs,e,s,r⟩:=Aaw.mp h
  exact Aaw.mpr ⟨a,xs,e,x _ _ s (fun q=>ZI _ _),Aar.nd x ds (by simpa [ndD] using f) r⟩
 | .list ds,_,f,h=>by
  obtain⟨a,xs,e,s,r⟩:=Abf.mp h
  refine Abf.mpr ⟨a,xs,e,s.imp (fun s=>?_) id,Aar.nd x ds (by simpa [ndD] using f) r⟩
  rcases s with s | ⟨o,s⟩
  ·exact .inl (x _ _ s (fun q=>ZP _ _))
  ·exact .inr ⟨o,x _ _ s (fun q=>Ic _ _ _)⟩
 | .dict [],_,f,_=>by simp[ndD,ndM] at f
 | .dict ((k,m)::kds),_,f,h=>by
  have f:ndM ((k,m)::kds)=true:=by simpa only[ndD] using f
  cases k <;> cases m <;> first | (simp[ndM] at f; done) | skip
  obtain⟨a,ts,e,s,r⟩:=(oU).mp h
  exact(oU).mpr ⟨a,ts,e,x _ _ s (fun q z=>by cases z),Abx.nd x kds (by simpa only[ndM] using f) r⟩
theorem Abx.nd {K:aH}{H H':Hp}(x:NdX H H') : ∀ (kds:List (aA×aA)) {ts:List (List aA×V)},uK kds=true->Abx K H kds ts->Abx K H' kds ts
 | [],_,_,h=>Abz.mpr (Abz.mp h)
 | (k,d)::r,_,f,h=>by
  have f':ndD d=true/\uK r=true:=by simpa [uK] using f
  obtain⟨k',y,rr,e,ek,h1,h2⟩:=Aa2.mp h
  exact Aa2.mpr ⟨k',y,rr,e,ek,Aa6.nd x d f'.1 h1,Abx.nd x r f'.2 h2⟩
theorem Aar.nd {K:aH}{H H':Hp}(x:NdX H H') : ∀ (ds:List aA) {vs:List V},tD ds=true->Aar K H ds vs->Aar K H' ds vs
 | [],_,_,h=>Aan.mpr (Aan.mp h)
 | d::ds,_,f,h=>by
  have f':ndD d=true/\tD ds=true:=by simpa [tD] using f
  obtain⟨y,r,e,h1,h2⟩:=Aad.mp h
  exact Aad.mpr ⟨y,r,e,Aa6.nd x d f'.1 h1,Aar.nd x ds f'.2 h2⟩
end
theorem Ae5.mut1 {K:aH}{B H:Hp} : ∀ {n:Nat} {d:aA} {v:V} {F:List aB},Ae5 K B H n d v F -> ∀ a∈F,(∃ xs,H a=some (.lst xs)) \/ ∃ q,H a=some (dO (.inl q))
 | 0,d,v,F,h,a,m=>by rw[h.1] at m; simp at m
 | n+1,.list ds,v,F,h,a,m=>by
  obtain⟨p,xs,Fs,e,hp,rfl,q⟩:=h
  rcases cJ.mp m with e1 | m2
  ·rw[e1]; exact .inl ⟨xs,hp⟩
  ·obtain⟨f,hf,ha⟩:=pG.mp m2
   obtain⟨_,_,r⟩:=q.of f hf
   exact Ae5.mut1 r a ha
 | n+1,.dict kds,v,F,h,a,m=>by
  obtain⟨p,xs,Fs,e,hp,rfl,q⟩:=h
  rcases cJ.mp m with e1 | m2
  ·rw[e1]; exact .inr ⟨xs,hp⟩
  ·obtain⟨f,hf,ha⟩:=pG.mp m2
   obtain⟨_,_,r⟩:=q.of f hf
   exact Ae5.mut1 r.2 a ha
 | n+1,.none,v,F,h,a,m=>by rw[h.1] at m; simp at m
 | n+1,.bool _,v,F,h,a,m=>by rw[h.1] at m; simp at m
 | n+1,.int _,v,F,h,a,m=>by rw[h.1] at m; simp at m
 | n+1,.str _,v,F,h,a,m=>by rw[h.1] at m; simp at m
 | n+1,.tuple ds,v,F,h,a,m=>by
  rcases h with⟨_,h1,_⟩ | ⟨h0,p,xs,Fs,e,hp,rfl,q⟩
  ·rw[h1] at m; simp at m
  ·obtain⟨f,hf,ha⟩:=pG.mp m
   obtain⟨_,_,r⟩:=q.of f hf
   exact Ae5.mut1 r a ha
theorem Ae5.mut {K:aH}{B H:Hp}{n:Nat}{d:aA}{v:V}{F:List aB}(h:Ae5 K B H n d v F) : ∀ a∈F,(∃ xs,H a=some (.lst xs)) \/ ∃ q:DQ,H a=some (dO q):=fun a m=>(h.mut1 a m).imp id fun⟨q,e⟩=>⟨.inl q,e⟩
mutual
noncomputable def ftD:aA->Bool
 | .dict kds=>ftM kds
 | .list _=>false
 | .tuple ds=>uH ds
 | _=>true
noncomputable def uH:List aA->Bool
 | []=>true
 | d::r=>ftD d&&uH r
noncomputable def ftM:List (aA×aA)->Bool
 | (.none,.none)::r=>uJ r
 | _=>false
noncomputable def uJ:List (aA×aA)->Bool
 | []=>true
 | (_,d)::r=>ftD d&&uJ r
end
def FtX (H H':Hp):Prop:=∀ a o,H a=some o->((∃ xs,o = .tup xs) \/ ∃ q,o=dO (.inr q))->H' a=some o
mutual
theorem Aa6.ft {K:aH}{H H':Hp}(x:FtX H H') : ∀ (d:aA) {v:V},ftD d=true->Aa6 K H d v->Aa6 K H' d v
 | .none,_,_,h=>Abg.mpr (Abg.mp h)
 | .bool _,_,_,h=>Aak.mpr (Aak.mp h)
 | .int _,_,_,h=>Aao.mpr (Aao.mp h)
 | .str _,_,_,h=>Aaq.mpr (Aaq.mp h)
 | .tuple ds,_,f,h=>by
  obtain⟨a,xs,e,s,r⟩:=Aaw.mp h
  exact Aaw.mpr ⟨a,xs,e,x _ _ s (.inl ⟨xs,rfl⟩),Aar.ft x ds (by simpa [ftD] using f) r⟩
 | .list ds,_,f,h=>by simp[ftD] at f
 | .dict [],_,f,_=>by simp[ftD,ftM] at f
 | .dict ((k,m)::kds),_,f,h=>by
  have f:ftM ((k,m)::kds)=true:=by simpa only[ftD] using f
  cases k <;> cases m <;> first | (simp[ftM] at f; done) | skip
  obtain⟨a,ts,e,s,r⟩:=(oU).mp h
  exact(oU).mpr ⟨a,ts,e,x _ _ s (.inr ⟨ts,rfl⟩),Abx.ft x kds (by simpa only[ftM] using f) r⟩
theorem Abx.ft {K:aH}{H H':Hp}(x:FtX H H') : ∀ (kds:List (aA×aA)) {ts:List (List aA×V)},uJ kds=true->Abx K H kds ts->Abx K H' kds ts
 | [],_,_,h=>Abz.mpr (Abz.mp h)
 | (k,d)::r,_,f,h=>by
  have f':ftD d=true/\uJ r=true:=by simpa [uJ] using f
  obtain⟨k',y,rr,e,ek,h1,h2⟩:=Aa2.mp h
  exact Aa2.mpr ⟨k',y,rr,e,ek,Aa6.ft x d f'.1 h1,Abx.ft x r f'.2 h2⟩
theorem Aar.ft {K:aH}{H H':Hp}(x:FtX H H') : ∀ (ds:List aA) {vs:List V},uH ds=true->Aar K H ds vs->Aar K H' ds vs
 | [],_,_,h=>Aan.mpr (Aan.mp h)
 | d::ds,_,f,h=>by
  have f':ftD d=true/\uH ds=true:=by simpa [uH] using f
  obtain⟨y,r,e,h1,h2⟩:=Aad.mp h
  exact Aad.mpr ⟨y,r,e,Aa6.ft x d f'.1 h1,Aar.ft x ds f'.2 h2⟩
end
theorem Ae5.nd {K:aH}{B B' H:Hp}(xb:NdX B B') : ∀ {n:Nat} {d:aA} {v:V} {F:List aB},iN n d=true->Ae5 K B H n d v F->Ae5 K B' H n d v F
 | 0,d,v,F,f,h=>⟨h.1,h.2.nd xb d f⟩
 | n+1,.list ds,v,F,f,h=>by
  obtain⟨p,xs,Fs,e,hp,rfl,q⟩:=h
  refine⟨p,xs,Fs,e,hp,rfl,?_⟩
  have f' : ∀ d∈ds,iN n d=true:=by simpa [iN] using f
  clear hp f e
  induction q with
  | nil=>exact .nil
  | cons h t ih=>exact .cons (Ae5.nd xb (f' _ bY) h) (ih fun d m=>f' d (cA _ m))
 | n+1,.dict kds,v,F,f,h=>by
  obtain⟨p,xs,Fs,e,hp,rfl,q⟩:=h
  refine⟨p,xs,Fs,e,hp,rfl,?_⟩
  have f' : ∀ d∈kds,iN n d.2=true:=fun d m=>by
   have:kds.all (fun kd=>iN n kd.2)=true:=by simpa [iN] using f
   exact iA.mp this d m
  clear hp f e
  obtain⟨xe,xs⟩:=xs
  replace q:All3 _ kds xs Fs:=q
  induction q with
  | nil=>exact .nil
  | cons h t ih=>exact .cons ⟨h.1,Ae5.nd xb (f' _ bY) h.2⟩ (ih fun d m=>f' d (cA _ m))
 | n+1,.none,v,F,f,h=>by simp[iN] at f
 | n+1,.bool _,v,F,f,h=>by simp[iN] at f
 | n+1,.int _,v,F,f,h=>by simp[iN] at f
 | n+1,.str _,v,F,f,h=>by simp[iN] at f
 | n+1,.tuple ds,v,F,f,h=>by simp[iN] at f
def Afb (K:aH)(B H:Hp)(d:aA)(v:V)(F:List aB):Prop:=∃ kds p,∃ ts:Nat×List (List aA×V),d = .dict ((.none,.none)::kds)/\v = .ref p/\H p=some (.dT ts.1 ts.2)/\F=[p]/\(∀ kd∈kds,fM kd.2=true)/\Abx K B kds ts.2
def HeldAt (K:aH)(B H:Hp)(kd:aA×aA)(kv:aN×V)(p:aB):Prop:=kd.1=kD kv.1/\kv.2 = .ref p/\Afb K B H kd.2 (.ref p) [p]
noncomputable abbrev bK (c:aD)(W Hd:aA):aA:=.dict [(.none,.str c),(.none,.tuple [.str "wide",W]),(.none,.tuple [.str "held",Hd])]
structure RepB (K:aH)(B H:Hp)(d:aA)(v:V)(F:List aB):Prop where
 ex : ∃ c C dx a w q kds hds,∃ kvs hvs:Nat×List (aN×V),∃ ps,d=bK c (.dict kds) (.dict hds)/\v = .ref a/\cX K c=some (.ref C)/\H a=some (.ins C dx [("wide",.ref w),("held",.ref q)])/\H w=some (.dK kvs.1 kvs.2)/\(∀ kd∈kds,fM kd.2=true)/\Abp K B kds kvs.2 /\
  H q=some (.dK hvs.1 hvs.2)/\F=a::w::q::ps/\All3 (HeldAt K B H) hds hvs.2 ps
def Aec (K:aH)(B H:Hp)(n:Nat)(d:aA)(v:V)(F:List aB):Prop:=if n=9 then(d = .none/\v = .non/\F=[]) \/ Afb K B H d v F \/ RepB K B H d v F else Ae5 K B H n d v F
theorem Abp.flat {K:aH}{B B':Hp}(xb : ∀ a xs,B a=some (.tup xs)->B' a=some (.tup xs)) : ∀ {kds:List (aA×aA)} {ts:List (aN×V)},(∀ kd∈kds,fM kd.2=true)->Abp K B kds ts->Abp K B' kds ts
 | [],ts,_,h=>Abn.mpr (Abn.mp h)
 | (k,d)::r,ts,f,h=>by
  obtain⟨k',x,rr,e,ek,h1,h2⟩:=Aay.mp h
  exact Aay.mpr ⟨k',x,rr,e,ek,h1.flat xb _ (f (k,d) bY),Abp.flat xb (fun kd m=>f kd (cA _ m)) h2⟩
theorem Abx.flat {K:aH}{B B':Hp}(xb : ∀ a xs,B a=some (.tup xs)->B' a=some (.tup xs)) : ∀ {kds:List (aA×aA)} {ts:List (List aA×V)},(∀ kd∈kds,fM kd.2=true)->Abx K B kds ts->Abx K B' kds ts
 | [],ts,_,h=>Abz.mpr (Abz.mp h)
 | (k,d)::r,ts,f,h=>by
  obtain⟨k',x,rr,e,ek,h1,h2⟩:=Aa2.mp h
  exact Aa2.mpr ⟨k',x,rr,e,ek,h1.flat xb _ (f (k,d) bY),Abx.flat xb (fun kd m=>f kd (cA _ m)) h2⟩
section
variable {K:aH}{B B' H H':Hp}{n:Nat}{d:aA}{v:V}{F:List aB}
theorem Afb.keep (xb:Ext B B')(kp : ∀ a∈F,H' a=H a)(h:Afb K B H d v F):Afb K B' H' d v F:=by
 obtain⟨kds,p,ts,e1,e2,hp,rfl,f,r⟩:=h
 exact⟨kds,p,ts,e1,e2,(kp p bY).trans hp,rfl,f,r.ext xb⟩
theorem Afb.flat (xb : ∀ a xs,B a=some (.tup xs)->B' a=some (.tup xs))(h:Afb K B H d v F):Afb K B' H d v F:=by
 obtain⟨kds,p,ts,e1,e2,hp,rfl,f,r⟩:=h
 exact⟨kds,p,ts,e1,e2,hp,rfl,f,r.flat xb f⟩
theorem Afb.share (xb:Ext B B')(kp : ∀ a∈F,∀ o,H a=some o->B' a=some o)(h:Afb K B H d v F):Aa6 K B' d v:=by
 obtain⟨kds,p,ts,rfl,e2,hp,rfl,f,r⟩:=h
 exact(oU).mpr ⟨p,ts,e2,kp p bY _ hp,r.ext xb⟩
theorem RepB.keep (xb:Ext B B')(kp : ∀ a∈F,H' a=H a)(h:RepB K B H d v F):RepB K B' H' d v F:=by
 obtain⟨c,C,dx,a,w,q,kds,hds,kvs,hvs,ps,e1,e2,e3,ha,hw,fl,rk,hq,rfl,h3⟩:=h.ex
 exact⟨c,C,dx,a,w,q,kds,hds,kvs,hvs,ps,e1,e2,e3,(kp a (by simp)).trans ha,(kp w (by simp)).trans hw,fl,rk.ext xb,(kp q (by simp)).trans hq,rfl,
  h3.imp fun kd kv p m r=>⟨r.1,r.2.1,r.2.2.keep xb fun b hb=>kp b (by rw[dB.mp hb]; simp[m])⟩⟩
theorem RepB.flat (xb : ∀ a xs,B a=some (.tup xs)->B' a=some (.tup xs))(h:RepB K B H d v F):RepB K B' H d v F:=by
 obtain⟨c,C,dx,a,w,q,kds,hds,kvs,hvs,ps,e1,e2,e3,ha,hw,fl,rk,hq,rfl,h3⟩:=h.ex
 exact⟨c,C,dx,a,w,q,kds,hds,kvs,hvs,ps,e1,e2,e3,ha,hw,fl,rk.flat xb fl,hq,rfl,h3.imp fun kd kv p m r=>⟨r.1,r.2.1,r.2.2.flat xb⟩⟩
theorem Ju {c:aD}{W D:aA}{C dx a:aB}{w q:V}(hc:cX K c=some (.ref C))(ha:H a=some (.ins C dx [("wide",w),("held",q)]))(h1:Aa6 K H W w)(h2:Aa6 K H D q):Aa6 K H (bK c W D) (.ref a):=by
 refine Abl.mpr ⟨a,rfl,.inr (.inr (.inr (.inr (Ahp.mpr ⟨rfl,c,C,dx,_,rfl,hc,ha,Adf.mpr ⟨_,_,_,rfl,rfl,?_,Adf.mpr ⟨_,_,_,rfl,rfl,?_,Akd.mpr rfl⟩⟩⟩))))⟩
 ·rw[Al0]
  exact Aad.mpr ⟨_,_,rfl,Aaq.mpr ⟨rfl,by decide +kernel⟩,Aad.mpr ⟨_,_,rfl,h1,Aan.mpr rfl⟩⟩
 ·rw[Al0]
  exact Aad.mpr ⟨_,_,rfl,Aaq.mpr ⟨rfl,by decide +kernel⟩,Aad.mpr ⟨_,_,rfl,h2,Aan.mpr rfl⟩⟩
theorem zD {c:aD}{W D:aA}{v:V}(h:Aa6 K H (bK c W D) v) : ∃ C dx a w q,v = .ref a/\cX K c=some (.ref C)/\H a=some (.ins C dx [("wide",w),("held",q)])/\Aa6 K H W w/\Aa6 K H D q:=by
 obtain⟨a,e,⟨kvs,_,r⟩ | ⟨ts,_,r⟩ | ⟨xs,_,r⟩ | r | r⟩:=Abl.mp h
 ·obtain⟨k',_,_,_,ek,_⟩:=Aay.mp r
  cases k' <;> cases ek
 ·obtain⟨_,_,_,_,⟨z,_⟩,_⟩:=Aa2.mp (Ac1.mp r).2
  cases z
 ·obtain⟨es,z,_⟩:=sO r
  cases z
 ·obtain⟨_,_,z⟩:=r.mark
  cases z
 ·obtain⟨_,c',C,dx,fs,z,hc,ha,r⟩:=Ahp.mp r
  cases z
  obtain⟨f1,x1,r1,rfl,_,q1,r⟩:=Adf.mp r
  obtain⟨f2,x2,r2,rfl,_,q2,r⟩:=Adf.mp r
  rw[Akd.mp r] at ha
  rw[Al0] at q1 q2
  obtain⟨_,_,z1,p1,q1⟩:=Aad.mp q1
  obtain⟨_,_,z2,p2,q2⟩:=Aad.mp q2
  cases z1
  cases z2
  obtain⟨_,_,z1,p3,_⟩:=Aad.mp q1
  obtain⟨_,_,z2,p4,_⟩:=Aad.mp q2
  cases z1
  cases z2
  have e1:=(Aaq.mp p1).1
  have e2:=(Aaq.mp p2).1
  cases e1
  cases e2
  exact⟨C,dx,a,_,_,e,hc,ha,p3,p4⟩
theorem RepB.share (xb:Ext B B')(kp : ∀ a∈F,∀ o,H a=some o->B' a=some o)(h:RepB K B H d v F):Aa6 K B' d v:=by
 obtain⟨c,C,dx,a,w,q,kds,hds,kvs,hvs,ps,rfl,rfl,e3,ha,hw,fl,rk,hq,rfl,h3⟩:=h.ex
 refine Ju e3 (kp a (by simp) _ ha) (FO rfl (kp w (by simp) _ hw) (rk.ext xb)) (FO rfl (kp q (by simp) _ hq) ?_)
 have kp2 : ∀ p∈ps,∀ o,H p=some o->B' p=some o:=fun p m=>kp p (by simp[m])
 clear hq ha kp h
 obtain⟨xe,hvs⟩:=hvs
 replace h3:All3 _ hds hvs ps:=h3
 induction h3 with
 | nil=>exact Abn.mpr rfl
 | cons h t ih=>
  refine Aay.mpr ⟨_,_,_,rfl,h.1,?_,ih fun p m=>kp2 p (cA _ m)⟩
  have:=h.2.2.share xb fun b hb=>kp2 b (by rw[dB.mp hb]; exact bY)
  rw[h.2.1]
  exact this
theorem RepB.mut (h:RepB K B H d v F) : ∀ a∈F,(∃ xs,H a=some (.lst xs)) \/ ∃ q:DQ,H a=some (dO q):=by
 obtain⟨c,C,dx,a,w,q,kds,hds,kvs,hvs,ps,rfl,rfl,e3,ha,hw,fl,rk,hq,rfl,h3⟩:=h.ex
 intro b m
 simp only[cJ] at m
 rcases m with rfl | rfl | rfl | m
 ·exact .inr ⟨.ins _ _ _,ha⟩
 ·exact .inr ⟨.inl _,hw⟩
 ·exact .inr ⟨.inl _,hq⟩
 ·obtain⟨_,_,_,_,kds,p,ts,_,e2,hp,_⟩:=h3.of b m
  cases e2
  exact .inr ⟨.inr ts,hp⟩
theorem Aec.keep (xb:Ext B B')(kp : ∀ a∈F,H' a=H a)(h:Aec K B H n d v F):Aec K B' H' n d v F:=by
 unfold Aec at h ⊢
 split at h
 ·rw[if_pos ‹_›]
  exact h.imp id fun h=>h.imp (fun h=>h.keep xb kp) fun h=>h.keep xb kp
 ·rw[if_neg ‹_›]
  exact Ae5.keep xb kp h
theorem Aec.share (xb:Ext B B')(kp : ∀ a∈F,∀ o,H a=some o->B' a=some o)(h:Aec K B H n d v F):Aa6 K B' d v:=by
 unfold Aec at h
 split at h
 ·rcases h with⟨rfl,rfl,_⟩ | h | h
  ·exact Abg.mpr rfl
  ·exact h.share xb kp
  ·exact h.share xb kp
 ·exact Ae5.share xb kp h
theorem Aec.flat (xb : ∀ a xs,B a=some (.tup xs)->B' a=some (.tup xs))(f:hX n d=true)(h:Aec K B H n d v F):Aec K B' H n d v F:=by
 unfold Aec at h ⊢
 split at h
 ·rw[if_pos ‹_›]
  exact h.imp id fun h=>h.imp (fun h=>h.flat xb) fun h=>h.flat xb
 ·rw[if_neg ‹_›]
  exact Ae5.flat xb f h
theorem Aec.nd (xb:NdX B B')(hn:n<9)(f:iN n d=true)(h:Aec K B H n d v F):Aec K B' H n d v F:=by
 unfold Aec at h ⊢
 rw[if_neg (by omega)] at h ⊢
 exact Ae5.nd xb f h
theorem Aec.mut (h:Aec K B H n d v F) : ∀ a∈F,(∃ xs,H a=some (.lst xs)) \/ ∃ q:DQ,H a=some (dO q):=by
 unfold Aec at h
 split at h
 ·rcases h with⟨_,_,rfl⟩ | ⟨kds,p,ts,e1,e2,hp,rfl,f,r⟩ | h
  ·exact fun a m=>by simp at m
  ·intro a m
   rw[dB.mp m]
   exact .inr ⟨.inr ts,hp⟩
  ·exact h.mut
 ·exact Ae5.mut h
end
abbrev EF:=List (Option aA)->Option aA
abbrev BF:=List (Option aA)->Option Bool
abbrev AF:=List (Option aA)->Option (List aA)
def Ais (K:aH)(B:Hp)(ρ:List (Option aA))(σ:St):Prop:=∀ (i:Nat) d,ρ[i]?=some (some d) -> ∃ v,σ[i]?=some (some v)/\Aa6 K B d v
theorem Ais.ext {K:aH}{B B':Hp}{ρ:List (Option aA)}{σ:St}(h:Ais K B ρ σ)(x:Ext B B'):Ais K B' ρ σ:=fun i d e=>let ⟨v,h1,h2⟩:=h i d e; ⟨v,h1,h2.ext x⟩
def Res (K:aH)(P:aB->Prop)(n:Nat)(d:aA)(H:Hp)(Q:VK):Prop:=
 ∀ v H' Fr,Ext H H'->Fr.Nodup->(∀ a∈Fr,H a=none /\ ∃ o,H' a=some o)->Aec K (hid H' (orL P Fr)) H' n d v Fr->Q v H'
section
variable {K:aH}{P:aB->Prop}{n:Nat}{d:aA}{H H':Hp}{Q:VK}{v:V}
theorem Res.zero (h:Res K P 0 d H Q)(x:Ext H H')(r:Aa6 K (hid H' P) d v):Q v H':=
 h v H' [] x .nil (fun a m=>by simp at m) ⟨rfl,by rw[LU]; exact r⟩
theorem cG (h : ∀ v H',Ext H H'->Aa6 K (hid H' P) d v->Q v H'):Res K P 0 d H Q:=fun v H' Fr x _ _ r=>by
 obtain⟨rfl,r⟩:=r
 rw[LU] at r
 exact h v H' x r
theorem Res.mono (h:Res K P n d H Q)(x:Ext H H'):Res K P n d H' Q:=fun v H2 Fr x2 nd fr r=>
 h v H2 Fr (x.trans x2) nd (fun a m=>⟨x.none (fr a m).1,(fr a m).2⟩) r
theorem Res.of (hP:Hid P H)(h:Res K P 0 d H Q):Res K P n d H Q:=fun v H2 Fr x2 nd fr r=>
 h.zero x2 (r.share (fP fun a p=>.inl p) fun a m o e=>dZ (hP.new (fr a m).1) e)
theorem Res.lst {ds:List aA}{xs:List V}{p:aB}(hP:Hid P H)(h:Res K P 1 (.list ds) H Q)(n:H p=none)(r:Aar K (hid H P) ds xs):Q (.ref p) (upd H p (.lst xs)):=by
 refine h (.ref p) _ [p] (Ext.new n) (fS.mpr ⟨by simp,.nil⟩) (fun a m=>?_) ⟨p,xs,xs.map fun _=>[],rfl,eB,?_,?_⟩
 ·have:a=p:=by simpa using m
  subst this
  exact⟨n,_,eB⟩
 ·have : ∀ l:List V,(l.map fun _=>([]:List aB)).flatten=[]:=fun l=>by
   induction l with
   | nil=>rfl
   | cons a l ih=>rw[dJ,uB,ih]; rfl
  rw[this]
 ·have xe:Ext (hid H P) (hid (upd H p (.lst xs)) (orL P [p])):=fun b o e=>by
   obtain⟨nb,e⟩:=Ab3.mp e
   have hb:=gK e n
   exact dZ (fun q=>q.elim nb fun m=>hb (by simpa using m)) (by rw[bN hb]; exact e)
  generalize hid (upd H p (.lst xs)) (orL P [p])=B at xe
  generalize upd H p (.lst xs)=H1
  clear h
  have go : ∀ (ds:List aA) (xs:List V),Aar K (hid H P) ds xs->All3 (Ae5 K B H1 0) ds xs (xs.map fun _=>[]):=by
   intro ds
   induction ds with
   | nil=>intro xs r; rw[Aan.mp r]; exact .nil
   | cons d ds ih=>
    intro xs r
    obtain⟨y,t,rfl,h1,h2⟩:=Aad.mp r
    exact .cons ⟨rfl,h1.ext xe⟩ (ih t h2)
  exact go ds xs r
theorem Res.tup {ds:List aA}{xs:List V}{p:aB}(hP:Hid P H)(h:Res K P 0 (.tuple ds) H Q)(n:H p=none)(r:Aar K (hid H P) ds xs):Q (.ref p) (upd H p (.tup xs)):=by
 refine h.zero (Ext.new n) (Aaw.mpr ⟨p,xs,rfl,dZ (hP.new n) eB,r.ext fun b o e=>?_⟩)
 obtain⟨nb,e⟩:=Ab3.mp e
 exact dZ nb (Ext.new n _ _ e)
end
noncomputable def tF (K:aH)(n:Nat)(f:EF):TE:=fun σ H Q=>∃ P ρ d,Hid P H/\Ais K (hid H P) ρ σ/\f ρ=some d/\Res K P n d H Q
noncomputable def tTF (K:aH)(f:BF):TT:=fun σ H Q=>∃ P ρ b,Hid P H/\Ais K (hid H P) ρ σ/\f ρ=some b /\ ∀ H',Ext H H'->Q b H'
noncomputable def tAF (K:aH)(f:AF):TA:=fun σ H Q=>∃ P ρ ds,Hid P H/\Ais K (hid H P) ρ σ/\f ρ=some ds /\ ∀ vs H',Ext H H'->Aar K (hid H' P) ds vs->Q vs H'
abbrev DF (n:Nat)(X:Cx)(e:aS)(f:EF):Prop:=PE X e (tF X.K n f)
abbrev DE (X:Cx)(e:aS)(f:EF):Prop:=PE X e (tF X.K 0 f)
abbrev DT (X:Cx)(e:aS)(f:BF):Prop:=PT X e (tTF X.K f)
abbrev DW (X:Cx)(e:aS)(f:BF):Prop:=PW X e (tTF X.K f)
abbrev DA (X:Cx)(es:List aS)(f:AF):Prop:=PA X es (tAF X.K f)
section
variable {X:Cx}{e a b:aS}{es:List aS}{pos:bL}{n:Nat}
theorem PE.imp {t t':TE}(h:PE X e t)(w : ∀ σ H Q,t' σ H Q->t σ H Q):PE X e t':=fun pins s σ H Q I q=>h pins s σ H Q I (w _ _ _ q)
theorem PT.imp {t t':TT}(h:PT X e t)(w : ∀ σ H Q,t' σ H Q->t σ H Q):PT X e t':=fun pins s σ H Q I q=>h pins s σ H Q I (w _ _ _ q)
theorem PW.imp {t t':TT}(h:PW X e t)(w : ∀ σ H Q,t' σ H Q->t σ H Q):PW X e t':=fun whole pins s σ H Q I q=>h whole pins s σ H Q I (w _ _ _ q)
theorem PA.imp {t t':TA}(h:PA X es t)(w : ∀ σ H Q,t' σ H Q->t σ H Q):PA X es t':=fun pos pins s σ H Q I q=>h pos pins s σ H Q I (w _ _ _ q)
theorem gV {f:EF}(h:DF n X e f):DE X e f:=PE.imp h fun σ H Q ⟨P,ρ,d,hP,rs,ef,k⟩=>⟨P,ρ,d,hP,rs,ef,Res.of hP k⟩
noncomputable def aF (i:Nat):EF:=fun ρ=>(ρ[i]?).join
theorem PJ {i:Nat}{ρ:List (Option aA)}{d:aA}(h:aF i ρ=some d):ρ[i]?=some (some d):=by
 unfold aF at h
 cases e:ρ[i]? with
 | none=>rw[e] at h; simp at h
 | some o=>rw[e] at h; simp at h; rw[h]
theorem aJ (i:Nat){x:aD}(hN:X.N[i]?=some x:=by rfl)(hv:lO X.env.scope x:=by first | exact bH rfl | exact bE (bH rfl) | exact bE (bE rfl))(hd:(x == ("__debug__" : aD))=false:=by decide)
  (hcd:(x == ("__classdict__" : aD))=false:=by decide):DE X (.Name x pos) (aF i):=PE.imp (oJ hN hv hd hcd) fun σ H Q gh=>by
 obtain⟨P,ρ,d,hP,rs,ef,k⟩:=gh
 obtain⟨v,h1,h2⟩:=rs i d (PJ ef)
 exact⟨v,h1,k.zero Ext.refl h2⟩
noncomputable def eC (d:aA):EF:=fun _=>some d
theorem tH {d:aA}{v:V}(h:PE X e (tC v))(hr : ∀ H,Aa6 X.K H d v):DE X e (eC d):=PE.imp h fun σ H Q gh=>by
 obtain⟨P,ρ,d',hP,rs,ef,k⟩:=gh
 cases ef
 exact k.zero Ext.refl (hr _)
theorem aU {i j}:DE X (.Constant (.int i) j pos) (eC (.int i)):=tH ZX fun _=>Aao.mpr rfl
theorem hJ {i j}:DE X (.Constant (.bool i) j pos) (eC (.bool i)):=tH pO fun _=>Aak.mpr rfl
theorem rU {j}:DE X (.Constant .none j pos) (eC .none):=tH CA fun _=>Abg.mpr rfl
theorem kU {i j}(h:dE (.str i)=true:=by decide +kernel):DE X (.Constant (.str i) j pos) (eC (.str i)):=tH SK fun _=>Aaq.mpr ⟨rfl,h⟩
theorem sJ {x:aD}{i:Int}{u:aE}(hg:Gl X x)(hm:X.mg x=some u)(r:RelV (.int i) u)(hd:(x == ("__debug__" : aD))=false:=by decide):DE X (.Name x pos) (eC (.int i)):=tH (MF hg hm r hd) fun _=>Aao.mpr rfl
theorem FE {x:aD}{i:aD}{u:aE}(hg:Gl X x)(hm:X.mg x=some u)(r:RelV (.str i) u)(hl:dE (.str i)=true:=by decide +kernel)(hd:(x == ("__debug__" : aD))=false:=by decide):DE X (.Name x pos) (eC (.str i)):=tH (MF hg hm r hd) fun _=>Aaq.mpr ⟨rfl,hl⟩
noncomputable def aL:AF:=fun _=>some []
noncomputable def aI (f:EF)(g:AF):AF:=fun ρ=>(f ρ).bind fun d=>(g ρ).bind fun ds=>some (d::ds)
theorem aX:DA X [] aL:=PA.imp jE fun σ H Q gh=>by
 obtain⟨P,ρ,d,hP,rs,ef,k⟩:=gh
 cases ef
 exact k [] H Ext.refl (Aan.mpr rfl)
theorem aM {f:EF}{g:AF}(h1:DE X e f)(h2:DA X es g)(hs:bD (e::es) X.env=(false,bI e X.env)::bD es X.env:=by rfl):DA X (e::es) (aI f g):=
 PA.imp (fJ h1 h2 hs) fun σ H Q gh=>by
  obtain⟨P,ρ,ds,hP,rs,ef,k⟩:=gh
  obtain⟨d,e1,ef⟩:=XBs ef
  obtain⟨r,e2,ef⟩:=XBs ef
  cases ef
  exact⟨P,ρ,d,hP,rs,e1,cG fun v H1 x1 r1=>⟨P,ρ,r,hP.ext x1,rs.ext (bO x1),e2,fun vs H2 x2 r2=>
   k _ _ (x1.trans x2) (Aad.mpr ⟨v,vs,rfl,r1.ext (bO x2),r2⟩)⟩⟩
noncomputable def iK (g:AF):EF:=fun ρ=>(g ρ).bind fun ds=>if ds.length≤sizeLine then some (.tuple ds) else none
noncomputable def jQ (g:AF):EF:=fun ρ=>(g ρ).bind fun ds=>if ds.length≤sizeLine then some (.list ds) else none
theorem cT {α:Type}{c:Prop}[Decidable c]{x y:α}(h:(if c then some x else none)=some y):c/\x=y:=by
 by_cases q:c
 ·rw[if_pos q] at h; exact⟨q,eO h⟩
 ·rw[if_neg q] at h; cases h
theorem kT {g:AF}{x1}(h:DA X es g):DE X (.Tuple es x1 pos) (iK g):=PE.imp (Ih h) fun σ H Q gh=>by
 obtain⟨P,ρ,d,hP,rs,ef,k⟩:=gh
 obtain⟨ds,e1,ef⟩:=XBs ef
 obtain⟨hl,rfl⟩:=cT ef
 exact⟨P,ρ,ds,hP,rs,e1,fun vs H1 x1 r1=>⟨by rw[r1.length]; exact hl,fun p hp=>(k.mono x1).tup (hP.ext x1) hp r1⟩⟩
theorem rY {g:AF}(h:DA X es g):DF 1 X (.List es pos) (jQ g):=PE.imp (ZF h) fun σ H Q gh=>by
 obtain⟨P,ρ,d,hP,rs,ef,k⟩:=gh
 obtain⟨ds,e1,ef⟩:=XBs ef
 obtain⟨hl,rfl⟩:=cT ef
 exact⟨P,ρ,ds,hP,rs,e1,fun vs H1 x1 r1=>⟨by rw[r1.length]; exact hl,fun p hp=>(k.mono x1).lst (hP.ext x1) hp r1⟩⟩
def OpD (K:aH)(n:Nat)(r:R2)(g:aA->aA->Option aA):Prop:=
 ∀ (P:aB->Prop) (H:Hp) (x y:V) (a b d:aA) (Q:VK),Hid P H->Aa6 K (hid H P) a x->Aa6 K (hid H P) b y->g a b=some d->Res K P n d H Q->r x y H Q
noncomputable def eOp (g:aA->aA->Option aA)(fa fb:EF):EF:=fun ρ=>(fa ρ).bind fun a=>(fb ρ).bind fun b=>g a b
theorem HV {r:R2}{g:aA->aA->Option aA}{fa fb:EF}{K:aH}(hg:OpD K n r g) : ∀ σ H Q,tF K n (eOp g fa fb) σ H Q->tOp r (tF K 0 fa) (tF K 0 fb) σ H Q:=fun σ H Q gh=>by
 obtain⟨P,ρ,d,hP,rs,ef,k⟩:=gh
 obtain⟨d1,e1,ef⟩:=XBs ef
 obtain⟨d2,e2,ef⟩:=XBs ef
 exact⟨P,ρ,d1,hP,rs,e1,cG fun v H1 x1 r1=>⟨P,ρ,d2,hP.ext x1,rs.ext (bO x1),e2,cG fun u H2 x2 r2=>
  hg P H2 v u d1 d2 d Q (hP.ext (x1.trans x2)) (r1.ext (bO x2)) r2 ef (k.mono (x1.trans x2))⟩⟩
theorem pQ {op:Operator}{r:R2}{g:aA->aA->Option aA}{fa fb:EF}(ho:OpR X (kC op) r)(hg:OpD X.K n r g)(ha:DE X a fa)(hb:DE X b fb):DF n X (.BinOp a op b pos) (eOp g fa fb):=PE.imp (YK ho ha hb) (HV hg)
theorem iD {op:CmpOp}{r:R2}{g:aA->aA->Option aA}{fa fb:EF}(ho:OpR X (dR op) r)(hg:OpD X.K 0 r g)(ha:DE X a fa)(hb:DE X b fb)(hm:xA op b=false):DE X (.Compare a [op] [b] pos) (eOp g fa fb):=PE.imp (LB ho ha hb hm) (HV hg)
noncomputable def eUn (g:aA->Option aA)(fa:EF):EF:=fun ρ=>(fa ρ).bind g
def CallD (K:aH)(n:Nat)(r:List V->Hp->VK->Prop)(g:List aA->Option aA):Prop:=
 ∀ (P:aB->Prop) (H:Hp) (xs:List V) (ds:List aA) (d:aA) (Q:VK),Hid P H->Aar K (hid H P) ds xs->g ds=some d->Res K P n d H Q->r xs H Q
noncomputable def aR (g:List aA->Option aA)(fa:AF):EF:=fun ρ=>(fa ρ).bind g
variable {r:List V->Hp->VK->Prop}{g:List aA->Option aA}{fa:AF}{x:aD}{p:bL}{id T:String}
theorem fK (hc:Ac8 X (.builtin id) r)(hg:CallD X.K n r g)(hgl:Gl X x)(hm:X.mg x=none)(hv:iX x=some (.builtin id))(ha:DA X (e::es) fa)(hn:x ≠ "__name__":=by decide)(hdb:(x == ("__debug__" : aD))=false:=by decide)
  (he:bD (e::es) X.env=(false,bI e X.env)::bD es X.env:=by rfl) (hpl:(eM pos (bD es X.env)).any (·.1)=false:=by rfl):DF n X (.Call (.Name x p) (e::es) [] pos) (aR g fa):=
 PE.imp (vP hc hgl hm hv ha hn hdb he hpl) fun σ H Q gh=>by
  obtain⟨P,ρ,d,hP,rs,ef,k⟩:=gh
  obtain⟨d1,e1,ef⟩:=XBs ef
  exact⟨P,ρ,d1,hP,rs,e1,fun vs H1 x1 r1=>hg P H1 vs d1 d Q (hP.ext x1) r1 ef (k.mono x1)⟩
theorem zM (hc:Ac8 X (.type T) r)(hg:CallD X.K n r g)(hgl:Gl X x)(hm:X.mg x=none)(hv:iX x=some (.type T))(ha:DA X (e::es) fa)(hn:x ≠ "__name__":=by decide)(hdb:(x == ("__debug__" : aD))=false:=by decide)
  (he:bD (e::es) X.env=(false,bI e X.env)::bD es X.env:=by rfl) (hpl:(eM pos (bD es X.env)).any (·.1)=false:=by rfl):DF n X (.Call (.Name x p) (e::es) [] pos) (aR g fa):=
 PE.imp (PM hc hgl hm hv ha hn hdb he hpl) fun σ H Q gh=>by
  obtain⟨P,ρ,d,hP,rs,ef,k⟩:=gh
  obtain⟨d1,e1,ef⟩:=XBs ef
  exact⟨P,ρ,d1,hP,rs,e1,fun vs H1 x1 r1=>hg P H1 vs d1 d Q (hP.ext x1) r1 ef (k.mono x1)⟩
noncomputable def asB:aA->Option Bool
 | .bool b=>some b
 | _=>none
theorem mX {d:aA}{b:Bool}(h:asB d=some b):d = .bool b:=by
 cases d <;> simp[asB] at h
 rw[h]
noncomputable def bOf (f:EF):BF:=fun ρ=>(f ρ).bind asB
theorem iS {f:EF}(h:DE X e f)(he : ∀ whole,qV e X.env whole=(do let v ← whole; nM e.pos; kB [v] (truthy v)):=by intro _; rfl):DT X e (bOf f):=PT.imp (CN h he) fun σ H Q gh=>by
 obtain⟨P,ρ,b,hP,rs,ef,k⟩:=gh
 obtain⟨d,e1,ef⟩:=XBs ef
 cases mX ef
 exact⟨P,ρ,_,hP,rs,e1,cG fun v H1 x1 r1=>⟨b,Aak.mp r1,k H1 x1⟩⟩
theorem fG {op:CmpOp}{r:R2}{g:aA->aA->Option aA}{fa fb:EF}(ho:OpR X (dR op) r)(hg:OpD X.K 0 r g)(ha:DE X a fa)(hb:DE X b fb)(hm:xA op b=false):DT X (.Compare a [op] [b] pos) (bOf (eOp g fa fb)):=
 PT.imp (Jx ho ha hb hm) fun σ H Q gh=>by
  obtain⟨P,ρ,c,hP,rs,ef,k⟩:=gh
  obtain⟨d,e1,ef⟩:=XBs ef
  cases mX ef
  exact HV hg σ H _ ⟨P,ρ,_,hP,rs,e1,cG fun v H1 x1 r1=>⟨c,Aak.mp r1,k H1 x1⟩⟩
noncomputable def fT (f:BF):BF:=fun ρ=>(f ρ).bind fun b=>some (!b)
noncomputable def bOr (f g:BF):BF:=fun ρ=>(f ρ).bind fun b=>if b=true then some true else g ρ
variable {fB gB:BF}{rest:List aS}
theorem lX (h:DT X a fB):DT X (.UnaryOp .Not a pos) (fT fB):=PT.imp (CU h) fun σ H Q gh=>by
 obtain⟨P,ρ,c,hP,rs,ef,k⟩:=gh
 obtain⟨b,e1,ef⟩:=XBs ef
 cases ef
 exact⟨P,ρ,b,hP,rs,e1,fun H1 x1=>k H1 x1⟩
theorem pU (h:DT X a fB):DW X (.BoolOp .Or [a] pos) fB:=Iq h
theorem mR (h:DT X a fB)(h2:DW X (.BoolOp .Or (b::rest) pos) gB):DW X (.BoolOp .Or (a::b::rest) pos) (bOr fB gB):=PW.imp (XF h h2) fun σ H Q gh=>by
 obtain⟨P,ρ,c,hP,rs,ef,k⟩:=gh
 obtain⟨b,e1,ef⟩:=XBs ef
 refine⟨P,ρ,b,hP,rs,e1,fun H1 x1=>?_⟩
 cases b with
 | true=>
  have:true=c:=by simpa using ef
  subst this
  exact jO (k H1 x1)
 | false=>exact iB ⟨P,ρ,c,hP.ext x1,rs.ext (bO x1),by simpa using ef,fun H2 x2=>k H2 (x1.trans x2)⟩
theorem qJ (h:DW X a fB):DT X a fB:=h.pt
noncomputable def JR (f:EF):EF:=fun ρ=>(f ρ).bind fun d=>(asB d).bind fun b=>some (.bool (!b))
noncomputable def gO (f g:EF):EF:=fun ρ=>(f ρ).bind fun d=>(asB d).bind fun b=>if b=true then g ρ else some (.bool false)
variable {f1 f2:EF}
theorem oI {op}(h:DE X a f1):DE X (.BoolOp op [a] pos) f1:=Ad h
theorem YU (h:DE X a f1):DE X (.UnaryOp .Not a pos) (JR f1):=PE.imp (Aa h) fun σ H Q gh=>by
 obtain⟨P,ρ,c,hP,rs,ef,k⟩:=gh
 obtain⟨d,e1,ef⟩:=XBs ef
 obtain⟨b,e2,ef2⟩:=XBs ef
 clear ef
 have ef:=ef2
 clear ef2
 cases ef
 cases mX e2
 exact⟨P,ρ,_,hP,rs,e1,cG fun v H1 x1 r1=>⟨b,Aak.mp r1,k.zero x1 (Aak.mpr rfl)⟩⟩
theorem mS (h:DE X a f1)(h2:DE X (.BoolOp .And (b::rest) pos) f2):DE X (.BoolOp .And (a::b::rest) pos) (gO f1 f2):=PE.imp (Ae h h2) fun σ H Q gh=>by
 obtain⟨P,ρ,c,hP,rs,ef,k⟩:=gh
 obtain⟨d,e1,ef⟩:=XBs ef
 obtain⟨b,e2,ef2⟩:=XBs ef
 clear ef
 have ef:=ef2
 clear ef2
 cases mX e2
 refine⟨P,ρ,_,hP,rs,e1,cG fun v H1 x1 r1=>⟨b,Aak.mp r1,?_⟩⟩
 cases b with
 | true=>exact jO ⟨P,ρ,c,hP.ext x1,rs.ext (bO x1),by simpa using ef,k.mono x1⟩
 | false=>
  have:eX false=c:=by simpa using ef
  subst this
  exact iB (k.zero x1 (Aak.mpr rfl))
noncomputable def kR (g g':aA->aA->Option aA)(fa fb fc:EF):EF:=fun ρ=>(fa ρ).bind fun a=>(fb ρ).bind fun b=>(g a b).bind fun z=>(asB z).bind fun t=>if t=true then(fc ρ).bind fun c=>g' b c else some (.bool false)
theorem NC {r r':R2}{g g':aA->aA->Option aA}{fa fb fc:EF}{K:aH}(hg:OpD K 0 r g)(hg':OpD K 0 r' g') : ∀ σ H Q,tF K 0 (kR g g' fa fb fc) σ H Q->CG r r' (tF K 0 fa) (tF K 0 fb) (tF K 0 fc) σ H Q:=fun σ H Q gh=>by
 obtain⟨P,ρ,d,hP,rs,ef,k⟩:=gh
 obtain⟨d1,e1,ef⟩:=XBs ef
 obtain⟨d2,e2,ef⟩:=XBs ef
 obtain⟨z,e3,ef⟩:=XBs ef
 obtain⟨t,e4,ef2⟩:=XBs ef
 clear ef
 have ef:=ef2
 clear ef2
 cases mX e4
 refine⟨P,ρ,d1,hP,rs,e1,cG fun v H1 x1 r1=>⟨P,ρ,d2,hP.ext x1,rs.ext (bO x1),e2,cG fun u H2 x2 r2=>?_⟩⟩
 refine hg P H2 v u d1 d2 _ _ (hP.ext (x1.trans x2)) (r1.ext (bO x2)) r2 e3 (cG fun q H3 x3 r3=>⟨t,Aak.mp r3,?_⟩)
 cases t with
 | true=>
  obtain⟨d3,e5,ef⟩:=XBs (show((fc ρ).bind fun c=>g' d2 c)=some d by simpa using ef)
  exact jO ⟨P,ρ,d3,hP.ext ((x1.trans x2).trans x3),rs.ext (bO ((x1.trans x2).trans x3)),e5,cG fun w H4 x4 r4=>
   hg' P H4 u w d2 d3 d Q (hP.ext (((x1.trans x2).trans x3).trans x4)) (r2.ext (bO (x3.trans x4))) r4 ef (k.mono (((x1.trans x2).trans x3).trans x4))⟩
 | false=>
  have:eX false=d:=by simpa using ef
  subst this
  exact iB (k.zero ((x1.trans x2).trans x3) (Aak.mpr rfl))
end
abbrev Slot:=Option (Nat×aA)
abbrev bB:=List Slot
noncomputable def vS (ρ:bB):List (Option aA):=ρ.map fun s=>match s with | some (0,d)=>some d | _=>none
noncomputable def vA (ρ:bB):List (Option aA):=ρ.map fun s=>s.map (·.2)
theorem YR {ρ:bB}{i:Nat}{d:aA}(h:(vS ρ)[i]?=some (some d)):ρ[i]?=some (some (0,d)):=by
 unfold vS at h
 rw[gZ] at h
 cases e:ρ[i]? with
 | none=>rw[e] at h; simp at h
 | some s=>
  rw[e] at h
  simp only[rB,xG] at h
  cases s with
  | none=>simp at h
  | some q=>
   obtain⟨n,d'⟩:=q
   cases n with
   | zero=>simp at h; rw[h]
   | succ n=>simp at h
theorem YS {ρ:bB}{i:Nat}{d:aA}(h:(vA ρ)[i]?=some (some d)) : ∃ n,ρ[i]?=some (some (n,d)):=by
 unfold vA at h
 rw[gZ] at h
 cases e:ρ[i]? with
 | none=>rw[e] at h; simp at h
 | some s=>
  rw[e] at h
  cases s with
  | none=>simp at h
  | some q=>
   obtain⟨n,d'⟩:=q
   simp at h
   exact⟨n,by rw[h]⟩
abbrev Hd (P0:aB->Prop)(fp:Nat->List aB):aB->Prop:=fun a=>P0 a \/ ∃ i,a∈fp i
structure Sta (K:aH)(H0:Hp)(P0:aB->Prop)(B0:Hp)(ρ:bB)(σ:St)(H:Hp)(fp:Nat->List aB):Prop where
 len:σ.length=ρ.length
 nd : ∀ i,(fp i).Nodup
 dj : ∀ i j a,a∈fp i->a∈fp j->i=j
 own : ∀ i a,a∈fp i->H0 a=none/\((∃ xs,H a=some (.lst xs)) \/ ∃ q:DQ,H a=some (dO q))
 ext:Ext H0 H
 hd:Hid P0 H0
 base:Ext B0 (hid H (Hd P0 fp))
 slot : ∀ (i:Nat) n d,ρ[i]?=some (some (n,d)) -> ∃ v,σ[i]?=some (some v)/\Aec K (hid H (Hd P0 fp)) H n d v (fp i)
section
variable {K:aH}{H0 H H' B0:Hp}{P0:aB->Prop}{ρ:bB}{σ:St}{fp:Nat->List aB}
theorem Sta.hid (S:Sta K H0 P0 B0 ρ σ H fp):Hid (Hd P0 fp) H:=fun a h=>by
 rcases h with h | ⟨i,h⟩
 ·exact S.hd.ext S.ext a h
 ·exact(S.own i a h).2
theorem Sta.np (S:Sta K H0 P0 B0 ρ σ H fp){i:Nat}{a:aB}(m:a∈fp i) : ¬ P0 a:=S.hd.new (S.own i a m).1
theorem Sta.grow (S:Sta K H0 P0 B0 ρ σ H fp)(x:Ext H H'):Sta K H0 P0 B0 ρ σ H' fp:=by
 refine⟨S.len,S.nd,S.dj,fun i a m=>⟨(S.own i a m).1,(S.own i a m).2.imp (fun⟨xs,e⟩=>⟨xs,x _ _ e⟩) fun⟨xs,e⟩=>⟨xs,x _ _ e⟩⟩,S.ext.trans x,S.hd,S.base.trans (bO x),fun i n d e=>?_⟩
 obtain⟨v,h1,h2⟩:=S.slot i n d e
 refine⟨v,h1,h2.keep (bO x) fun a m=>?_⟩
 rcases(S.own i a m).2 with⟨xs,e⟩ | ⟨xs,e⟩
 ·rw[e,x _ _ e]
 ·rw[e,x _ _ e]
theorem Sta.viewS (S:Sta K H0 P0 B0 ρ σ H fp):Ais K (L2.hid H (Hd P0 fp)) (vS ρ) σ:=fun i d e=>by
 obtain⟨v,h1,h2⟩:=S.slot i 0 d (YR e)
 exact⟨v,h1,h2.2⟩
theorem Sta.viewA (S:Sta K H0 P0 B0 ρ σ H fp):Ais K (L2.hid H P0) (vA ρ) σ:=fun i d e=>by
 obtain⟨n,e⟩:=YS e
 obtain⟨v,h1,h2⟩:=S.slot i n d e
 exact⟨v,h1,h2.share (fP fun a p=>.inl p) fun a m o e=>dZ (S.np m) e⟩
def Tmp (K:aH)(H0:Hp)(P0:aB->Prop)(B0:Hp)(ρ:bB)(σ:St)(n:Nat)(d:aA)(v:V)(H:Hp):Prop:=
 ∃ fp,Sta K H0 P0 B0 ρ σ H fp/\Aec K (L2.hid H (Hd P0 fp)) H n d v (fp ρ.length)
inductive Md | s | a
noncomputable def BZ (ρ:bB):Bool:=ρ.all fun s=>match s with
 | some (0,_)=>true
 | some (1,.dict _)=>true
 | none=>true
 | _=>false
noncomputable def BR (ρ:bB):Bool:=ρ.all fun s=>match s with
 | some (9,_)=>false
 | _=>true
noncomputable def eV (n:Nat)(m:Md)(f:EF)(ρ:bB):Option aA:=match m with
 | .s=>f (vS ρ)
 | .a=>(f (vA ρ)).bind fun d=>if (hX n d||(BZ ρ&&decide (n<9)&&iN n d)||(BR ρ&&decide (n=0)&&ftD d))=true then some d else none
noncomputable def bV (m:Md)(f:BF)(ρ:bB):Option Bool:=match m with
 | .s=>f (vS ρ)
 | .a=>f (vA ρ)
noncomputable def aV (m:Md)(f:AF)(ρ:bB):Option (List aA):=match m with
 | .s=>f (vS ρ)
 | .a=>f (vA ρ)
noncomputable def tE (K:aH)(H0:Hp)(P0:aB->Prop)(n:Nat)(m:Md)(f:EF):TE:=fun σ H Q=>∃ B0 ρ fp d,Sta K H0 P0 B0 ρ σ H fp/\eV n m f ρ=some d /\ ∀ v H',Tmp K H0 P0 B0 ρ σ n d v H'->Q v H'
end
section
variable {X:Cx}{H0:Hp}{P0:aB->Prop}{e:aS}{n:Nat}
theorem Sta.trim {K:aH}{B0:Hp}{ρ:bB}{σ:St}{H:Hp}{fp:Nat->List aB}(S:Sta K H0 P0 B0 ρ σ H fp) : ∃ fp',Sta K H0 P0 B0 ρ σ H fp' /\ ∀ i a,a∈fp' i->a∈fp i /\ ∃ n d,ρ[i]?=some (some (n,d)):=by
 let fp':Nat->List aB:=fun i=>match ρ[i]? with
  | some (some _)=>fp i
  | _=>[]
 have sub : ∀ i a,a∈fp' i->a∈fp i /\ ∃ n d,ρ[i]?=some (some (n,d)):=fun i a m=>by
  have m:a∈(match ρ[i]? with | some (some _)=>fp i | _=>[]):=m
  split at m
  ·rename_i x e
   exact⟨m,x.1,x.2,e⟩
  ·simp at m
 have same : ∀ i n d,ρ[i]?=some (some (n,d))->fp' i=fp i:=fun i n d e=>by
  show(match ρ[i]? with | some (some _)=>fp i | _=>[])=fp i
  rw[e]
 have xb:Ext (L2.hid H (Hd P0 fp)) (L2.hid H (Hd P0 fp')):=fP fun a h=>h.imp id fun⟨i,m⟩=>⟨i,(sub i a m).1⟩
 refine⟨fp',⟨S.len,fun i=>?_,fun i j a h1 h2=>S.dj i j a (sub i a h1).1 (sub j a h2).1,fun i a m=>S.own i a (sub i a m).1,S.ext,S.hd,S.base.trans xb,fun i n d e=>?_⟩,sub⟩
 ·show(match ρ[i]? with | some (some _)=>fp i | _=>[]).Nodup
  split
  ·exact S.nd i
  ·exact VH
 ·obtain⟨v,h1,h2⟩:=S.slot i n d e
  rw[same i n d e]
  exact⟨v,h1,h2.keep xb fun a m=>rfl⟩
theorem Sta.dicts {K:aH}{B0:Hp}{ρ:bB}{σ:St}{H:Hp}{fp:Nat->List aB}(S:Sta K H0 P0 B0 ρ σ H fp)(ho:BZ ρ=true){i:Nat}{a:aB}{n:Nat}{d:aA}(m:a∈fp i)(e:ρ[i]?=some (some (n,d))) : ∃ q,H a=some (dO (.inl q)):=by
 have:=iA.mp ho _ (rD e)
 obtain⟨v,h1,h2⟩:=S.slot i n d e
 split at this
 ·rename_i z
  cases z
  rw[h2.1] at m
  simp at m
 ·rename_i kds z
  cases z
  obtain⟨p,xs,Fs,_,hp,hF,h3⟩:=h2
  have hn : ∀ {ds:List (aA×aA)} {ys:List (aN×V)} {Gs:List (List aB)},All3 (fun(kd:aA×aA) (kv:aN×V) f=>kd.1=kD kv.1/\Ae5 K (L2.hid H (Hd P0 fp)) H 0 kd.2 kv.2 f) ds ys Gs->Gs.flatten=[]:=fun q=>by
   induction q with
   | nil=>rfl
   | cons h _ ih=>rw[uB,h.2.1,ih]; rfl
  rw[hF,hn h3] at m
  rw[dB.mp m]
  exact⟨xs,hp⟩
 ·rename_i z
  cases z
 ·cases this
theorem Sta.no9 {K:aH}{B0:Hp}{ρ:bB}{σ:St}{H:Hp}{fp:Nat->List aB}(S:Sta K H0 P0 B0 ρ σ H fp)(ho:BR ρ=true){i:Nat}{a:aB}{n:Nat}{d:aA}(m:a∈fp i)(e:ρ[i]?=some (some (n,d))) : ∀ q,H a≠some (dO (.inr q)):=fun q z=>by
 have:=iA.mp ho _ (rD e)
 have n9:n≠9:=fun w=>by subst w; simp at this
 obtain⟨v,h1,h2⟩:=S.slot i n d e
 unfold Aec at h2
 rw[if_neg n9] at h2
 rcases h2.mut1 a m with⟨xs,w⟩ | ⟨p,w⟩ <;> rw[z] at w <;> cases w
theorem xX {K:aH}{f:EF}(m:Md) : ∀ σ H Q,tE K H0 P0 n m f σ H Q->tF K n f σ H Q:=fun σ H Q gh=>by
 obtain⟨B0,ρ,fp,d,S,ef,k⟩:=gh
 cases m with
 | s=>
  refine⟨Hd P0 fp,vS ρ,d,S.hid,S.viewS,ef,fun v H' Fr x nd fr r=>k v H' ?_⟩
  have S':=S.grow x
  have hsub : ∀ a,Hd P0 (fun i=>if i=ρ.length then Fr else fp i) a->orL (Hd P0 fp) Fr a:=fun a h=>by
   rcases h with h | ⟨i,h⟩
   ·exact .inl (.inl h)
   ·by_cases hi:i=ρ.length
    ·simp only[hi,if_true] at h; exact .inr h
    ·simp only[hi,if_false] at h; exact .inl (.inr ⟨i,h⟩)
  have nfr : ∀ i a,a∈fp i->a∉Fr:=fun i a h1 h2=>by
   have:=(fr a h2).1
   rcases(S.own i a h1).2 with⟨xs,e⟩ | ⟨xs,e⟩ <;> rw[this] at e <;> first | cases e | (cases xs <;> simp[dO] at e)
  have xb:Ext (L2.hid H (Hd P0 fp)) (L2.hid H' (Hd P0 fun i=>if i=ρ.length then Fr else fp i)):=fun b o e=>by
   obtain⟨nb,e⟩:=Ab3.mp e
   refine dZ (fun q=>?_) (x _ _ e)
   rcases q with q | ⟨j,q⟩
   ·exact nb (.inl q)
   ·by_cases hj:j=ρ.length
    ·simp only[hj,if_true] at q; rw[(fr b q).1] at e; cases e
    ·simp only[hj,if_false] at q; exact nb (.inr ⟨j,q⟩)
  refine⟨fun i=>if i=ρ.length then Fr else fp i,⟨S.len,fun i=>?_,fun i j a hi hj=>?_,fun i a hi=>?_,S'.ext,S.hd,S.base.trans xb,fun i n' d' e'=>?_⟩,?_⟩
  ·by_cases hi:i=ρ.length
   ·simp only[hi,if_true]; exact nd
   ·simp only[hi,if_false]; exact S.nd i
  ·by_cases h1:i=ρ.length <;> by_cases h2:j=ρ.length
   ·rw[h1,h2]
   ·simp only[h1,if_true] at hi; simp only[h2,if_false] at hj; exact absurd hi (nfr _ _ hj)
   ·simp only[h1,if_false] at hi; simp only[h2,if_true] at hj; exact absurd hj (nfr _ _ hi)
   ·simp only[h1,if_false] at hi; simp only[h2,if_false] at hj; exact S.dj i j a hi hj
  ·by_cases h1:i=ρ.length
   ·simp only[h1,if_true] at hi
    exact⟨S.ext.none (fr a hi).1,r.mut a hi⟩
   ·simp only[h1,if_false] at hi
    exact S'.own i a hi
  ·have hlt:=(fI.mp e').1
   have h1:i≠ρ.length:=by omega
   obtain⟨v',q1,q2⟩:=S'.slot i n' d' e'
   refine⟨v',q1,?_⟩
   simp only[h1,if_false]
   obtain⟨v2,p1,p2⟩:=S.slot i n' d' e'
   have ev:=eO (eO (p1.symm.trans q1))
   subst ev
   refine p2.keep xb fun a m=>?_
   rcases(S.own i a m).2 with⟨xs,e⟩ | ⟨xs,e⟩
   ·rw[e,x _ _ e]
   ·rw[e,x _ _ e]
  ·simp only[if_true]
   exact r.keep (fP hsub) fun a m=>rfl
 | a=>
  obtain⟨d',ed,ef⟩:=XBs ef
  obtain⟨fl,rfl⟩:=cT ef
  obtain⟨fp,S,trm⟩:=S.trim
  refine⟨P0,vA ρ,d',S.hd.ext S.ext,S.viewA,ed,fun v H' Fr x nd fr r=>k v H' ?_⟩
  have S':=S.grow x
  have nfr : ∀ i a,a∈fp i->a∉Fr:=fun i a h1 h2=>by
   have:=(fr a h2).1
   rcases(S.own i a h1).2 with⟨xs,e⟩ | ⟨xs,e⟩ <;> rw[this] at e <;> first | cases e | (cases xs <;> simp[dO] at e)
  have xb:Ext (L2.hid H (Hd P0 fp)) (L2.hid H' (Hd P0 fun i=>if i=ρ.length then Fr else fp i)):=fun b o e=>by
   obtain⟨nb,e⟩:=Ab3.mp e
   refine dZ (fun q=>?_) (x _ _ e)
   rcases q with q | ⟨j,q⟩
   ·exact nb (.inl q)
   ·by_cases hj:j=ρ.length
    ·simp only[hj,if_true] at q; rw[(fr b q).1] at e; cases e
    ·simp only[hj,if_false] at q; exact nb (.inr ⟨j,q⟩)
  refine⟨fun i=>if i=ρ.length then Fr else fp i,⟨S.len,fun i=>?_,fun i j a hi hj=>?_,fun i a hi=>?_,S'.ext,S.hd,S.base.trans xb,fun i n' d' e'=>?_⟩,?_⟩
  ·by_cases hi:i=ρ.length
   ·simp only[hi,if_true]; exact nd
   ·simp only[hi,if_false]; exact S.nd i
  ·by_cases h1:i=ρ.length <;> by_cases h2:j=ρ.length
   ·rw[h1,h2]
   ·simp only[h1,if_true] at hi; simp only[h2,if_false] at hj; exact absurd hi (nfr _ _ hj)
   ·simp only[h1,if_false] at hi; simp only[h2,if_true] at hj; exact absurd hj (nfr _ _ hi)
   ·simp only[h1,if_false] at hi; simp only[h2,if_false] at hj; exact S.dj i j a hi hj
  ·by_cases h1:i=ρ.length
   ·simp only[h1,if_true] at hi
    exact⟨S.ext.none (fr a hi).1,r.mut a hi⟩
   ·simp only[h1,if_false] at hi
    exact S'.own i a hi
  ·have hlt:=(fI.mp e').1
   have h1:i≠ρ.length:=by omega
   obtain⟨v2,p1,p2⟩:=S.slot i n' d' e'
   refine⟨v2,p1,?_⟩
   simp only[h1,if_false]
   refine p2.keep xb fun a m=>?_
   rcases(S.own i a m).2 with⟨xs,e⟩ | ⟨xs,e⟩
   ·rw[e,x _ _ e]
   ·rw[e,x _ _ e]
  ·simp only[if_true]
   have up : ∀ a o,(L2.hid H' (orL P0 Fr)) a=some o->((∃ xs,o = .tup xs) \/ (BZ ρ=true /\ ∀ q,o≠dO (.inl q)) \/ (BR ρ=true /\ ∃ q,o=dO (.inr q)))->(L2.hid H' (Hd P0 fun i=>if i=ρ.length then Fr else fp i)) a=some o:=fun a o e ho=>by
    obtain⟨na,e⟩:=Ab3.mp e
    refine dZ (fun q=>?_) e
    rcases q with q | ⟨j,q⟩
    ·exact na (.inl q)
    ·by_cases hj:j=ρ.length
     ·simp only[hj,if_true] at q; exact na (.inr q)
     ·simp only[hj,if_false] at q
      rcases ho with⟨xs,rfl⟩ | ⟨ho,hq⟩ | ⟨ho,qq,rfl⟩
      ·rcases(S'.own j a q).2 with⟨ys,e2⟩ | ⟨ys,e2⟩ <;> rw[e] at e2 <;> first | cases e2 | (cases ys <;> simp[dO] at e2)
      ·obtain⟨_,n',d',e'⟩:=trm j a q
       obtain⟨z,ez⟩:=S'.dicts ho q e'
       rw[e] at ez
       injection ez with ez
       exact hq z ez
      ·obtain⟨_,n',d',e'⟩:=trm j a q
       exact absurd e (S'.no9 ho q e' qq)
   rcases VW.mp fl with fl | fl3
   rcases VW.mp fl with fl | fl
   ·exact r.flat (fun a xs e=>up a _ e (.inl ⟨xs,rfl⟩)) fl
   ·have fl:=lN.mp fl
    have fl1:=lN.mp fl.1
    exact r.nd (fun a o e hq=>up a o e (.inr (.inl ⟨fl1.1,hq⟩))) (of_decide_eq_true fl1.2) fl.2
   ·have fl:=lN.mp fl3
    have fl1:=lN.mp fl.1
    have z:=of_decide_eq_true fl1.2
    subst z
    exact⟨r.1,r.2.ft (fun a o e hq=>up a o e (hq.imp id fun hq=>.inr ⟨fl1.1,hq⟩)) _ fl.2⟩
theorem ev {f:EF}(m:Md)(h:DF n X e f):PE X e (tE X.K H0 P0 n m f):=PE.imp h (xX m)
noncomputable def tB' (K:aH)(H0:Hp)(P0:aB->Prop)(m:Md)(f:BF):TT:=fun σ H Q=>∃ B0 ρ fp b,Sta K H0 P0 B0 ρ σ H fp/\bV m f ρ=some b /\ ∀ H',Sta K H0 P0 B0 ρ σ H' fp->Q b H'
theorem evB {f:BF}(m:Md)(h:DT X e f):PT X e (tB' X.K H0 P0 m f):=PT.imp h fun σ H Q gh=>by
 obtain⟨B0,ρ,fp,b,S,ef,k⟩:=gh
 cases m with
 | s=>exact⟨Hd P0 fp,vS ρ,b,S.hid,S.viewS,ef,fun H' x=>k H' (S.grow x)⟩
 | a=>exact⟨P0,vA ρ,b,S.hd.ext S.ext,S.viewA,ef,fun H' x=>k H' (S.grow x)⟩
end
inductive Out where
 | nx (ρ:bB) | rt (d:aA) | bk (ρ:bB) | ct (ρ:bB)
abbrev SF:=bB->Option Out
def JG (K:aH)(H0:Hp)(P0:aB->Prop)(n0:Nat)(d:aA)(v:V)(H':Hp):Prop:=
 ∃ Fr,Ext H0 H'/\Fr.Nodup/\(∀ a∈Fr,H0 a=none /\ ∃ o,H' a=some o)/\Aec K (hid H' (orL P0 Fr)) H' n0 d v Fr
def AC (K:aH)(H0:Hp)(P0:aB->Prop)(B0:Hp)(n0:Nat)(D:Ends):Out->Prop
 | .nx ρ=>∀ σ H fp,Sta K H0 P0 B0 ρ σ H fp->D.nx σ H
 | .bk ρ=>∀ σ H fp,Sta K H0 P0 B0 ρ σ H fp->D.bk σ H
 | .ct ρ=>∀ σ H fp,Sta K H0 P0 B0 ρ σ H fp->D.ct σ H
 | .rt d=>∀ v H',JG K H0 P0 n0 d v H'->D.rt v H'
noncomputable def tS (K:aH)(H0:Hp)(P0:aB->Prop)(n0:Nat)(F:SF):TS:=fun D σ H=>∃ B0 ρ fp o,Sta K H0 P0 B0 ρ σ H fp/\F ρ=some o/\AC K H0 P0 B0 n0 D o
abbrev DS (X:Cx)(H0:Hp)(P0:aB->Prop)(n0:Nat)(s:bG)(F:SF):Prop:=PS X s (tS X.K H0 P0 n0 F)
abbrev DSs (X:Cx)(H0:Hp)(P0:aB->Prop)(n0:Nat)(s:List bG)(F:SF):Prop:=PSs X s (tS X.K H0 P0 n0 F)
section
variable {X:Cx}{H0:Hp}{P0:aB->Prop}{n0 n:Nat}{s:bG}{ss:List bG}{F G:SF}{e:aS}{f:EF}{pos:bL}
theorem PS.imp {t t':TS}(h:PS X s t)(w : ∀ D σ H,t' D σ H->t D σ H):PS X s t':=fun pins st σ H D I q=>h pins st σ H D I (w _ _ _ q)
theorem PSs.imp {t t':TS}(h:PSs X ss t)(w : ∀ D σ H,t' D σ H->t D σ H):PSs X ss t':=fun pins st σ H D I q=>h pins st σ H D I (w _ _ _ q)
noncomputable def dW:SF:=fun ρ=>some (.nx ρ)
noncomputable def bF (F G:SF):SF:=fun ρ=>(F ρ).bind fun o=>match o with
 | .nx ρ'=>G ρ'
 | o=>some o
theorem fW:DSs X H0 P0 n0 [] dW:=PSs.imp jZ fun D σ H gh=>by
 obtain⟨B0,ρ,fp,o,S,ef,k⟩:=gh
 cases ef
 exact k σ H fp S
theorem cC (h:DS X H0 P0 n0 s F):DSs X H0 P0 n0 [s] F:=iF h
theorem bR (h:DS X H0 P0 n0 s F)(h2:DSs X H0 P0 n0 ss G):DSs X H0 P0 n0 (s::ss) (bF F G):=PSs.imp (fQ h h2) fun D σ H gh=>by
 obtain⟨B0,ρ,fp,o,S,ef,k⟩:=gh
 obtain⟨o1,e1,ef⟩:=XBs ef
 refine⟨B0,ρ,fp,o1,S,e1,?_⟩
 cases o1 with
 | nx ρ1=>exact fun σ1 H1 fp1 S1=>⟨B0,ρ1,fp1,o,S1,ef,k⟩
 | rt d=>cases ef; exact k
 | bk ρ1=>cases ef; exact k
 | ct ρ1=>cases ef; exact k
noncomputable def sIf (m:Md)(t:BF)(F G:SF):SF:=fun ρ=>(bV m t ρ).bind fun b=>if b=true then F ρ else G ρ
theorem fU {c:aS}{a b:List bG}{t:BF}(m:Md)(hc:DT X c t)(ha:DSs X H0 P0 n0 a F)(hb:DSs X H0 P0 n0 b G):DS X H0 P0 n0 (.If c a b pos) (sIf m t F G):=
 PS.imp (kN (evB m hc) ha hb) fun D σ H gh=>by
  obtain⟨B0,ρ,fp,o,S,ef,k⟩:=gh
  obtain⟨b,e1,ef⟩:=XBs ef
  refine⟨B0,ρ,fp,b,S,e1,fun H1 S1=>?_⟩
  cases b with
  | true=>exact jO ⟨B0,ρ,fp,o,S1,by simpa using ef,k⟩
  | false=>exact iB ⟨B0,ρ,fp,o,S1,by simpa using ef,k⟩
noncomputable def frz (i:Nat)(ρ:bB):bB:=match ρ[i]? with
 | some (some (_,d))=>ρ.set i (some (0,d))
 | _=>ρ
theorem Sta.frz {K:aH}{H B0:Hp}{ρ:bB}{σ:St}{fp:Nat->List aB}(S:Sta K H0 P0 B0 ρ σ H fp)(i:Nat) : ∃ fp',Sta K H0 P0 B0 (L2.frz i ρ) σ H fp':=by
 unfold L2.frz
 cases e:ρ[i]? with
 | none=>exact⟨fp,S⟩
 | some s=>
  cases s with
  | none=>exact⟨fp,S⟩
  | some q=>
   obtain⟨n,d⟩:=q
   have hi:=(fI.mp e).1
   have hsub : ∀ a,Hd P0 (fun j=>if j=i then [] else fp j) a->Hd P0 fp a:=fun a h=>by
    rcases h with h | ⟨j,h⟩
    ·exact .inl h
    ·by_cases hj:j=i
     ·simp only[hj,if_true] at h; simp at h
     ·simp only[hj,if_false] at h; exact .inr ⟨j,h⟩
   refine⟨fun j=>if j=i then [] else fp j,⟨by simp[S.len],fun j=>?_,fun j k a h1 h2=>?_,fun j a h1=>?_,S.ext,S.hd,S.base.trans (fP hsub),fun j n' d' e'=>?_⟩⟩
   ·by_cases hj:j=i
    ·simp only[hj,if_true]; exact .nil
    ·simp only[hj,if_false]; exact S.nd j
   ·by_cases hj:j=i
    ·simp only[hj,if_true] at h1; simp at h1
    ·by_cases hk:k=i
     ·simp only[hk,if_true] at h2; simp at h2
     ·simp only[hj,if_false] at h1; simp only[hk,if_false] at h2; exact S.dj j k a h1 h2
   ·by_cases hj:j=i
    ·simp only[hj,if_true] at h1; simp at h1
    ·simp only[hj,if_false] at h1; exact S.own j a h1
   ·by_cases hj:j=i
    ·subst hj
     rw[kK hi] at e'
     cases e'
     obtain⟨v,h1,h2⟩:=S.slot j n d e
     refine⟨v,h1,?_⟩
     simp only[if_true]
     refine⟨rfl,h2.share (fP hsub) fun a m o q=>dZ (fun z=>?_) q⟩
     rcases z with z | ⟨k,z⟩
     ·exact S.np m z
     ·by_cases hk:k=j
      ·simp only[hk,if_true] at z; simp at z
      ·simp only[hk,if_false] at z; exact hk (S.dj k j a z m)
    ·rw[jA (fun z=>hj z.symm)] at e'
     obtain⟨v,h1,h2⟩:=S.slot j n' d' e'
     refine⟨v,h1,?_⟩
     simp only[hj,if_false]
     exact h2.keep (fP hsub) fun a m=>rfl
noncomputable def xV (i:Nat)(F:SF):SF:=fun ρ=>F (frz i ρ)
theorem LC (i:Nat)(h:DSs X H0 P0 n0 ss F):DSs X H0 P0 n0 ss (xV i F):=PSs.imp h fun D σ H ⟨B0,ρ,fp,o,S,ef,k⟩=>let ⟨fp',S'⟩:=S.frz i; ⟨B0,_,fp',o,S',ef,k⟩
theorem Tmp.set {K:aH}{H B0:Hp}{ρ:bB}{σ:St}{d:aA}{v:V}{i:Nat}(t:Tmp K H0 P0 B0 ρ σ n d v H)(hi:i<ρ.length) : ∃ fp,Sta K H0 P0 B0 (ρ.set i (some (n,d))) (σ.set i (some v)) H fp:=by
 obtain⟨fp,S,r⟩:=t
 have hne:ρ.length≠i:=by omega
 have hsub : ∀ a,Hd P0 (fun j=>if j=i then fp ρ.length else if j=ρ.length then [] else fp j) a->Hd P0 fp a:=fun a h=>by
  rcases h with h | ⟨j,h⟩
  ·exact .inl h
  ·by_cases hj:j=i
   ·simp only[hj,if_true] at h; exact .inr ⟨_,h⟩
   ·by_cases hk:j=ρ.length
    ·simp only[hj,if_false,hk,if_true] at h
     rw[if_neg hne] at h
     simp at h
    ·simp only[hj,if_false,hk] at h; exact .inr ⟨j,h⟩
 have src : ∀ j a,a∈(if j=i then fp ρ.length else if j=ρ.length then [] else fp j)->(j=i/\a∈fp ρ.length) \/ (j≠i/\j≠ρ.length/\a∈fp j):=fun j a h=>by
  by_cases hj:j=i
  ·simp only[hj,if_true] at h; exact .inl ⟨hj,h⟩
  ·by_cases hk:j=ρ.length
   ·rw[if_neg hj,if_pos hk] at h; simp at h
   ·rw[if_neg hj,if_neg hk] at h; exact .inr ⟨hj,hk,h⟩
 refine⟨fun j=>if j=i then fp ρ.length else if j=ρ.length then [] else fp j,⟨by simp[S.len],fun j=>?_,fun j k a h1 h2=>?_,fun j a h1=>?_,S.ext,S.hd,S.base.trans (fP hsub),fun j n' d' e'=>?_⟩⟩
 ·by_cases hj:j=i
  ·rw[if_pos hj]; exact S.nd _
  ·by_cases hk:j=ρ.length
   ·rw[if_neg hj,if_pos hk]; exact .nil
   ·rw[if_neg hj,if_neg hk]; exact S.nd _
 ·rcases src j a h1 with⟨e1,m1⟩ | ⟨e1,l1,m1⟩ <;> rcases src k a h2 with⟨e2,m2⟩ | ⟨e2,l2,m2⟩
  ·rw[e1,e2]
  ·exact absurd (S.dj _ _ a m2 m1) l2
  ·exact absurd (S.dj _ _ a m1 m2) l1
  ·exact S.dj j k a m1 m2
 ·rcases src j a h1 with⟨e1,m1⟩ | ⟨e1,l1,m1⟩
  ·exact S.own _ a m1
  ·exact S.own _ a m1
 ·by_cases hj:j=i
  ·subst hj
   rw[kK hi] at e'
   cases e'
   refine⟨v,?_,?_⟩
   ·rw[kK (by rw[S.len]; exact hi)]
   ·rw[if_pos rfl]
    exact r.keep (fP hsub) fun a m=>rfl
  ·rw[jA (fun z=>hj z.symm)] at e'
   have hlt:=(fI.mp e').1
   have hk:j≠ρ.length:=by omega
   obtain⟨v',h1,h2⟩:=S.slot j n' d' e'
   refine⟨v',?_,?_⟩
   ·rw[jA (fun z=>hj z.symm)]; exact h1
   ·rw[if_neg hj,if_neg hk]
    exact h2.keep (fP hsub) fun a m=>rfl
noncomputable def cE (i n:Nat)(m:Md)(f:EF):SF:=fun ρ=>(eV n m f ρ).bind fun d=>if i<ρ.length then some (.nx (ρ.set i (some (n,d)))) else none
theorem dG {i:Nat}{x:aD}{pos':bL}(n:Nat)(m:Md)(hN:X.N.Nodup)(hi:X.N[i]?=some x)(hx:lP X.env.scope x)(he:DF n X e f)(hs:mG e (some (.Name x pos')) pos.line X.env=pure false:=by rfl)(hf:X.fn x=true \/ X.env.scope.names.lookup x=some .local:=by first | exact .inl rfl | exact .inr rfl | assumption) :
  DS X H0 P0 n0 (.Assign [.Name x pos'] e pos) (cE i n m f):=PS.imp (qA hN hi hx (ev m he) hs hf) fun D σ H gh=>by
 obtain⟨B0,ρ,fp,o,S,ef,k⟩:=gh
 obtain⟨d,e1,ef⟩:=XBs ef
 obtain⟨hl,rfl⟩:=cT ef
 refine⟨B0,ρ,fp,d,S,e1,fun v H' t=>?_⟩
 obtain⟨fp',S'⟩:=t.set hl
 exact k _ _ fp' S'
theorem Tmp.ret {K:aH}{H B0:Hp}{ρ:bB}{σ:St}{d:aA}{v:V}(t:Tmp K H0 P0 B0 ρ σ n d v H):JG K H0 P0 n d v H:=by
 obtain⟨fp,S,r⟩:=t
 refine⟨fp ρ.length,S.ext,S.nd _,fun a m=>⟨(S.own _ a m).1,?_⟩,r.keep (fP fun a h=>?_) fun a m=>rfl⟩
 ·rcases(S.own _ a m).2 with⟨xs,e⟩ | ⟨xs,e⟩
  ·exact⟨_,e⟩
  ·exact⟨_,e⟩
 ·rcases h with h | h
  ·exact .inl h
  ·exact .inr ⟨_,h⟩
noncomputable def cK (n:Nat)(m:Md)(f:EF):SF:=fun ρ=>(eV n m f ρ).bind fun d=>some (.rt d)
theorem dD (m:Md)(he:DF n0 X e f):DS X H0 P0 n0 (.Return (some e) pos) (cK n0 m f):=PS.imp (lE (ev m he)) fun D σ H gh=>by
 obtain⟨B0,ρ,fp,o,S,ef,k⟩:=gh
 obtain⟨d,e1,ef⟩:=XBs ef
 cases ef
 exact⟨B0,ρ,fp,d,S,e1,fun v H' t=>k v H' t.ret⟩
noncomputable def HU (i n0:Nat):SF:=fun ρ=>match ρ[i]? with
 | some (some (n,d))=>if n=n0 then some (.rt d) else none
 | _=>none
theorem Ln (i:Nat){x:aD}{p:bL}(hN:X.N[i]?=some x:=by rfl)(hv:lO X.env.scope x:=by first | exact bH rfl | exact bE (bH rfl) | exact bE (bE rfl))(hd:(x == ("__debug__" : aD))=false:=by decide)
  (hcd:(x == ("__classdict__" : aD))=false:=by decide):DS X H0 P0 n0 (.Return (some (.Name x p)) pos) (HU i n0):=PS.imp (lE (oJ hN hv hd hcd)) fun D σ H gh=>by
 obtain⟨B0,ρ,fp,o,S,ef,k⟩:=gh
 unfold HU at ef
 cases e:ρ[i]? with
 | none=>rw[e] at ef; simp at ef
 | some q=>
  cases q with
  | none=>rw[e] at ef; simp at ef
  | some q=>
   obtain⟨n,d⟩:=q
   rw[e] at ef
   obtain⟨rfl,rfl⟩:=cT ef
   obtain⟨v,h1,h2⟩:=S.slot i n d e
   refine⟨v,h1,k v H ⟨fp i,S.ext,S.nd i,fun a m=>⟨(S.own i a m).1,?_⟩,h2.keep (fP fun a h=>?_) fun a m=>rfl⟩⟩
   ·rcases(S.own i a m).2 with⟨xs,e⟩ | ⟨xs,e⟩
    ·exact⟨_,e⟩
    ·exact⟨_,e⟩
   ·rcases h with h | h
    ·exact .inl h
    ·exact .inr ⟨_,h⟩
end
section
variable {X:Cx}
theorem Ft:Ac8 X (.builtin "isinstance") (fun xs H Q=>∃ x T t b,xs=[x,.ty T]/\TyOf X.K H x t/\fY X.K t (.type T)=some b/\Q (.bl b) H):=by
 intro pins s σ H xs us Q I r h
 obtain⟨x,T,t,b,rfl,ty,e,q⟩:=h
 obtain⟨u,w',rfl,ru,rw'⟩:=vals2 r
 cases rw'
 exact Bb I ru ty e fun tk=>⟨.bl b,H,I.tok tk,rfl,q⟩
end
section
variable {X:Cx}
noncomputable def xT (x:aD):It:=⟨fun i _=>i<x.cps.size,fun i H v H'=>H'=H /\ ∃ c,x.cps[i]?=some c/\v = .str ⟨#[c]⟩,fun i _=>x.cps.size≤i⟩
theorem QJ {P:bC}{w:aW}{K:aH}{tg:aS}{it:aB}{x:aD}{tk0:Tok}{ty:String}
  (W : ∀ A':bT,A'.handled=none->Walks P w A' it [it] [it] x.cps.size (SignAt x) (fun i h=>h.IsStrIter it ty x tk0 i))
  (sf : ∀ (A:bT) (i:Nat) (s:aG) (Q:aE->aG->Prop) (E:aE->aG->Prop),s.heap.IsStrIter it ty x tk0 i->Q (.ref it) s->aO (aP P w) A (pyIter (.ref it)) Q E s)
  (hno:["enumerate","zip","dict_itemiterator","dict_reverseitemiterator","odict_iterator","itertools.zip_longest","itertools.pairwise"].contains ty=false) :
  Turn P w K tg (xT x) [it] it (fun i h=>h.IsStrIter it ty x tk0 i/\i≤x.cps.size) where
 mem:=by simp
 obj:=fun i h st b hb=>by
  have e:b=it:=by simpa using hb
  subst e
  obtain⟨o,e,_,d⟩:=st.1
  exact⟨o,e,fun v z=>by rw[d] at z; cases z⟩
 keep:=fun i h h' st k=>⟨let ⟨o,e,r⟩:=st.1; ⟨o,k it (by simp) o e,r⟩,st.2⟩
 item:=by
  intro X hP hw hK hc i pins s σ H E I hf st hg
  subst hP hw hK
  obtain⟨f0,f1,f2,f3,f4,f5⟩:=hf it (by simp)
  refine(W X.A (I.ok.hd hc)).item i s _ _ hg st.1 fun v h' tk hv st' kk=>?_
  obtain⟨c,u,hcx,rfl⟩:=hv
  have I1:Inv X pins σ H { s with heap:=h',toks:=tk }:=I.turned (fun b o hb e=>kk b o (by simpa using hb) e) f0 f1 f3 f4 f5
  obtain⟨o,e,hcl,d⟩:=id st'
  exact⟨_,rfl,rO (s:={ s with heap:=h',toks:=tk }) e hcl d hno ⟨.str ⟨#[c]⟩,H,I1,⟨u,rfl⟩,⟨rfl,c,hcx,rfl⟩,⟨st',hg⟩,fun b hb=>(hf b hb).1⟩⟩
 done:=by
  intro X hP hw hK hc i pins s σ H E I hf st hg
  subst hP hw hK
  obtain⟨f0,f1,f2,f3,f4,f5⟩:=hf it (by simp)
  have hi:i=x.cps.size:=Nat.le_antisymm st.2 hg
  subst hi
  exact(W X.A (I.ok.hd hc)).done s _ _ st.1 fun h' tk kk=>⟨rfl,I.turned (fun b o hb e=>kk b o (by simpa using hb) e) f0 f1 f3 f4 f5⟩
 self:=fun A i s Q E st h=>sf A i s Q E st.1 h
noncomputable def WI (tl:TE):TI:=fun σ H R=>tl σ H fun v H1=>∃ x,v = .str x/\R (xT x) H1
theorem ZW {X:Cx}{tg l:aS}{tl:TE}(hl:PE X l tl):PI X tg l (WI tl):=by
 intro pins s σ H R I h
 refine thn (hl pins s σ H _ I h) fun v s1 gh=>?_
 obtain⟨y,H1,I1,r1,q1⟩:=gh
 obtain⟨x,rfl,q⟩:=q1
 obtain⟨t,rfl⟩:=r1
 have fin : ∀ (o:aY) (ty:String),Turn X.prog X.w X.K tg (xT x) [s1.heap.objs.size] s1.heap.objs.size (fun i h=>h.IsStrIter s1.heap.objs.size ty x t i/\i≤x.cps.size)->(s1.heap.push o).IsStrIter s1.heap.objs.size ty x t 0 ->
   PIE X pins σ tg R (.ref s1.heap.objs.size) { s1 with heap:=s1.heap.push o }:=fun o ty T st=>by
  refine⟨s1.heap.objs.size,[s1.heap.objs.size],_,_,H1,rfl,I1.kept fun b o e=>cN _ e,T,⟨st,fH _⟩,fun b hb=>?_,q⟩
  have e:b=s1.heap.objs.size:=by simpa using hb
  subst e
  exact I1.fpOk (bX _) (I1.hok.fresh (bX _))
 cases ha:x.cps.all (· < 128)
 ·exact wpAny_pyIter_wide ha (fin _ "str_iterator" (QJ (fun A' hA=>Walks.strWide hA _ x t) (fun A i s Q E st h=>wpAny_pyIter_striter_wide st h) (by decide)) ⟨_,eY _ rfl,rfl,rfl⟩)
 ·exact wpAny_pyIter_ascii ha (fin _ "str_ascii_iterator" (QJ (fun A' hA=>Walks.strAscii hA _ x t) (fun A i s Q E st h=>wpAny_pyIter_striter_ascii st h) (by decide)) ⟨_,eY _ rfl,rfl,rfl⟩)
noncomputable def allB (xs:List V):Bool:=xs.all fun v=>decide (v = .bl true)
theorem FJ (hc:X.calm=true):Ac8 X (.builtin "all") (fun xs H Q=>∃ p ys,xs=[.ref p]/\SqL X.K H p ys/\(∀ y∈ys,∃ b,y = .bl b)/\Q (.bl (allB ys)) H):=by
 intro pins s σ H xs us Q I r h
 obtain⟨p,ys,rfl,hs,hb,q⟩:=h
 obtain⟨u,rfl,ru⟩:=vals1 r
 cases ru
 obtain⟨its,rv,pl,hz⟩:=I.list hs
 have hl:=pl.isList
 have hlt:p<s.heap.objs.size:=by obtain⟨o,n,e,_⟩:=pl; exact cD e
 have hh:=I.ok.hd hc
 have len:=rv.length
 refine call_all_walk (HY hl ⟨s.heap.objs.size,_,_,_,_,_,fun i=>decide (ys[i]?=some (.bl true)),rfl,Walks.list (A:=X.A.in1) hh s.heap.objs.size p (dA hlt) its.toArray,
  ⟨⟨_,eY _ rfl,rfl,rfl⟩,hl.at fun o e=>cN _ e⟩,?_,?_⟩)
 ·intro i v s' Q' E' hv hq
  have hv':its[i]?=some v:=by simpa using hv
  have hi:i<ys.length:=by rw[len]; exact(fI.mp hv').1
  obtain⟨b,hy⟩:=hb ys[i] (List.getElem_mem hi)
  have hy':ys[i]?=some (.bl b):=by rw[lC hi,hy]
  obtain⟨u',h1,h2⟩:=rv.get hy'
  rw[hv'] at h1; cases h1
  cases h2
  refine qS ?_
  have:decide (ys[i]?=some (V.bl true))=b:=by rw[hy']; cases b <;> simp
  have hq:Q' (decide (ys[i]?=some (V.bl true))) s':=hq
  rw[this] at hq
  exact hq
 ·intro h' tk hk
  have e:((dF its.toArray.size).all fun i=>decide (ys[i]?=some (V.bl true)))=allB ys:=by
   have hn:its.toArray.size=ys.length:=by simp[len]
   rw[hn]
   unfold allB
   rw[Bool.eq_iff_iff]
   simp only[iA,kJ,decide_eq_true_eq]
   constructor
   ·intro h v hv
    obtain⟨i,hi,rfl⟩:=List.getElem_of_mem hv
    have:=h i hi
    rw[lC hi] at this
    exact eO this
   ·intro h i hi
    rw[lC hi,h _ (List.getElem_mem hi)]
  rw[e]
  refine⟨.bl (allB ys),H,?_,rfl,q⟩
  exact I.kept fun b o eb=>hk b o (by simp; exact dA (cD eb)) (cN _ eb)
end
structure Def (P:bC)(w:aW)(K:aH)(mg:aD->Option aE)(base:aQ)(x:aD)(k:Nat)(ps:List aD)(sp:Sp):Prop where
 ex : ∃ f fd,FnOk P w K mg base CX0 k f fd ps sp/\mg x=some (.ref f)/\kX K (.ref f)=true/\Binds K fd ps []
section
variable {X:Cx}{x:aD}{k:Nat}{ps:List aD}{sp:Sp}{e:aS}{es:List aS}{t:TA}{p pos:bL}
theorem Ie (D:Def X.prog X.w X.K X.mg X.base x k ps sp)(hr:Room k X.A)(hg:Gl X x)(ha:PA X (e::es) t)(hdb:(x == ("__debug__" : aD))=false:=by decide)(he:bD (e::es) X.env=(false,bI e X.env)::bD es X.env:=by rfl)
  (hpl:(eM pos (bD es X.env)).any (·.1)=false:=by rfl):PE X (.Call (.Name x p) (e::es) [] pos) (HR sp [] E0 t):=by
 obtain⟨f,fd,F,hm,hk,hb⟩:=D.ex
 exact KW F hr hg hm hk hb .nil XS ha hdb he hpl
end
noncomputable def BU (a b:String):Option Bool:=if (kE a == kE b)=true then some true else if PySem.W.kitMeta b=true then(fastBuiltinMro a).map (·.contains (.type b)) else none
theorem Alv {K:aH}{a b:String}:fY K (.type a) (.type b)=BU a b:=rfl
noncomputable def kinds:List String:=["NoneType","bool","int","str","list","tuple","dict"]
noncomputable def isK (t T:String):Bool:=t == T||(t == "bool" && T == "int")
theorem Om:(kinds.all fun t=>["int","bool","str","list","tuple","dict"].all fun T=>decide (BU t T=some (isK t T)))=true:=by decide +kernel
theorem Ke {t T:String}(ht:t∈kinds)(hT:T∈["int","bool","str","list","tuple","dict"]):BU t T=some (isK t T):=by
 have h:=iA.mp Om t ht
 have h:=iA.mp h T hT
 exact of_decide_eq_true h
def Kd (K:aH)(H:Hp)(x:V)(t:String):Prop:=TyOf K H x (.type t)/\t∈kinds
theorem Kd.ext {K:aH}{H H':Hp}(x:Ext H H'){v:V}{t:String}(h:Kd K H v t):Kd K H' v t:=⟨x.ty h.1,h.2⟩
theorem Kd.int {K:aH}{H:Hp}{x:V}(h:Kd K H x "int") : ∃ i,x = .int i:=by
 obtain⟨h,_⟩:=h
 generalize e:kE "int" = t at h
 cases h <;> first | exact⟨_,rfl⟩ | exact absurd (Value.type.inj e) (by decide) | cases e
theorem Kd.str {K:aH}{H:Hp}{x:V}(h:Kd K H x "str") : ∃ i,x = .str i:=by
 obtain⟨h,_⟩:=h
 generalize e:kE "str" = t at h
 cases h <;> first | exact⟨_,rfl⟩ | exact absurd (Value.type.inj e) (by decide) | cases e
section
variable {X:Cx}
theorem KI {x:aD}{T:String}{pos:bL}(hg:Gl X x)(hm:X.mg x=none)(hv:iX x=some (.type T))(hn:x ≠ "__name__":=by decide)(hd:(x == ("__debug__" : aD))=false:=by decide):PE X (.Name x pos) (tC (.ty T)):=
 Lq hg hm hv rfl hn hd
end
theorem boot_isinstance:iX "isinstance" = some (.builtin "isinstance"):=by decide +kernel
theorem boot_abs:iX "abs" = some (.builtin "abs"):=by decide +kernel
theorem boot_all:iX "all" = some (.builtin "all"):=by decide +kernel
theorem bits_le {i:Int}{n:Nat}(h:i.natAbs<2 ^ n):Builtin.Int.intBits i≤n:=by
 unfold Builtin.Int.intBits
 split
 ·exact fH _
 ·rename_i hne
  have h0:i.natAbs≠0:=by
   intro z; apply hne; simp[Int.natAbs_eq_zero.mp z]
  have:=(Nat.log2_lt h0).mpr h
  omega
theorem Lu {X:Cx}:OpR X (kC .Mult) (rI (fun i j=>i.natAbs<2 ^ 1000/\j.natAbs<2 ^ 1000) fun i j=>.int (i*j)):=opI fun i j _ _ _ _ _ hc q=>
 mul_int q (PyProof.Rows.mulOk_of_bits (bits_le hc.1) (bits_le hc.2) (by decide))
theorem eQ {A:bT}{k:Nat}(hr:Room k A):A.units+100<cLine:=by
 have:=hr.un
 omega
theorem RG : ∀ {xs:List V} {us:List aE},xs.length=us.length->(∀ (j:Nat) x u,xs[j]?=some x->us[j]?=some u->RelV x u)->Vals xs us
 | [],[],_,_=>.nil
 | [],_::_,h,_=>by simp at h
 | _::_,[],h,_=>by simp at h
 | x::xs,u::us,h,r=>.cons (r 0 x u rfl rfl) (RG (by simpa using h) fun j y w h1 h2=>r (j+1) y w (by simpa using h1) (by simpa using h2))
noncomputable def JQ:R2:=fun x y H Q=>∃ i j,x = .str i/\y = .str j/\Q (.bl (!(decide (j.cps.toList<i.cps.toList)))) H
noncomputable def pS (c:Nat):V:=.str ⟨#[c]⟩
section
variable {X:Cx}
theorem Ef (hc:X.calm=true):Ac8 X (.type "list") (fun xs H Q=>∃ z:aD,xs=[.str z]/\z.length≤sizeLine /\ ∀ l,H l=none->Q (.ref l) (upd H l (.lst (z.cps.toList.map pS)))):=by
 intro pins s σ H xs us Q I r h
 obtain⟨z,rfl,hz,q⟩:=h
 obtain⟨u,rfl,t,rfl⟩:=vals1 r
 refine call_list_str (I.ok.hd hc) z t (fun h' tk acc' c' hk hS hacc=>?_) hz
 have hv:Vals (z.cps.toList.map pS) acc'.toList:=by
  refine RG (by simp[hacc.1]) fun j x u h1 h2=>?_
  obtain⟨c,t',hc1,rfl⟩:=hacc.2 j u (by simpa using h2)
  have:(z.cps.toList.map pS)[j]?=some (pS c):=by simp[hc1]
  rw[this] at h1
  cases h1
  exact⟨t',rfl⟩
 exact⟨.ref s.heap.objs.size,_,I.laid hk (bX _) (show Acs X.prog X.w _ h' _ (.lst (z.cps.toList.map pS)) from⟨by rw[cP,mP]; exact hz,acc'.toList,c',hv,by simpa using hS⟩),rfl,q _ I.fresh⟩
theorem sM:OpR X (dR .LtE) JQ:=by
 intro pins s σ H x y v u Q I rx ry h
 obtain⟨i,j,rfl,rfl,q⟩:=h
 obtain⟨t,rfl⟩:=rx
 obtain⟨t',rfl⟩:=ry
 exact PySem.P.le_str ⟨.bl _,H,I,rfl,q⟩
theorem Dx {ys:List aD} : ∀ {us:List aE},Vals (ys.map V.str) us->StrsAre us ys:=by
 induction ys with
 | nil=>intro us r; cases r; exact .nil
 | cons y r ih=>
  intro us h
  cases h with
  | cons h1 h2=>
   obtain⟨t,rfl⟩:=h1
   exact .cons y t (ih h2)
theorem Mm:MtR X "str.join" (fun x vs H Q=>∃ sep l ys,x = .str sep/\vs=[.ref l]/\SqL X.K H l (ys.map V.str)/\(ys.map (·.length)).sum+ys.length*sep.length≤16777216/\Q (.str (kF sep ys)) H):=by
 intro pins s σ H x xs v us Q I rx rv h
 obtain⟨sep,l,ys,rfl,rfl,hs,hok,q⟩:=h
 obtain⟨t,rfl⟩:=rx
 obtain⟨u,rfl,ru⟩:=vals1 rv
 cases ru
 obtain⟨its,r,pl,hz⟩:=I.list hs
 refine join_list pl.isList (by simpa using Dx r) hok fun t' k=>?_
 have e:Txt.join sep ys=kF sep ys:=StrLaws.glued_eq_join sep ys
 rw[e]
 exact⟨.str _,H,I.tok k,⟨t',rfl⟩,q⟩
theorem QP : ∀ cs:List Nat,kF ⟨#[]⟩ (cs.map fun c=>(⟨#[c]⟩:aD))=⟨cs.toArray⟩
 | []=>rfl
 | c::r=>by
  rw[dJ,join_nil_cons,QP r]
  show(⟨#[c]++r.toArray⟩:aD)=⟨(c::r).toArray⟩
  simp
end
def ItD (K:aH)(B:Hp)(J:It)(ds:List aA):Prop:=∀ (i:Nat) (H2:Hp),Ext B H2 ->
 (∀ d,ds[i]?=some d->J.go i H2 /\ ∀ x H3,J.yld i H2 x H3->Ext H2 H3 /\ ∀ P2,Hid P2 H2->Ext B (hid H2 P2)->Aa6 K (hid H3 P2) d x)/\(ds.length=i->J.stop i H2)
noncomputable def tI (K:aH)(f:AF):TI:=fun σ H R=>∃ P ρ ds,Hid P H/\Ais K (hid H P) ρ σ/\f ρ=some ds /\ ∀ J H',Ext H H'->ItD K (hid H' P) J ds->R J H'
noncomputable def tI0 (K:aH)(f:AF):TI:=fun σ H R=>∃ P ρ ds,Hid P H/\Ais K (hid H P) ρ σ/\f ρ=some ds /\ ∀ J H',Ext H H'->ItD K (fun _=>none) J ds->R J H'
abbrev DI (X:Cx)(tg e:aS)(f:AF):Prop:=PI X tg e (tI X.K f)
abbrev DI0 (X:Cx)(tg e:aS)(f:AF):Prop:=PI X tg e (tI0 X.K f)
noncomputable def itemsOf:aA->Option (List aA)
 | .list ds=>some ds
 | .tuple ds=>some ds
 | .str x=>some (x.cps.toList.map fun c=>.str ⟨#[c]⟩)
 | _=>none
noncomputable def iIt (f:EF):AF:=fun ρ=>(f ρ).bind itemsOf
section
variable {X:Cx}{tg e a b:aS}{p pos:bL}
theorem PI.imp {t t':TI}(h:PI X tg e t)(w : ∀ σ H R,t' σ H R->t σ H R):PI X tg e t':=fun pins s σ H R I q=>h pins s σ H R I (w _ _ _ q)
theorem PI.or {t t':TI}(h:PI X tg e t)(h':PI X tg e t'):PI X tg e (fun σ H R=>t σ H R \/ t' σ H R):=fun pins s σ H R I q=>q.elim (h pins s σ H R I) (h' pins s σ H R I)
theorem Nw {K:aH}{B:Hp}{a:aB}{xs:List V}{ds:List aA}(h:SqL K B a xs)(r:Aar K B ds xs):ItD K B (BI K a) ds:=fun i H2 x2=>by
 have h2:=x2.sqL h
 refine⟨fun d hd=>?_,fun e=>⟨xs,h2,by rw[r.length]; omega⟩⟩
 obtain⟨v,h3,h4⟩:=r.get hd
 refine⟨⟨xs,v,h2,h3⟩,?_⟩
 rintro x H3 ⟨rfl,hx⟩
 have:=h3.symm.trans (hx xs h2)
 cases this
 exact⟨Ext.refl,fun P2 _ xb=>h4.ext xb⟩
theorem Kt {K:aH}{B:Hp}{a:aB}{xs:List V}{ds:List aA}(h:B a=some (.tup xs))(r:Aar K B ds xs):ItD K B (BH K a) ds:=fun i H2 x2=>by
 have h2:SqT K H2 a xs:=SqT.of (x2 _ _ h)
 refine⟨fun d hd=>?_,fun e=>⟨xs,h2,by rw[r.length]; omega⟩⟩
 obtain⟨v,h3,h4⟩:=r.get hd
 refine⟨⟨xs,v,h2,h3⟩,?_⟩
 rintro x H3 ⟨rfl,hx⟩
 have:some v=some x:=h3.symm.trans (hx xs h2)
 cases this
 exact⟨Ext.refl,fun P2 _ xb=>h4.ext xb⟩
theorem ER {z:aD}{i c:Nat}(h:dE (.str z)=true)(hc:z.cps.toList[i]?=some c):dE (.str ⟨#[c]⟩)=true:=by
 have hz : ∀ d∈z.cps,d<0x110000:=by
  have h':z.cps.all (· < 0x110000)=true:=by simpa only[dE,PyData.strOk] using h
  intro d hd
  exact of_decide_eq_true (Array.all_eq_true'.mp h' d hd)
 have:=hz c (by simpa using rD hc)
 simp[dE,PyData.strOk,this]
theorem Mb {K:aH}{B:Hp}{z:aD}(hl:dE (.str z)=true):ItD K B (xT z) (z.cps.toList.map fun c=>.str ⟨#[c]⟩):=fun i H2 x2=>by
 refine⟨fun d hd=>?_,fun e=>?_⟩
 ·rw[gZ] at hd
  cases hc:z.cps.toList[i]? with
  | none=>rw[hc] at hd; simp at hd
  | some c=>
   rw[hc] at hd
   have hd:dH ⟨#[c]⟩=d:=by simpa using hd
   subst hd
   have hlt:i<z.cps.size:=by simpa using(fI.mp hc).1
   refine⟨hlt,?_⟩
   rintro x H3 ⟨rfl,c',hc',rfl⟩
   have:z.cps.toList[i]?=some c':=by simpa using hc'
   rw[hc] at this
   cases this
   exact⟨Ext.refl,fun P2 _ _=>Aaq.mpr ⟨rfl,ER hl hc⟩⟩
 ·have:z.cps.size=i:=by simpa using e
  exact IS this
theorem Ce {K:aH}{lo:Int}{n:Nat}{B:Hp}:ItD K B (xU lo n) ((dF n).map fun(k:Nat)=>bA (lo+k)):=fun i H2 x2=>by
 refine⟨fun d hd=>?_,fun e=>?_⟩
 ·have hlt:i<n:=by
   have:=(fI.mp hd).1
   simpa using this
  have hd':bA (lo+i)=d:=by
   rw[gZ,List.getElem?_range hlt] at hd
   simpa using hd
  subst hd'
  refine⟨hlt,?_⟩
  rintro x H3 ⟨rfl,rfl⟩
  exact⟨Ext.refl,fun P2 _ _=>Aao.mpr rfl⟩
 ·have:n=i:=by simpa using e
  exact IS this
theorem uR {f:EF}(h:DE X e f):DI X tg e (iIt f):=PI.imp (PI.or (Mt h) (PI.or (Jd h) (ZW h))) fun σ H R gh=>by
 obtain⟨P,ρ,ds,hP,rs,ef,k⟩:=gh
 obtain⟨d,e1,ef⟩:=XBs ef
 cases d with
 | list ds'=>
  have:ds'=ds:=by simpa [itemsOf] using ef
  subst this
  refine .inl ⟨P,ρ,_,hP,rs,e1,cG fun v H1 x1 r1=>?_⟩
  obtain⟨a,xs,rfl,hr,rr⟩:=Abf.mp r1
  exact⟨a,rfl,⟨xs,Aax.sqL hr⟩,k _ H1 x1 (Nw hr rr)⟩
 | tuple ds'=>
  have:ds'=ds:=by simpa [itemsOf] using ef
  subst this
  refine .inr (.inl ⟨P,ρ,_,hP,rs,e1,cG fun v H1 x1 r1=>?_⟩)
  obtain⟨a,xs,rfl,hr,rr⟩:=Aaw.mp r1
  exact⟨a,rfl,⟨xs,SqT.of (Aax _ _ hr)⟩,k _ H1 x1 (Kt hr rr)⟩
 | str z=>
  have:z.cps.toList.map (fun c=>dH ⟨#[c]⟩)=ds:=by simpa [itemsOf] using ef
  subst this
  refine .inr (.inr ⟨P,ρ,_,hP,rs,e1,cG fun v H1 x1 r1=>?_⟩)
  exact⟨z,(Aaq.mp r1).1,k _ H1 x1 (Mb (Aaq.mp r1).2)⟩
 | _=>simp[itemsOf] at ef
noncomputable def BV (lo hi:Int):Option (List aA):=if -(2 ^ 62)≤lo/\lo<2 ^ 62 /\ -(2 ^ 62)≤hi/\hi<2 ^ 62 then some ((dF (hi - lo).toNat).map fun(k:Nat)=>bA (lo+k)) else none
noncomputable def iR1 (fa:AF):AF:=fun ρ=>(fa ρ).bind fun ds=>match ds with
 | [.int j]=>BV 0 j
 | _=>none
theorem vV {fa:AF}(hg:Gl X "range")(hm:X.mg "range" = none)(ha:DA X [a] fa)(hs:bD [a] X.env=[(false,bI a X.env)]:=by rfl):DI0 X tg (.Call (.Name "range" p) [a] [] pos) (iR1 fa):=PI.imp (Ba hg hm ha hs) fun σ H R gh=>by
 obtain⟨P,ρ,ds,hP,rs,ef,k⟩:=gh
 obtain⟨as,e1,ef⟩:=XBs ef
 refine⟨P,ρ,as,hP,rs,e1,fun vs H1 x1 r1=>?_⟩
 split at ef
 ·rename_i j
  obtain⟨hb,rfl⟩:=cT ef
  obtain⟨v,t,rfl,h1,h2⟩:=Aad.mp r1
  obtain rfl:=Aan.mp h2
  obtain rfl:=Aao.mp h1
  have e0:(j - 0).toNat=j.toNat:=by simp
  refine⟨j,rfl,hb.2.2.1,hb.2.2.2,k _ H1 x1 ?_⟩
  rw[e0]
  exact Ce
 ·cases ef
theorem CZ {f:AF}(h:DI0 X tg e f):DI X tg e f:=PI.imp h fun σ H R ⟨P,ρ,ds,hP,rs,ef,k⟩=>⟨P,ρ,ds,hP,rs,ef,fun J H' x it=>k J H' x fun i H2 x2=>by
 obtain⟨h1,h2⟩:=it i H2 (fun _ _ e=>by cases e)
 exact⟨fun d hd=>⟨(h1 d hd).1,fun v H3 y=>⟨((h1 d hd).2 v H3 y).1,fun P2 hp _=>((h1 d hd).2 v H3 y).2 P2 hp fun _ _ e=>by cases e⟩⟩,h2⟩⟩
noncomputable def tI' (K:aH)(H0:Hp)(P0:aB->Prop)(m:Md)(f:AF):TI:=fun σ H R=>∃ B0 ρ fp ds,Sta K H0 P0 B0 ρ σ H fp/\aV m f ρ=some ds /\ ∀ J B1 H',Sta K H0 P0 B1 ρ σ H' fp->Ext B0 B1->ItD K B1 J ds->R J H'
theorem Sta.rebase {K:aH}{H0 H B0 B1:Hp}{P0:aB->Prop}{ρ:bB}{σ:St}{fp:Nat->List aB}(S:Sta K H0 P0 B0 ρ σ H fp)(b:Ext B1 (L2.hid H (Hd P0 fp))):Sta K H0 P0 B1 ρ σ H fp:=⟨S.len,S.nd,S.dj,S.own,S.ext,S.hd,b,S.slot⟩
variable {H0:Hp}{P0:aB->Prop}
theorem evI {f:AF}(h:DI X tg e f):PI X tg e (tI' X.K H0 P0 .s f):=PI.imp h fun σ H R ⟨B0,ρ,fp,ds,S,ef,k⟩=>
 ⟨Hd P0 fp,vS ρ,ds,S.hid,S.viewS,ef,fun J H' x it=>k J _ H' ((S.grow x).rebase Ext.refl) (S.grow x).base it⟩
theorem WA {f:AF}(m:Md)(h:DI0 X tg e f):PI X tg e (tI' X.K H0 P0 m f):=PI.imp h fun σ H R gh=>by
 obtain⟨B0,ρ,fp,ds,S,ef,k⟩:=gh
 have up : ∀ {J:It} {B:Hp},ItD X.K (fun _=>none) J ds->ItD X.K B J ds:=fun {J B} it i H2 x2=>by
  obtain⟨h1,h2⟩:=it i H2 (fun _ _ e=>by cases e)
  exact⟨fun d hd=>⟨(h1 d hd).1,fun v H3 y=>⟨((h1 d hd).2 v H3 y).1,fun P2 hp _=>((h1 d hd).2 v H3 y).2 P2 hp fun _ _ e=>by cases e⟩⟩,h2⟩
 cases m with
 | s=>exact⟨Hd P0 fp,vS ρ,ds,S.hid,S.viewS,ef,fun J H' x it=>k J _ H' (S.grow x) Ext.refl (up it)⟩
 | a=>exact⟨P0,vA ρ,ds,S.hd.ext S.ext,S.viewA,ef,fun J H' x it=>k J _ H' (S.grow x) Ext.refl (up it)⟩
end
noncomputable def tG (K:aH)(H0:Hp)(P0:aB->Prop)(T:aA->bB->Option bB):TG:=fun v σ H Q=>∃ B0 ρ fp d ρ',Sta K H0 P0 B0 ρ σ H fp/\Aa6 K (hid H (Hd P0 fp)) d v/\T d ρ=some ρ' /\ ∀ σ' fp',Sta K H0 P0 B0 ρ' σ' H fp'->Q σ' H
abbrev DG (X:Cx)(H0:Hp)(P0:aB->Prop)(tg:aS)(T:aA->bB->Option bB):Prop:=PG X tg (tG X.K H0 P0 T)
section
variable {X:Cx}{H0:Hp}{P0:aB->Prop}{n0:Nat}{pos:bL}
theorem PG.imp {tg:aS}{t t':TG}(h:PG X tg t)(w : ∀ v σ H Q,t' v σ H Q->t v σ H Q):PG X tg t':=fun pins s σ H v u Q I r q=>h pins s σ H v u Q I r (w _ _ _ _ q)
theorem Sta.Arm {K:aH}{H B0:Hp}{ρ:bB}{σ:St}{fp:Nat->List aB}{d:aA}{v:V}{i:Nat}(S:Sta K H0 P0 B0 ρ σ H fp)(r:Aa6 K (L2.hid H (Hd P0 fp)) d v)(hi:i<ρ.length) : ∃ fp',Sta K H0 P0 B0 (ρ.set i (some (0,d))) (σ.set i (some v)) H fp':=by
 have hsub : ∀ a,Hd P0 (fun j=>if j=ρ.length then [] else fp j) a->Hd P0 fp a:=fun a h=>by
  rcases h with h | ⟨j,h⟩
  ·exact .inl h
  ·by_cases hj:j=ρ.length
   ·simp only[hj,if_true] at h; simp at h
   ·simp only[hj,if_false] at h; exact .inr ⟨j,h⟩
 have S2:Sta K H0 P0 B0 ρ σ H (fun j=>if j=ρ.length then [] else fp j):=by
  refine⟨S.len,fun j=>?_,fun j k a h1 h2=>?_,fun j a h1=>?_,S.ext,S.hd,S.base.trans (fP hsub),fun j n d e=>?_⟩
  ·by_cases hj:j=ρ.length
   ·simp only[hj,if_true]; exact .nil
   ·simp only[hj,if_false]; exact S.nd j
  ·by_cases hj:j=ρ.length
   ·simp only[hj,if_true] at h1; simp at h1
   ·by_cases hk:k=ρ.length
    ·simp only[hk,if_true] at h2; simp at h2
    ·simp only[hj,if_false] at h1; simp only[hk,if_false] at h2; exact S.dj j k a h1 h2
  ·by_cases hj:j=ρ.length
   ·simp only[hj,if_true] at h1; simp at h1
   ·simp only[hj,if_false] at h1; exact S.own j a h1
  ·have hlt:=(fI.mp e).1
   have hj:j≠ρ.length:=by omega
   obtain⟨v',h1,h2⟩:=S.slot j n d e
   refine⟨v',h1,?_⟩
   simp only[hj,if_false]
   exact h2.keep (fP hsub) fun a m=>rfl
 refine Tmp.set ⟨_,S2,?_⟩ hi
 simp only[if_true]
 exact⟨rfl,r.ext (fP hsub)⟩
noncomputable def gNm (i:Nat):aA->bB->Option bB:=fun d ρ=>if i<ρ.length then some (ρ.set i (some (0,d))) else none
theorem EJ {i:Nat}{x:aD}(hN:X.N.Nodup)(hi:X.N[i]?=some x)(hx:lP X.env.scope x)(hf:X.fn x=true \/ X.env.scope.names.lookup x=some .local:=by first | exact .inl rfl | exact .inr rfl | assumption):DG X H0 P0 (.Name x pos) (gNm i):=
 PG.imp (EE hN hi hx hf) fun v σ H Q gh=>by
  obtain⟨B0,ρ,fp,d,ρ',S,r,ef,k⟩:=gh
  obtain⟨hl,rfl⟩:=cT ef
  obtain⟨fp',S'⟩:=S.Arm r hl
  exact k _ fp' S'
end
noncomputable def lT (F:SF)(T:aA->bB->Option bB):List aA->SF
 | [],ρ=>some (.nx ρ)
 | d::r,ρ=>(T d ρ).bind fun ρ1=>(F ρ1).bind fun o=>match o with
  | .nx ρ'=>lT F T r ρ'
  | .ct ρ'=>lT F T r ρ'
  | .bk ρ'=>some (.nx ρ')
  | .rt d=>some (.rt d)
noncomputable def lU (m:Md)(fi:AF)(T:aA->bB->Option bB)(F:SF):SF:=fun ρ=>(aV m fi ρ).bind fun ds=>lT F T ds ρ
section
variable {X:Cx}{H0:Hp}{P0:aB->Prop}{n0:Nat}{pos:bL}{tg iter:aS}{body:List bG}{F:SF}{T:aA->bB->Option bB}{fi:AF}{m:Md}
theorem NY (hp:PassesOwn (aP X.prog X.w) X.A X.env X.xe)(hc:X.calm=true)(hi:PI X tg iter (tI' X.K H0 P0 m fi))(hg:DG X H0 P0 tg T)(hb:DSs X H0 P0 n0 body F)
  (hs : ∀ x,qW iter X.env x=pure x:=by intro _; rfl):DS X H0 P0 n0 (.For tg iter body [] pos) (lU m fi T F):=PS.imp (SM hp hc hi hg hb hs) fun D σ H gh=>by
 obtain⟨B0,ρ,fp,o,S,ef,k⟩:=gh
 obtain⟨ds,e1,ef⟩:=XBs ef
 refine⟨B0,ρ,fp,ds,S,e1,fun J B1 H' S1 xb it=>?_⟩
 refine⟨fun i m σ H=>m=ds.length - i/\i≤ds.length /\ ∃ ρ fp,Sta X.K H0 P0 B1 ρ σ H fp/\lT F T (ds.drop i) ρ=some o,⟨ds.length,by simp,fH _,ρ,fp,S1,by simpa using ef⟩,?_⟩
 rintro i m σ2 H2 ⟨rfl,hi,ρ2,fp2,S2,e2⟩
 have x2:=S2.base.trans Aax
 obtain⟨go,st⟩:=it i H2 x2
 by_cases hlt:i<ds.length
 ·have hd:=lC hlt
  rw[Ph hlt] at e2
  obtain⟨ρ3,e3,e2⟩:=XBs e2
  obtain⟨o3,e4,e2⟩:=XBs e2
  obtain⟨g1,g2⟩:=go _ hd
  refine .inr ⟨g1,fun σ' H'=>i+1≤ds.length /\ ∃ ρ fp,Sta X.K H0 P0 B1 ρ σ' H' fp/\lT F T (ds.drop (i+1)) ρ=some o,fun σ' H' ⟨h1,h2⟩=>⟨ds.length - (i+1),by omega,rfl,h1,h2⟩,fun x H3 y=>?_⟩
  obtain⟨x3,r3⟩:=g2 x H3 y
  refine⟨B1,ρ2,fp2,_,ρ3,S2.grow x3,r3 _ S2.hid S2.base,e3,fun σ4 fp4 S4=>⟨B1,ρ3,fp4,o3,S4,e4,?_⟩⟩
  cases o3 with
  | nx ρ5=>exact fun σ5 H5 fp5 S5=>⟨hlt,ρ5,fp5,S5,e2⟩
  | ct ρ5=>exact fun σ5 H5 fp5 S5=>⟨hlt,ρ5,fp5,S5,e2⟩
  | bk ρ5=>
   cases e2
   exact fun σ5 H5 fp5 S5=>k σ5 H5 fp5 (S5.rebase (xb.trans S5.base))
  | rt d=>
   cases e2
   exact k
 ·have e:i=ds.length:=by omega
  subst e
  rw[List.drop_length] at e2
  cases e2
  exact .inl ⟨st rfl,k σ2 H2 fp2 (S2.rebase (xb.trans S2.base))⟩
theorem YT (hp:PassesOwn (aP X.prog X.w) X.A X.env X.xe)(hc:X.calm=true)(hi:DI X tg iter fi)(hg:DG X H0 P0 tg T)(hb:DSs X H0 P0 n0 body F)
  (hs : ∀ x,qW iter X.env x=pure x:=by intro _; rfl):DS X H0 P0 n0 (.For tg iter body [] pos) (lU .s fi T F):=NY hp hc (evI hi) hg hb hs
theorem LV (m:Md)(hp:PassesOwn (aP X.prog X.w) X.A X.env X.xe)(hc:X.calm=true)(hi:DI0 X tg iter fi)(hg:DG X H0 P0 tg T)(hb:DSs X H0 P0 n0 body F)
  (hs : ∀ x,qW iter X.env x=pure x:=by intro _; rfl):DS X H0 P0 n0 (.For tg iter body [] pos) (lU m fi T F):=NY hp hc (WA m hi) hg hb hs
end
noncomputable def lcD (T:aA->List (Option aA)->Option (List (Option aA)))(t:BF)(f:EF)(ρ:List (Option aA)):List aA->Option (List aA)
 | []=>some []
 | d::r=>(T d ρ).bind fun ρ1=>(t ρ1).bind fun c=>if c=true then(f ρ1).bind fun y=>(lcD T t f ρ r).bind fun ys=>some (y::ys) else lcD T t f ρ r
noncomputable def jR (cap:List (Option Nat))(ρ:List (Option aA)):List (Option aA):=cap.map fun o=>o.bind fun j=>(ρ[j]?).join
noncomputable def eLC (cap:List (Option Nat))(fi:AF)(T:aA->List (Option aA)->Option (List (Option aA)))(t:BF)(f:EF):EF:=fun ρ=>(fi ρ).bind fun ds=>(lcD T t f (jR cap ρ) ds).bind fun ys=>if ds.length≤sizeLine then some (.list ys) else none
noncomputable def tGB (K:aH)(T:aA->List (Option aA)->Option (List (Option aA))):TG:=fun v σ H Q=>∃ P ρ d ρ',Hid P H/\Ais K (hid H P) ρ σ/\Aa6 K (hid H P) d v/\T d ρ=some ρ' /\ ∀ σ',Ais K (hid H P) ρ' σ'->Q σ' H
def TOk (T:aA->List (Option aA)->Option (List (Option aA))):Prop:=∀ d ρ ρ',T d ρ=some ρ' -> ∀ (i:Nat) d',ρ[i]?=some (some d')->ρ'[i]?=some (some d')
noncomputable def iC:BF:=fun _=>some true
noncomputable def gB (j:Nat):aA->List (Option aA)->Option (List (Option aA)):=fun d ρ=>match ρ[j]? with
 | some none=>some (ρ.set j (some d))
 | _=>none
theorem MX {j:Nat}{d:aA}{ρ ρ':List (Option aA)}(h:gB j d ρ=some ρ'):ρ[j]?=some none/\ρ.set j (some d)=ρ':=by
 unfold gB at h
 split at h
 ·rename_i e
  exact⟨e,eO h⟩
 ·cases h
theorem nZ {j:Nat}:TOk (gB j):=fun d ρ ρ' e i d' h=>by
 obtain⟨hj,rfl⟩:=MX e
 by_cases q:j=i
 ·subst q; rw[hj] at h; cases h
 ·rw[jA q]; exact h
section
variable {X:Cx}{N:List aD}{cap:List (Option Nat)}{sc:gM}{elt iter tg c:aS}{ifs:List aS}{pos:bL}{fi:AF}{T:aA->List (Option aA)->Option (List (Option aA))}{t:BF}{f:EF}
theorem oP:xZ X [] (tTF X.K iC):=fun pins s σ H Q I gh=>by
 obtain⟨P,ρ,b,hP,rs,ef,k⟩:=gh
 cases ef
 exact Le pins s σ H Q I (k H Ext.refl)
theorem Ais.set {K:aH}{B:Hp}{ρ:List (Option aA)}{σ:St}{d:aA}{v:V}{j:Nat}(h:Ais K B ρ σ)(r:Aa6 K B d v)(hl:j<σ.length):Ais K B (ρ.set j (some d)) (σ.set j (some v)):=fun i d' e=>by
 by_cases q:j=i
 ·subst q
  have hj:j<ρ.length:=by
   have:=(fI.mp e).1
   simpa using this
  rw[kK hj] at e
  cases e
  exact⟨v,kK hl,r⟩
 ·rw[jA q] at e
  obtain⟨w,h1,h2⟩:=h i d' e
  exact⟨w,by rw[jA q]; exact h1,h2⟩
def DGB (X:Cx)(tg:aS)(T:aA->List (Option aA)->Option (List (Option aA))):Prop:=
 ∀ (pins:List (aB×aY)) (s:aG) (σ:St) (H:Hp) (v:V) (u:aE) (Q:St->Hp->Prop),Inv X pins σ H s->RelV v u->tGB X.K T v σ H Q ->
  aO (aP X.prog X.w) X.A (assign tg X.env u) (fun _ s'=>∃ σ' H',Inv X pins σ' H' s'/\Q σ' H') X.xe s
theorem oQ {j:Nat}{x:aD}(hN:X.N.Nodup)(hi:X.N[j]?=some x)(hx:lP X.env.scope x)(hf:X.fn x=true \/ X.env.scope.names.lookup x=some .local:=by first | exact .inl rfl | exact .inr rfl | assumption):DGB X (.Name x pos) (gB j):=fun pins s σ H v u Q I r gh=>by
 obtain⟨P,ρ,d,ρ',hP,rs,rd,ef,k⟩:=gh
 obtain⟨hj,rfl⟩:=MX ef
 have hl:j<σ.length:=by rw[I.len]; exact(fI.mp hi).1
 exact EE hN hi hx hf pins s σ H v u Q I r (k _ (rs.set rd hl))
theorem Nl {K:aH}{B:Hp}{ρ:List (Option aA)}{σ:St}(h:Ais K B ρ σ):Ais K B (jR cap ρ) (sZ cap σ):=fun i d e=>by
 unfold jR at e
 unfold sZ
 rw[gZ] at e ⊢
 cases hc:cap[i]? with
 | none=>rw[hc] at e; simp at e
 | some o=>
  rw[hc] at e
  cases o with
  | none=>simp at e
  | some j=>
   simp only[rB,bM,xG] at e ⊢
   obtain⟨v,h1,h2⟩:=h j d (PJ e)
   exact⟨v,by rw[h1]; rfl,h2⟩
theorem KQ {K:aH}(hT:TOk T) : ∀ σ H Q,tF K 1 (eLC cap fi T t f) σ H Q->tLC cap (tI K fi) (tGB K T) (tTF K t) (tF K 0 f) σ H Q:=fun σ H Q gh=>by
 obtain⟨P,ρ,d,hP,rs,ef,k⟩:=gh
 obtain⟨ds,e1,ef⟩:=XBs ef
 obtain⟨all,e2,ef⟩:=XBs ef
 obtain⟨hz,rfl⟩:=cT ef
 refine⟨P,ρ,ds,hP,rs,e1,fun J H1 x1 it A hA=>?_⟩
 have hPA:=(hP.ext x1).new hA
 have back : ∀ {H':Hp} {ys:List V},hid (upd H' A (.lst ys)) (orL P [A])=hid H' (orL P [A]):=fun {H' ys}=>by
  funext b
  unfold hid
  by_cases hb:orL P [A] b
  ·rw[if_pos hb,if_pos hb]
  ·rw[if_neg hb,if_neg hb]
   exact bN (fun z=>hb (.inr (by simp[z])))
 refine⟨fun i m ys σ' H'=>m=ds.length - i/\i≤ds.length/\H' A=some (.lst ys)/\Ext H1 H'/\Ext (hid H1 P) (hid H' (orL P [A]))/\Ais K (hid H' (orL P [A])) (jR cap ρ) σ'/\ys.length≤i /\
  ∃ done rest,Aar K (hid H' (orL P [A])) done ys/\lcD T t f (jR cap ρ) (ds.drop i)=some rest/\all=done++rest,⟨ds.length,?_⟩,?_⟩
 ·have xa:Ext (hid H1 P) (hid (upd H1 A (.lst [])) (orL P [A])):=fun b o e=>by
   obtain⟨nb,e⟩:=Ab3.mp e
   have hb:=gK e hA
   exact dZ (fun z=>z.elim nb fun m=>hb (by simpa using m)) (by rw[bN hb]; exact e)
  exact⟨by simp,fH _,eB,Ext.new hA,xa,(Nl (rs.ext (bO x1))).ext xa,fH _,[],all,Aan.mpr rfl,by simpa using e2,rfl⟩
 ·rintro i m ys σ' H' ⟨rfl,hi,hD,x2,xb,rs2,hl,done,rest,rd,e3,rfl⟩
  refine⟨hD,?_⟩
  obtain⟨go,st⟩:=it i H' (Aax.trans x2)
  have hid2:Hid (orL P [A]) H':=fun a h=>by
   rcases h with h | h
   ·exact(hP.ext (x1.trans x2)) a h
   ·have:a=A:=by simpa using h
    subst this
    exact .inl ⟨_,hD⟩
  by_cases hlt:i<ds.length
  ·have hd:=lC hlt
   rw[Ph hlt] at e3
   obtain⟨ρ1,e4,e3⟩:=XBs e3
   obtain⟨c,e5,e3⟩:=XBs e3
   obtain⟨g1,g2⟩:=go _ hd
   refine .inr ⟨g1,by omega,fun ys σ' H'=>i+1≤ds.length/\H' A=some (.lst ys)/\Ext H1 H'/\Ext (hid H1 P) (hid H' (orL P [A]))/\Ais K (hid H' (orL P [A])) (jR cap ρ) σ'/\ys.length≤i+1 /\
    ∃ d2 r2,Aar K (hid H' (orL P [A])) d2 ys/\lcD T t f (jR cap ρ) (ds.drop (i+1))=some r2/\done++rest=d2++r2,fun zs σ2 H2 h=>⟨ds.length - (i+1),by omega,rfl,h⟩,fun x H2 y=>?_⟩
   obtain⟨x3,r3⟩:=g2 x H2 y
   refine⟨orL P [A],jR cap ρ,_,ρ1,hid2.ext x3,rs2.ext (bO x3),r3 _ hid2 xb,e4,fun σ3 rs3=>?_⟩
   refine⟨orL P [A],ρ1,c,hid2.ext x3,rs3,e5,fun H4 x4=>?_⟩
   have rs4:Ais K (hid H2 (orL P [A])) (jR cap ρ) σ3:=fun j d' e=>rs3 j d' (hT _ _ _ e4 j d' e)
   cases c with
   | false=>
    rw[if_neg pI] at e3
    refine iB ⟨hlt,x4 _ _ (x3 _ _ hD),x2.trans (x3.trans x4),xb.trans (bO (x3.trans x4)),rs4.ext (bO x4),by omega,done,rest,rd.ext (bO (x3.trans x4)),e3,rfl⟩
   | true=>
    rw[if_pos rfl] at e3
    obtain⟨yd,e6,e3⟩:=XBs e3
    obtain⟨r2,e7,e3⟩:=XBs e3
    cases e3
    refine jO ⟨orL P [A],ρ1,yd,hid2.ext (x3.trans x4),rs3.ext (bO x4),e6,cG fun v H5 x5 r5=>⟨x5 _ _ (x4 _ _ (x3 _ _ hD)),hlt,eB,?_,?_,?_,by simp; omega,done++[yd],r2,?_,e7,by simp⟩⟩
    ·intro b o e
     rw[bN (gK e hA)]
     exact x5 _ _ (x4 _ _ (x3 _ _ (x2 _ _ e)))
    ·rw[back]; exact xb.trans (bO (x3.trans (x4.trans x5)))
    ·rw[back]; exact rs4.ext (bO (x4.trans x5))
    ·rw[back]; exact(rd.ext (bO (x3.trans (x4.trans x5)))).snoc r5
  ·have e:i=ds.length:=by omega
   subst e
   rw[List.drop_length] at e3
   cases e3
   rw[rE] at k
   refine .inl ⟨st rfl,?_⟩
   refine k (.ref A) H' [A] (x1.trans x2) (fS.mpr ⟨by simp,.nil⟩) (fun a m=>?_) ⟨A,ys,ys.map fun _=>[],rfl,hD,?_,?_⟩
   ·have:a=A:=by simpa using m
    subst this
    exact⟨x1.none hA,_,hD⟩
   ·have : ∀ l:List V,(l.map fun _=>([]:List aB)).flatten=[]:=fun l=>by
     induction l with
     | nil=>rfl
     | cons a l ih=>rw[dJ,uB,ih]; rfl
    rw[this]
   ·have go : ∀ (ds:List aA) (xs:List V),Aar K (hid H' (orL P [A])) ds xs->All3 (Ae5 K (hid H' (orL P [A])) H' 0) ds xs (xs.map fun _=>[]):=by
     intro ds
     induction ds with
     | nil=>intro xs r; rw[Aan.mp r]; exact .nil
     | cons d ds ih=>
      intro xs r
      obtain⟨y,t,rfl,h1,h2⟩:=Aad.mp r
      exact .cons ⟨rfl,h1⟩ (ih t h2)
    exact go _ _ rd
def SQ (X:Cx)(N:List aD)(sc:gM)(tg elt:aS)(ifs:List aS)(T:aA->List (Option aA)->Option (List (Option aA)))(t:BF)(f:EF):Prop:=
 ∀ (cl:List (aD×aB)) (C:aB) (s₀:aG) (H₀:Hp) (ex:List aB),DGB (gH X N sc cl C s₀ H₀ ex) tg T/\xZ (gH X N sc cl C s₀ H₀ ex) ifs (tTF X.K t)/\DE (gH X N sc cl C s₀ H₀ ex) elt f
theorem pP (hc:X.calm=true)(S:CompScope X N cap sc)(hT:TOk T)(hi:DI X tg iter fi)(hb:SQ X N sc tg elt ifs T t f)(hs : ∀ x,qW iter X.env x=pure x:=by intro _; rfl) :
  DF 1 X (.ListComp elt [⟨tg,iter,ifs,0⟩] sc pos) (eLC cap fi T t f):=PE.imp (YA hc S hi (g:=tGB X.K T) (tc:=tTF X.K t) (te:=tF X.K 0 f) hb hs) (KQ hT)
variable {H0:Hp}{P0:aB->Prop}{n0:Nat}
theorem Oc {i:Nat}{x:aD}{px spos:bL}(m:Md)(hc:X.calm=true)(hN:X.N.Nodup)(hi':X.N[i]?=some x)(hx:lP X.env.scope x)(S:CompScope X N cap sc)(hT:TOk T)(hi:DI X tg iter fi)(hb:SQ X N sc tg elt ifs T t f)
  (hsw:mG (.ListComp elt [⟨tg,iter,ifs,0⟩] sc pos) (some (.Name x px)) spos.line X.env=pure true:=by rfl)
  (hs : ∀ x,qW iter X.env x=pure x:=by intro _; rfl) (hf:X.fn x=true \/ X.env.scope.names.lookup x=some .local:=by first | exact .inl rfl | exact .inr rfl | assumption) :
  DS X H0 P0 n0 (.Assign [.Name x px] (.ListComp elt [⟨tg,iter,ifs,0⟩] sc pos) spos) (cE i 1 m (eLC cap fi T t f)):=PS.imp (Nf hc hN hi' hx S hi (g:=tGB X.K T) (tc:=tTF X.K t) (te:=tF X.K 0 f) hb hsw hs hf) fun D σ H gh=>by
 obtain⟨B0,ρ,fp,o,S,ef,k⟩:=gh
 obtain⟨d,e1,ef⟩:=XBs ef
 obtain⟨hl,rfl⟩:=cT ef
 refine KQ hT σ H _ (xX m σ H _ ⟨B0,ρ,fp,d,S,e1,fun v H' t=>?_⟩)
 obtain⟨fp',S'⟩:=t.set hl
 exact k _ _ fp' S'
end
noncomputable def outD:Option Out->Option aA
 | some (.rt d)=>some d
 | some (.nx _)=>some .none
 | _=>none
noncomputable def fnD (np n:Nat)(body:SF):List aA->Option aA:=fun ds=>if ds.length=np then outD (body (ds.map (fun d=>some (0,d))++lB (n - np) none)) else none
noncomputable def spF (K:aH)(n0:Nat)(F:List aA->Option aA):Sp:=fun vs H Q _=>∃ P ds d,Hid P H/\Aar K (hid H P) ds vs/\F ds=some d/\Res K P n0 d H Q
section
variable {P:bC}{w:aW}{K:aH}{mg:aD->Option aE}{base:aQ}
theorem iP {x qual:aD}{st:bG}{f:aB}{fd:dS}{N ps:List aD}{k n0 np:Nat}{body:SF}(F:Fun K x qual st f fd)(S:FnScope N ps (bQ st))(hnp:np=ps.length)(hN:ps.length≤N.length)
  (hb : ∀ (cdv:aE) (A:bT) (outer:List dN) (s:aG) (H:Hp) (E:XK) (P0:aB->Prop),Room k (A.deeper (gX qual (bQ st) s.heap.objs.size f cdv))->DSs (iJ CX0 P w K mg base N qual (bQ st) f cdv A outer s H E).nox H P0 n0 (gU st) body) :
  FnOk P w K mg base CX0 (k+1) f fd ps (spF K n0 (fnD np N.length body)):=by
 refine F.ok S (fun vs H Q E h=>?_) (fun cdv A outer s H vs Q E hr h=>?_)
 ·obtain⟨P,ds,d,_,r,ef,_⟩:=h
  unfold fnD at ef
  by_cases hl:ds.length=np
  ·rw[r.length,hl,hnp]
  ·rw[if_neg hl] at ef; cases ef
 ·obtain⟨P0,ds,d,hP,r,ef,k⟩:=h
  refine⟨_,hb cdv A outer s H E P0 hr,?_⟩
  unfold fnD at ef
  by_cases hl:ds.length=np
  case neg=>rw[if_neg hl] at ef; cases ef
  rw[if_pos hl] at ef
  rw[← hl] at ef
  have hlen:=r.length
  have S0:Sta K H P0 (hid H P0) (ds.map (fun d=>some (0,d))++lB (N.length - ds.length) none) (start N vs) H (fun _=>[]):=by
   have eH:Hd P0 (fun _=>[])=P0:=by
    funext a
    simp[Hd]
   refine⟨by simp[start,hlen],fun _=>.nil,fun i j a h=>by simp at h,fun i a h=>by simp at h,Ext.refl,hP,by rw[eH]; exact Ext.refl,fun i n' d' e=>?_⟩
   rw[eH]
   by_cases hi:i<ds.length
   ·rw[AY (by simpa using hi),gZ] at e
    cases q:ds[i]? with
    | none=>rw[q] at e; simp at e
    | some d2=>
     rw[q] at e
     have e':0=n'/\d2=d':=by simpa using e
     obtain⟨rfl,rfl⟩:=e'
     obtain⟨v,h1,h2⟩:=r.get q
     refine⟨v,?_,rfl,h2⟩
     unfold start
     rw[AY (by rw[cP,hlen]; exact hi),gZ,h1]
     rfl
   ·rw[VN (by simpa using hi)] at e
    have:=rD e
    simp at this
  cases eb:body (ds.map (fun d=>some (0,d))++lB (N.length - ds.length) none) with
  | none=>rw[eb] at ef; cases ef
  | some o=>
   rw[eb] at ef
   refine⟨_,_,_,o,S0,eb,?_⟩
   cases o with
   | rt d'=>
    cases ef
    exact fun v H' ⟨Fr,h1,h2,h3,h4⟩=>k v H' Fr h1 h2 h3 h4
   | nx ρ'=>
    cases ef
    intro σ' H' fp' S'
    refine k .non H' [] S'.ext .nil (fun a m=>by simp at m) ?_
    cases n0 with
    | zero=>exact⟨rfl,Abg.mpr rfl⟩
    | succ n=>
     unfold Aec
     split
     ·exact .inl ⟨rfl,rfl,rfl⟩
     ·exact⟨rfl,Abg.mpr rfl⟩
   | bk _=>cases ef
   | ct _=>cases ef
variable {X:Cx}{x:aD}{k n0 np:Nat}{ps:List aD}{F:List aA->Option aA}{e:aS}{es:List aS}{fa:AF}{p pos:bL}
theorem cY (D:Def X.prog X.w X.K X.mg X.base x k ps (spF X.K n0 F))(hr:Room k X.A)(hg:Gl X x)(ha:DA X (e::es) fa)(hdb:(x == ("__debug__" : aD))=false:=by decide)(he:bD (e::es) X.env=(false,bI e X.env)::bD es X.env:=by rfl)
  (hpl:(eM pos (bD es X.env)).any (·.1)=false:=by rfl):DF n0 X (.Call (.Name x p) (e::es) [] pos) (aR F fa):=
 PE.imp (Ie D hr hg ha hdb he hpl) fun σ H Q gh=>by
  obtain⟨P,ρ,d,hP,rs,ef,k⟩:=gh
  obtain⟨ds,e1,ef⟩:=XBs ef
  refine⟨P,ρ,ds,hP,rs,e1,fun vs H1 x1 r1=>?_⟩
  show spF X.K n0 F (vs++[]) H1 Q E0
  rw[rE]
  exact⟨P,ds,d,hP.ext x1,r1,ef,k.mono x1⟩
end
noncomputable def g2I (g:Int->Int->aA):aA->aA->Option aA
 | .int i,.int j=>some (g i j)
 | _,_=>none
noncomputable def g2C (C:Int->Int->Prop)[∀ i j,Decidable (C i j)](g:Int->Int->aA):aA->aA->Option aA
 | .int i,.int j=>if C i j then some (g i j) else none
 | _,_=>none
section
variable {K:aH}
theorem CI {g:Int->Int->V}{gd:Int->Int->aA}(h : ∀ i j H,Aa6 K H (gd i j) (g i j)):OpD K 0 (rI0 g) (g2I gd):=fun P H x y a b d Q hP ra rb e k=>by
 unfold g2I at e
 split at e
 ·rename_i i j
  cases e
  exact⟨i,j,Aao.mp ra,Aao.mp rb,k.zero Ext.refl (h i j _)⟩
 ·cases e
theorem HQ {C C':Int->Int->Prop}[∀ i j,Decidable (C' i j)]{g:Int->Int->V}{gd:Int->Int->aA}(hC : ∀ i j,C' i j->C i j)(h : ∀ i j H,Aa6 K H (gd i j) (g i j)):OpD K 0 (rI C g) (g2C C' gd):=fun P H x y a b d Q hP ra rb e k=>by
 unfold g2C at e
 split at e
 ·rename_i i j
  obtain⟨hc,rfl⟩:=cT e
  exact⟨i,j,Aao.mp ra,Aao.mp rb,hC i j hc,k.zero Ext.refl (h i j _)⟩
 ·cases e
end
section
variable {X:Cx}{a b c:aS}{fa fb fc:EF}{pos:bL}
noncomputable def oG:aA->aA->Option aA:=g2I fun i j=>.int (i - j)
theorem rZ (ha:DE X a fa)(hb:DE X b fb):DE X (.BinOp a .Sub b pos) (eOp oG fa fb):=pQ ZD (CI fun _ _ _=>Aao.mpr rfl) ha hb
noncomputable def fD:aA->aA->Option aA:=g2C (fun i j=>(i.natAbs<2 ^ 64 \/ j.natAbs<2 ^ 64) \/ (i.natAbs<2 ^ 1000/\j.natAbs<2 ^ 1000)) fun i j=>.int (i*j)
theorem Cu:OpR X (kC .Mult) (rI (fun i j=>(i.natAbs<2 ^ 64 \/ j.natAbs<2 ^ 64) \/ (i.natAbs<2 ^ 1000/\j.natAbs<2 ^ 1000)) fun i j=>.int (i*j)):=by
 intro pins s σ H x y v u Q I rx ry h
 obtain⟨i,j,ex,ey,hc,q⟩:=h
 rcases hc with hc | hc
 ·refine YY pins s σ H x y v u Q I rx ry ⟨i,j,ex,ey,?_,q⟩
  rcases hc with hc | hc
  ·exact .inl ⟨by omega,by omega⟩
  ·exact .inr ⟨by omega,by omega⟩
 ·exact Lu pins s σ H x y v u Q I rx ry ⟨i,j,ex,ey,hc,q⟩
theorem jT (ha:DE X a fa)(hb:DE X b fb):DE X (.BinOp a .Mult b pos) (eOp fD fa fb):=pQ Cu (HQ (fun _ _ h=>h) fun _ _ _=>Aao.mpr rfl) ha hb
noncomputable def cH:aA->aA->Option aA:=g2C (fun _ j=>0<j) fun i j=>.int (i%j)
theorem fF (ha:DE X a fa)(hb:DE X b fb):DE X (.BinOp a .Mod b pos) (eOp cH fa fb):=pQ ZE (HQ (fun _ _ h=>h) fun _ _ _=>Aao.mpr rfl) ha hb
noncomputable def qP:aA->aA->Option aA:=g2C (fun i j=>0≤j/\j≤1000000/\i.natAbs<2 ^ 64) fun i j=>.int (i ^ j.toNat)
theorem vC (ha:DE X a fa)(hb:DE X b fb):DE X (.BinOp a .Pow b pos) (eOp qP fa fb):=pQ Ik (HQ (fun _ _ h=>h) fun _ _ _=>Aao.mpr rfl) ha hb
theorem FV {x y:aD}(hx:dE (.str x)=true)(hy:dE (.str y)=true):dE (.str (x++y))=true:=by
 have e:(x++y).cps=x.cps++y.cps:=rfl
 simp only[dE,PyData.strOk] at hx hy ⊢
 rw[e,Array.all_append,hx,hy]
 rfl
noncomputable def cS:aA->aA->Option aA
 | .int i,.int j=>some (.int (i+j))
 | .str x,.str y=>if x.length+y.length≤sizeLine then some (.str (x++y)) else none
 | .tuple (x::xs),.tuple ys=>if (x::xs).length+ys.length≤sizeLine then some (.tuple ((x::xs)++ys)) else none
 | _,_=>none
theorem Jn {K:aH}:OpD K 0 (fun x y H Q=>rI0 (fun i j=>.int (i+j)) x y H Q \/ (∃ i j,x = .str i/\y = .str j/\i.length+j.length≤sizeLine/\Q (.str (i++j)) H) \/ HN K x y H Q) cS:=fun P H x y a b d Q hP ra rb e k=>by
 unfold cS at e
 split at e
 ·rename_i i j
  cases e
  exact .inl ⟨i,j,Aao.mp ra,Aao.mp rb,k.zero Ext.refl (Aao.mpr rfl)⟩
 ·rename_i i j
  obtain⟨hc,rfl⟩:=cT e
  exact .inr (.inl ⟨i,j,(Aaq.mp ra).1,(Aaq.mp rb).1,hc,k.zero Ext.refl (Aaq.mpr ⟨rfl,FV (Aaq.mp ra).2 (Aaq.mp rb).2⟩)⟩)
 ·rename_i z zs ys
  obtain⟨hc,rfl⟩:=cT e
  obtain⟨p,us,rfl,hp,r1⟩:=Aaw.mp ra
  obtain⟨q,ws,rfl,hq,r2⟩:=Aaw.mp rb
  have l1:=r1.length
  have l2:=r2.length
  refine .inr (.inr ⟨p,q,us,ws,rfl,rfl,SqT.of (Aax _ _ hp),SqT.of (Aax _ _ hq),fun z=>by rw[z] at l1; simp at l1,by rw[l1,l2]; exact hc,fun z=>?_,fun z r hr=>?_⟩)
  ·subst z
   have:ys=[]:=by simpa using l2.symm
   subst this
   refine k.zero Ext.refl ?_
   rw[rE]
   exact ra
  ·exact k.tup hP hr (r1.append r2)
 ·cases e
theorem gG (ha:DE X a fa)(hb:DE X b fb):DE X (.BinOp a .Add b pos) (eOp cS fa fb):=pQ (Ban.or (Avf.or Awu)) Jn ha hb
mutual
noncomputable def noDict:aA->Bool
 | .dict _=>false
 | .list ds=>noDicts ds
 | .tuple ds=>noDicts ds
 | _=>true
noncomputable def noDicts:List aA->Bool
 | []=>true
 | d::r=>noDict d&&noDicts r
end
mutual
theorem lH {X:Cx}{pins:List (aB×aY)}{σ:St}{H:Hp}{s:aG}(I:Inv X pins σ H s) : ∀ {d:aA} {v:V} {u:aE},noDict d=true->Aa6 X.K H d v->RelV v u->d.canLay0=true /\ ∃ as,nQ s.heap u d as
 | .none,v,u,_,h,r=>by
  obtain rfl:=Abg.mp h
  cases r; exact⟨by simp[dE],_,.none⟩
 | .bool b,v,u,_,h,r=>by
  obtain rfl:=Aak.mp h
  cases r; exact⟨by simp[dE],_,.bool b⟩
 | .int i,v,u,_,h,r=>by
  obtain rfl:=Aao.mp h
  obtain⟨t,rfl⟩:=r; exact⟨by simp[dE],_,.int i t⟩
 | .str x,v,u,_,h,r=>by
  obtain⟨rfl,hl⟩:=Aaq.mp h
  obtain⟨t,rfl⟩:=r; exact⟨hl,_,.str x t⟩
 | .list ds,v,u,n,h,r=>by
  obtain⟨a,xs,rfl,hs,hr⟩:=Abf.mp h
  cases r
  obtain⟨its,rv,⟨o,m,e,hc,_,hd⟩,_⟩:=I.list hs
  obtain⟨hl,as,ha⟩:=GO I (by simpa [noDict] using n) hr rv
  exact⟨by simpa [dE] using hl,_,.list e hc hd (by simpa using ha)⟩
 | .tuple ds,v,u,n,h,r=>by
  obtain⟨a,xs,rfl,hs,hr⟩:=Aaw.mp h
  cases r
  obtain⟨its,rv,⟨o,e,hc,m,hd⟩,_⟩:=I.tuple (SqT.of hs)
  obtain⟨hl,as,ha⟩:=GO I (by simpa [noDict] using n) hr rv
  exact⟨by simpa [dE] using hl,_,.tuple e hc hd (by simpa using ha)⟩
 | .dict _,_,_,n,h,_=>by simp[noDict] at n
theorem GO {X:Cx}{pins:List (aB×aY)}{σ:St}{H:Hp}{s:aG}(I:Inv X pins σ H s) : ∀ {ds:List aA} {vs:List V} {us:List aE},noDicts ds=true->Aar X.K H ds vs->Vals vs us->xF ds=true /\ ∃ as,nP s.heap us ds as
 | [],vs,us,_,h,r=>by
  obtain rfl:=Aan.mp h
  cases r; exact⟨by simp[xF],_,.nil⟩
 | d::ds,vs,us,n,h,r=>by
  have n':noDict d=true/\noDicts ds=true:=by simpa [noDicts] using n
  obtain⟨x,rr,rfl,h1,h2⟩:=Aad.mp h
  cases r with
  | cons r1 r2=>
   obtain⟨l1,as,ha⟩:=lH I n'.1 h1 r1
   obtain⟨l2,bs,hb⟩:=GO I n'.2 h2 r2
   exact⟨by simp[xF,l1,l2],_,.cons ha hb⟩
end
noncomputable def dU (d:aA):Bool:=noDict d&&decide (d.depth≤60)
noncomputable def gEq:aA->aA->Option aA:=fun a b=>if (dU a&&dU b)=true then some (.bool (cO a b)) else none
noncomputable def gNe:aA->aA->Option aA:=fun a b=>if (dU a&&dU b)=true then some (.bool (!cO a b)) else none
noncomputable def xY (K:aH)(neg:Bool):R2:=fun x y H Q=>∃ da db,Aa6 K H da x/\Aa6 K H db y/\dU da=true/\dU db=true/\Q (.bl (neg != cO da db)) H
theorem jW (hu:X.A.units+100<cLine):OpR X (dR .Eq) (xY X.K false):=by
 intro pins s σ H x y v u Q I rx ry h
 obtain⟨da,db,ra,rb,fa,fb,q⟩:=h
 have fa':noDict da=true/\da.depth≤60:=by simpa [dU] using fa
 have fb':noDict db=true/\db.depth≤60:=by simpa [dU] using fb
 obtain⟨la,as,ra⟩:=lH I fa'.1 ra rx
 obtain⟨lb,bs,rb⟩:=lH I fb'.1 rb ry
 exact SeqAt.compareEq_reads ra rb la lb (by omega) ⟨.bl _,H,I,rfl,by simpa using q⟩
theorem CP (hu:X.A.units+100<cLine):OpR X (dR .NotEq) (xY X.K true):=by
 intro pins s σ H x y v u Q I rx ry h
 obtain⟨da,db,ra,rb,fa,fb,q⟩:=h
 have fa':noDict da=true/\da.depth≤60:=by simpa [dU] using fa
 have fb':noDict db=true/\db.depth≤60:=by simpa [dU] using fb
 obtain⟨la,as,ra⟩:=lH I fa'.1 ra rx
 obtain⟨lb,bs,rb⟩:=lH I fb'.1 rb ry
 exact SeqAt.compareNe_reads ra rb la lb (by omega) ⟨.bl _,H,I,rfl,by simpa using q⟩
theorem kQ {K:aH}:OpD K 0 (xY K false) gEq:=fun P H x y a b d Q hP ra rb e k=>by
 obtain⟨hc,rfl⟩:=cT e
 have hc':dU a=true/\dU b=true:=by simpa using hc
 exact⟨a,b,ra.ext Aax,rb.ext Aax,hc'.1,hc'.2,k.zero Ext.refl (Aak.mpr (by simp))⟩
theorem CM {K:aH}:OpD K 0 (xY K true) gNe:=fun P H x y a b d Q hP ra rb e k=>by
 obtain⟨hc,rfl⟩:=cT e
 have hc':dU a=true/\dU b=true:=by simpa using hc
 exact⟨a,b,ra.ext Aax,rb.ext Aax,hc'.1,hc'.2,k.zero Ext.refl (Aak.mpr (by simp))⟩
noncomputable def BO (K:aH)(neg:Bool):R2:=fun x y H Q=>∃ d ds,Aa6 K H d x/\(Aa6 K H (.list ds) y \/ Aa6 K H (.tuple ds) y)/\dU d=true/\noDicts ds=true/\Q (.bl (neg != ds.any fun z=>cO z d)) H
theorem ZS (hu:X.A.units+100<cLine):OpR X (dR .In) (BO X.K false):=by
 intro pins s σ H x y v u Q I rx ry h
 obtain⟨d,ds,ra,rb,fa,fb,q⟩:=h
 have fa':noDict d=true/\d.depth≤60:=by simpa [dU] using fa
 obtain⟨la,as,ra⟩:=lH I fa'.1 ra rx
 rcases rb with rb | rb
 ·obtain⟨lb,bs,rb⟩:=lH I (by simpa [noDict] using fb) rb ry
  exact SeqAt.in_list_reads rb ra (by simpa [dE] using lb) la (by omega) ⟨.bl _,H,I,rfl,by simpa using q⟩
 ·obtain⟨lb,bs,rb⟩:=lH I (by simpa [noDict] using fb) rb ry
  exact SeqAt.in_tuple_reads rb ra (by simpa [dE] using lb) la (by omega) ⟨.bl _,H,I,rfl,by simpa using q⟩
theorem Az (hu:X.A.units+100<cLine):OpR X (dR .NotIn) (BO X.K true):=by
 intro pins s σ H x y v u Q I rx ry h
 obtain⟨d,ds,ra,rb,fa,fb,q⟩:=h
 have fa':noDict d=true/\d.depth≤60:=by simpa [dU] using fa
 obtain⟨la,as,ra⟩:=lH I fa'.1 ra rx
 rcases rb with rb | rb
 ·obtain⟨lb,bs,rb⟩:=lH I (by simpa [noDict] using fb) rb ry
  exact SeqAt.notIn_list_reads rb ra (by simpa [dE] using lb) la (by omega) ⟨.bl _,H,I,rfl,by simpa using q⟩
 ·obtain⟨lb,bs,rb⟩:=lH I (by simpa [noDict] using fb) rb ry
  exact SeqAt.notIn_tuple_reads rb ra (by simpa [dE] using lb) la (by omega) ⟨.bl _,H,I,rfl,by simpa using q⟩
end
theorem PE.or {X:Cx}{e:aS}{t t':TE}(h:PE X e t)(h':PE X e t'):PE X e (fun σ H Q=>t σ H Q \/ t' σ H Q):=fun pins s σ H Q I q=>q.elim (h pins s σ H Q I) (h' pins s σ H Q I)
noncomputable def gLt:aA->aA->Option aA
 | .int i,.int j=>some (.bool (decide (i<j)))
 | .str i,.str j=>some (.bool (decide (i.cps.toList<j.cps.toList)))
 | _,_=>none
noncomputable def gLe:aA->aA->Option aA
 | .int i,.int j=>some (.bool (decide (i≤j)))
 | .str i,.str j=>some (.bool (!(decide (j.cps.toList<i.cps.toList))))
 | _,_=>none
noncomputable def gGt:aA->aA->Option aA:=g2I fun i j=>.bool (decide (j<i))
noncomputable def gGe:aA->aA->Option aA:=g2I fun i j=>.bool (decide (j≤i))
section
variable {K:aH}
theorem vB:OpD K 0 (fun x y H Q=>rI0 (fun i j=>.bl (decide (i<j))) x y H Q \/ ∃ i j,x = .str i/\y = .str j/\Q (.bl (decide (i.cps.toList<j.cps.toList))) H) gLt:=fun P H x y a b d Q hP ra rb e k=>by
 unfold gLt at e
 split at e
 ·cases e
  exact .inl ⟨_,_,Aao.mp ra,Aao.mp rb,k.zero Ext.refl (Aak.mpr rfl)⟩
 ·cases e
  exact .inr ⟨_,_,(Aaq.mp ra).1,(Aaq.mp rb).1,k.zero Ext.refl (Aak.mpr rfl)⟩
 ·cases e
theorem rW:OpD K 0 (fun x y H Q=>rI0 (fun i j=>.bl (decide (i≤j))) x y H Q \/ JQ x y H Q) gLe:=fun P H x y a b d Q hP ra rb e k=>by
 unfold gLe at e
 split at e
 ·cases e
  exact .inl ⟨_,_,Aao.mp ra,Aao.mp rb,k.zero Ext.refl (Aak.mpr rfl)⟩
 ·cases e
  exact .inr ⟨_,_,(Aaq.mp ra).1,(Aaq.mp rb).1,k.zero Ext.refl (Aak.mpr rfl)⟩
 ·cases e
theorem CW:OpD K 0 (rI0 fun i j=>.bl (decide (j<i))) gGt:=CI fun _ _ _=>Aak.mpr rfl
theorem TV:OpD K 0 (rI0 fun i j=>.bl (decide (j≤i))) gGe:=CI fun _ _ _=>Aak.mpr rfl
noncomputable def BM:aA->aA->Option aA
 | .none,.none=>some (.bool true)
 | _,.none=>some (.bool false)
 | _,_=>none
noncomputable def HK:aA->aA->Option aA
 | .none,.none=>some (.bool false)
 | _,.none=>some (.bool true)
 | _,_=>none
theorem OR {H:Hp}{a:aA}{x:V}(r:Aa6 K H a x):decide (x = .non)=(match a with | .none=>true | _=>false):=by
 cases a with
 | none=>obtain rfl:=Abg.mp r; rfl
 | bool b=>obtain rfl:=Aak.mp r; rfl
 | int b=>obtain rfl:=Aao.mp r; rfl
 | str b=>obtain⟨rfl,_⟩:=Aaq.mp r; rfl
 | list b=>obtain⟨_,_,rfl,_⟩:=Abf.mp r; rfl
 | tuple b=>obtain⟨_,_,rfl,_⟩:=Aaw.mp r; rfl
 | dict b=>obtain⟨_,rfl,_⟩:=Abl.mp r; rfl
theorem KR:OpD K 0 (fun x y H Q=>y = .non/\Q (.bl (decide (x = .non))) H) BM:=fun P H x y a b d Q hP ra rb e k=>by
 have q:=OR ra
 unfold BM at e
 split at e
 ·cases e
  exact⟨Abg.mp rb,k.zero Ext.refl (Aak.mpr (by rw[q]))⟩
 ·rename_i h
  cases e
  refine⟨Abg.mp rb,k.zero Ext.refl (Aak.mpr ?_)⟩
  rw[q]
  cases a <;> first | rfl | exact(h rfl).elim
 ·cases e
theorem My:OpD K 0 (fun x y H Q=>y = .non/\Q (.bl (!decide (x = .non))) H) HK:=fun P H x y a b d Q hP ra rb e k=>by
 have q:=OR ra
 unfold HK at e
 split at e
 ·cases e
  exact⟨Abg.mp rb,k.zero Ext.refl (Aak.mpr (by rw[q]; rfl))⟩
 ·rename_i h
  cases e
  refine⟨Abg.mp rb,k.zero Ext.refl (Aak.mpr ?_)⟩
  rw[q]
  cases a <;> first | rfl | exact(h rfl).elim
 ·cases e
end
noncomputable def cU:aA->Option aN
 | .int i=>some (.inl i)
 | .str x=>some (.inr x)
 | _=>none
theorem Dy {d:aA}{k:aN}(h:cU d=some k):d=kD k:=by
 cases d <;> simp[cU] at h <;> subst h <;> rfl
noncomputable def cQ (kds:List (aA×aA))(k:aN):Option aA:=(kds.find? fun kd=>decide (cU kd.1=some k)).map (·.2)
theorem sI (k:aN):cU (kD k)=some k:=by cases k <;> rfl
theorem FP {K:aH}{H:Hp}{k:aN} : ∀ {kds:List (aA×aA)} {kvs:List (aN×V)},Abp K H kds kvs->(cQ kds k=none/\dC kvs k=none) \/ ∃ d v,cQ kds k=some d/\dC kvs k=some v/\Aa6 K H d v
 | [],kvs,h=>by rw[Abn.mp h]; exact .inl ⟨rfl,rfl⟩
 | (k0,d)::r,kvs,h=>by
  obtain⟨k',x,rr,rfl,rfl,h1,h2⟩:=Aay.mp h
  by_cases e:k'=k
  ·refine .inr ⟨d,x,?_,vI e,h1⟩
   simp[cQ,gD,sI,e]
  ·have e1:cQ ((kD k',d)::r) k=cQ r k:=by simp[cQ,gD,sI,e]
   rw[e1,vO e]
   exact FP h2
theorem QX {K:aH}{H:Hp}{k:aN} : ∀ {kds:List (aA×aA)} {kvs:List (List aA×V)},Abx K H kds kvs->cQ kds k=none
 | [],kvs,h=>rfl
 | (k0,d)::r,kvs,h=>by
  obtain⟨k',x,rr,rfl,⟨rfl,_⟩,h1,h2⟩:=Aa2.mp h
  have e1:cQ ((.tuple k',d)::r) k=cQ r k:=by simp[cQ,gD,cU]
  rw[e1]
  exact QX h2
theorem Nu {K:aH}{H:Hp}{k:aN}{kds:List (aA×aA)}{v:V}{d:aA}(h:Aa6 K H (.dict kds) v)(e:cQ kds k=some d) : ∃ a,∃ kvs:Nat×List (aN×V),v = .ref a/\H a=some (.dK kvs.1 kvs.2)/\Abp K H kds kvs.2:=by
 obtain⟨a,ev,⟨kvs,h1,r⟩ | ⟨ts,h1,r⟩ | ⟨xs,h1,r⟩ | r⟩:=Abl.mp h
 case inr.inr.inr=>
  obtain⟨c,r',rfl,hn⟩:=yQ r
  have:cQ ((.none,.str c)::r') k=none:=by
   unfold cQ
   rw[List.find?_eq_none.mpr fun p m=>?_]
   ·rfl
   ·have:p.1 = .none:=(cJ.mp m).elim (fun z=>by rw[z]) (hn p)
    rw[this]
    simp[cU]
  rw[this] at e
  cases e
 case inr.inr.inl=>
  obtain⟨es,rfl,_⟩:=sO r
  cases e
 ·exact⟨a,kvs,ev,h1,r⟩
 ·cases kds with
  | nil=>simp[Avk] at r
  | cons p q=>
   obtain⟨k0,m⟩:=p
   obtain⟨rfl,r2⟩:=Ac1.mp r
   have e1:cQ ((.none,m)::q) k=cQ q k:=by simp[cQ,gD,cU]
   rw[e1,QX r2] at e
   cases e
noncomputable def cV (kds:List (aA×aA))(k:List aA):Option aA:=(kds.find? fun kd=>cO kd.1 (.tuple k)).map (·.2)
theorem Kk (a b:List aA):cO (.tuple a) (.tuple b)=pF a b:=by simp[cO]
theorem zN {a k:List aA}{d:aA}{r:List (aA×aA)}(ha:bP a=true)(hk:bP k=true):cV ((.tuple a,d)::r) k=if a=k then some d else cV r k:=by
 have e:cO (.tuple a) (.tuple k)=decide (a=k):=by rw[Kk,FS _ _ ha hk]
 unfold cV
 rw[gD,e]
 by_cases h:a=k
 ·rw[if_pos h,decide_eq_true h]; rfl
 ·rw[if_neg h,decide_eq_false h]
theorem OH {K:aH}{H:Hp}{k:List aA}(hk:bP k=true) : ∀ {kds:List (aA×aA)} {kvs:List (List aA×V)},Abx K H kds kvs->(cV kds k=none/\dC kvs k=none) \/ ∃ d v,cV kds k=some d/\dC kvs k=some v/\Aa6 K H d v
 | [],kvs,h=>by rw[Abz.mp h]; exact .inl ⟨rfl,rfl⟩
 | (k0,d)::r,kvs,h=>by
  obtain⟨k',x,rr,rfl,⟨rfl,hk'⟩,h1,h2⟩:=Aa2.mp h
  rw[zN hk' hk]
  by_cases e:k'=k
  ·rw[if_pos e]
   exact .inr ⟨d,x,rfl,vI e,h1⟩
  ·rw[if_neg e,vO e]
   exact OH hk h2
noncomputable def putD (kds:List (aA×aA))(k:aN)(d:aA):List (aA×aA):=
 if (kds.any fun kd=>decide (cU kd.1=some k))=true then kds.map fun kd=>if cU kd.1=some k then(kd.1,d) else kd else kds++[(kD k,d)]
theorem LD {K:aH}{H:Hp}{k:aN} : ∀ {kds:List (aA×aA)} {kvs:List (aN×V)},Abp K H kds kvs->(kds.any fun kd=>decide (cU kd.1=some k))=kvs.any fun kv=>decide (kv.1=k)
 | [],kvs,h=>by rw[Abn.mp h]; rfl
 | (k0,d)::r,kvs,h=>by
  obtain⟨k',x,rr,rfl,rfl,h1,h2⟩:=Aay.mp h
  rw[BB,BB,LD h2,sI]
  simp
theorem EU {K:aH}{H:Hp}{k:aN}{d:aA}{v:V}(rv:Aa6 K H d v) : ∀ {kds:List (aA×aA)} {kvs:List (aN×V)},Abp K H kds kvs ->
  Abp K H (kds.map fun kd=>if cU kd.1=some k then(kd.1,d) else kd) (kvs.map fun kv=>if kv.1=k then(kv.1,v) else kv)
 | [],kvs,h=>by rw[Abn.mp h]; exact Abn.mpr rfl
 | (k0,d0)::r,kvs,h=>by
  obtain⟨k',x,rr,rfl,rfl,h1,h2⟩:=Aay.mp h
  rw[dJ,dJ]
  by_cases e:k'=k
  ·rw[if_pos (show cU (kD k',d0).1=some k by rw[sI,e]),if_pos (show(k',x).1=k from e)]
   exact Aay.mpr ⟨k',v,_,rfl,rfl,rv,EU rv h2⟩
  ·rw[if_neg (show ¬ cU (kD k',d0).1=some k by rw[sI]; simpa using e),if_neg (show ¬ (k',x).1=k from e)]
   exact Aay.mpr ⟨k',x,_,rfl,rfl,h1,EU rv h2⟩
theorem Abp.snoc {K:aH}{H:Hp}{k:aN}{d:aA}{v:V}(rv:Aa6 K H d v) : ∀ {kds:List (aA×aA)} {kvs:List (aN×V)},Abp K H kds kvs->Abp K H (kds++[(kD k,d)]) (kvs++[(k,v)])
 | [],kvs,h=>by rw[Abn.mp h]; exact Aay.mpr ⟨k,v,[],rfl,rfl,rv,Abn.mpr rfl⟩
 | (k0,d0)::r,kvs,h=>by
  obtain⟨k',x,rr,rfl,rfl,h1,h2⟩:=Aay.mp h
  exact Aay.mpr ⟨k',x,_,rfl,rfl,h1,Abp.snoc rv h2⟩
theorem Km {K:aH}{H:Hp}{k:aN}{d:aA}{v:V}{kds:List (aA×aA)}{kvs:List (aN×V)}(h:Abp K H kds kvs)(rv:Aa6 K H d v):Abp K H (putD kds k d) (putK kvs k v):=by
 unfold putD putK
 rw[LD h]
 by_cases q:(kvs.any fun kv=>decide (kv.1=k))=true
 ·rw[if_pos q,if_pos q]; exact EU rv h
 ·rw[if_neg q,if_neg q]; exact Abp.snoc rv h
theorem Abp.length {K:aH}{H:Hp} : ∀ {kds:List (aA×aA)} {kvs:List (aN×V)},Abp K H kds kvs->kvs.length=kds.length
 | [],kvs,h=>by rw[Abn.mp h]; rfl
 | (k0,d0)::r,kvs,h=>by
  obtain⟨k',x,rr,rfl,rfl,h1,h2⟩:=Aay.mp h
  rw[eE,eE,Abp.length h2]
theorem zK {K:aH}{H:Hp}{d:aA}{x:V}{k:aN}(h:cU d=some k)(r:Aa6 K H d x):x=kV k:=by
 rw[Dy h] at r
 exact Fx r
noncomputable def gIx:aA->aA->Option aA
 | .list ds,.int i=>atI ds i
 | .tuple ds,.int i=>atI ds i
 | .str z,.int i=>if z.length≤sizeLine then(atI z.cps.toList i).bind fun c=>some (.str ⟨#[c]⟩) else none
 | .dict kds,d=>(cU d).bind fun k=>cQ kds k
 | _,_=>none
theorem KS {K:aH}{H:Hp}{ds:List aA}{xs:List V}{i:Int}{d:aA}(r:Aar K H ds xs)(h:atI ds i=some d) : ∃ v,atI xs i=some v/\Aa6 K H d v:=by
 unfold atI at h ⊢
 rw[r.length]
 obtain⟨j,h1,h2⟩:=XBs h
 obtain⟨v,h3,h4⟩:=r.get h2
 exact⟨v,by rw[h1]; exact h3,h4⟩
theorem Lj {α:Type}{xs:List α}{i:Int}{x:α}(h:atI xs i=some x) : ∃ j:Nat,xs[j]?=some x:=by
 unfold atI at h
 obtain⟨j,h1,h2⟩:=XBs h
 exact⟨j,h2⟩
section
variable {X:Cx}{a b e:aS}{es:List aS}{fa fb f:EF}{pos p:bL}
theorem dY (hu:X.A.units+40<cLine)(ha:DE X a fa)(hb:DE X b fb)(hs:LO b):DE X (.Subscript a b pos) (eOp gIx fa fb):=PE.imp (PE.or (YO Il ha hb hs) (EG hu ha hb hs)) fun σ H Q h=>by
 obtain⟨P,ρ,d,hP,rs,ef,k⟩:=h
 obtain⟨d1,e1,ef2⟩:=XBs ef
 obtain⟨d2,e2,ef3⟩:=XBs ef2
 clear ef ef2
 have seq:(∀ (H2:Hp) (v u:V),Ext H H2->Aa6 X.K (hid H2 P) d1 v->Aa6 X.K (hid H2 P) d2 u->rIx X.K v u H2 Q)->tOp (rIx X.K) (tF X.K 0 fa) (tF X.K 0 fb) σ H Q:=fun z=>
  ⟨P,ρ,d1,hP,rs,e1,cG fun v H1 x1 r1=>⟨P,ρ,d2,hP.ext x1,rs.ext (bO x1),e2,cG fun u H2 x2 r2=>z H2 v u (x1.trans x2) (r1.ext (bO x2)) r2⟩⟩
 cases d1 with
 | list ds=>
  cases d2 with
  | int i=>
   refine .inl (seq fun H2 v u x r1 r2=>.inl ?_)
   obtain⟨q,xs,rfl,hq,rr⟩:=Abf.mp r1
   obtain⟨w,h1,h2⟩:=KS rr (show atI ds i=some d from ef3)
   exact⟨q,xs,i,w,rfl,Aao.mp r2,Aax.sqL hq,h1,k.zero x h2⟩
  | _=>cases ef3
 | tuple ds=>
  cases d2 with
  | int i=>
   refine .inl (seq fun H2 v u x r1 r2=>.inr (.inl ?_))
   obtain⟨q,xs,rfl,hq,rr⟩:=Aaw.mp r1
   obtain⟨w,h1,h2⟩:=KS rr (show atI ds i=some d from ef3)
   exact⟨q,xs,i,w,rfl,Aao.mp r2,SqT.of (Aax _ _ hq),h1,k.zero x h2⟩
  | _=>cases ef3
 | str z=>
  cases d2 with
  | int i=>
   have ef3:(if z.length≤sizeLine then(atI z.cps.toList i).bind fun c=>some (.str ⟨#[c]⟩) else none)=some d:=ef3
   by_cases hz:z.length≤sizeLine
   ·rw[if_pos hz] at ef3
    obtain⟨c,h1,h2⟩:=XBs ef3
    cases h2
    obtain⟨j,hj⟩:=Lj h1
    refine .inl (seq fun H2 v u x r1 r2=>.inr (.inr ⟨z,i,c,(Aaq.mp r1).1,Aao.mp r2,hz,h1,k.zero x (Aaq.mpr ⟨rfl,ER (Aaq.mp r1).2 hj⟩)⟩))
   ·rw[if_neg hz] at ef3; cases ef3
  | _=>cases ef3
 | dict kds=>
  obtain⟨kk,h1,h2⟩:=XBs (show((cU d2).bind fun k=>cQ kds k)=some d by cases d2 <;> exact ef3)
  refine .inr ⟨P,ρ,_,hP,rs,e1,cG fun v H1 x1 r1=>⟨P,ρ,d2,hP.ext x1,rs.ext (bO x1),e2,cG fun u H2 x2 r2=>?_⟩⟩
  obtain⟨q,kvs,rfl,hq,rr⟩:=Nu (r1.ext (bO x2)) h2
  rcases FP rr with⟨n1,_⟩ | ⟨d',v',s1,s2,rd⟩
  ·rw[h2] at n1; cases n1
  ·rw[h2] at s1
   cases s1
   refine⟨q,v',rfl,.inl ⟨kvs.1,kvs.2,kk,.inl (Aax _ _ hq),zK h1 r2,s2.symm⟩,k.zero (x1.trans x2) rd⟩
 | _=>cases d2 <;> cases ef3
noncomputable def JN (neg:Bool):aA->List (aA×aA)->Option aA
 | .tuple _,(_,.list _)::_=>none
 | .tuple _,(_,.str _)::_=>none
 | .tuple k,(_,_)::kds=>if (bP k&&decide (cW k≤6))=true then some (.bool (neg != (cV kds k).isSome)) else none
 | _,_=>none
noncomputable def gIn (neg:Bool):aA->aA->Option aA
 | d,.list ds=>if (dU d&&noDicts ds)=true then some (.bool (neg != ds.any fun z=>cO z d)) else none
 | d,.tuple ds=>if (dU d&&noDicts ds)=true then some (.bool (neg != ds.any fun z=>cO z d)) else none
 | .str i,.str j=>some (.bool (neg != !(rH j i 0 j.length 1).isEmpty))
 | d,.dict kds=>if plK kds=true then(cU d).bind fun k=>some (.bool (neg != (cQ kds k).isSome)) else JN neg d kds
 | _,_=>none
noncomputable def DB (K:aH)(neg:Bool):R2:=fun x y H Q=>BO K neg x y H Q \/ (∃ i j,x = .str i/\y = .str j/\Q (.bl (neg != !(rH j i 0 j.length 1).isEmpty)) H) \/ ∃ a o,y = .ref a/\Avl H a x o/\Q (.bl (neg != o.isSome)) H
theorem oR (hu:X.A.units+100<cLine):OpR X (dR .In) (DB X.K false):=by
 intro pins s σ H x y v u Q I rx ry h
 rcases h with h | ⟨i,j,ex,ey,q⟩ | ⟨a,o,rfl,g,q⟩
 ·exact ZS hu pins s σ H x y v u Q I rx ry h
 ·exact Ck pins s σ H x y v u Q I rx ry ⟨i,j,ex,ey,by simpa using q⟩
 ·cases ry
  exact WZ (by omega) I g rx fun s' I'=>⟨.bl _,H,I',rfl,by simpa using q⟩
theorem GT (hu:X.A.units+100<cLine):OpR X (dR .NotIn) (DB X.K true):=by
 intro pins s σ H x y v u Q I rx ry h
 rcases h with h | ⟨i,j,ex,ey,q⟩ | ⟨a,o,rfl,g,q⟩
 ·exact Az hu pins s σ H x y v u Q I rx ry h
 ·exact Gj pins s σ H x y v u Q I rx ry ⟨i,j,ex,ey,by simpa using q⟩
 ·cases ry
  exact Kc (by omega) I g rx fun s' I'=>⟨.bl _,H,I',rfl,by simpa using q⟩
theorem lF {K:aH}{neg:Bool}:OpD K 0 (DB K neg) (gIn neg):=fun P H x y a b d Q hP ra rb e k=>by
 unfold gIn at e
 split at e
 ·obtain⟨hc,rfl⟩:=cT e
  have hc':=lN.mp hc
  exact .inl ⟨a,_,ra.ext Aax,.inl (rb.ext Aax),hc'.1,hc'.2,k.zero Ext.refl (Aak.mpr rfl)⟩
 ·obtain⟨hc,rfl⟩:=cT e
  have hc':=lN.mp hc
  exact .inl ⟨a,_,ra.ext Aax,.inr (rb.ext Aax),hc'.1,hc'.2,k.zero Ext.refl (Aak.mpr rfl)⟩
 ·cases e
  exact .inr (.inl ⟨_,_,(Aaq.mp ra).1,(Aaq.mp rb).1,k.zero Ext.refl (Aak.mpr rfl)⟩)
 ·rename_i kds
  by_cases pk:plK kds=true
  case neg=>
   rw[if_neg pk] at e
   have ek : ∃ m r,kds=(.none,m)::r:=by
    cases kds with
    | nil=>simp[plK] at pk
    | cons p r=>
     obtain⟨k0,m⟩:=p
     cases k0 <;> simp[plK] at pk
     exact⟨m,r,rfl⟩
   obtain⟨m,r,rfl⟩:=ek
   cases a with
   | tuple kk=>
    have hm : ∀ es,m ≠ .list es:=by
     rintro es rfl
     cases e
    have hm2 : ∀ c,m ≠ .str c:=by
     rintro c rfl
     cases e
    replace e:(if (bP kk&&decide (cW kk≤6))=true then some (eX (neg != (cV r kk).isSome)) else none)=some d:=by
     cases m with
     | list es=>exact absurd rfl (hm es)
     | str es=>cases e
     | _=>exact e
    obtain⟨hc,rfl⟩:=cT e
    have hc':bP kk=true/\cW kk≤6:=by simpa using hc
    obtain⟨q,ts,rfl,hq,rr⟩:=(oU hm hm2).mp rb
    obtain⟨b,xs,rfl,hb,rx⟩:=Aaw.mp (ra.ext Aax)
    refine .inr (.inr ⟨q,dC ts.2 kk,rfl,.inr ⟨ts.2,kk,b,⟨_,.inl (Aax _ _ hq)⟩,rfl,⟨hc'.1,hc'.2,xs,hb,Aar.keys kk hc'.1 rx⟩,rfl⟩,k.zero Ext.refl (Aak.mpr ?_)⟩)
    rcases OH hc'.1 rr with⟨n1,n2⟩ | ⟨d',v',s1,s2,rd⟩
    ·rw[n1,n2]; rfl
    ·rw[s1,s2]; rfl
   | _=>simp[JN] at e
  rw[if_pos pk] at e
  obtain⟨kk,h1,h2⟩:=XBs e
  cases h2
  obtain⟨q,kvs,rfl,hq,rr⟩:=(yW pk).mp rb
  refine .inr (.inr ⟨q,dC kvs.2 kk,rfl,.inl ⟨kvs.1,kvs.2,kk,.inl (Aax _ _ hq),zK h1 ra,rfl⟩,k.zero Ext.refl (Aak.mpr ?_)⟩)
  rcases FP rr with⟨n1,n2⟩ | ⟨d',v',s1,s2,rd⟩
  ·rw[n1,n2]; rfl
  ·rw[s1,s2]; rfl
 ·cases e
end
noncomputable def eJ:List aA->Option aA
 | [.list ds]=>some (.int ds.length)
 | [.tuple ds]=>some (.int ds.length)
 | [.dict kds]=>if plK kds=true then some (.int kds.length) else none
 | [.str z]=>if z.length≤sizeLine then some (.int z.length) else none
 | _=>none
theorem fV {K:aH}{H:Hp}{d:aA}{xs:List V}(r:Aar K H [d] xs) : ∃ v,xs=[v]/\Aa6 K H d v:=by
 obtain⟨v,t,rfl,h1,h2⟩:=Aad.mp r
 obtain rfl:=Aan.mp h2
 exact⟨v,rfl,h1⟩
section
variable {X:Cx}
def JP (K:aH):List V->Hp->VK->Prop:=fun xs H Q=>(∃ p ys,xs=[.ref p]/\(SqL K H p ys \/ SqT K H p ys)/\Q (.int ys.length) H) \/ (∃ z,xs=[.str z]/\z.length≤sizeLine/\Q (.int z.length) H) \/ ∃ a ep kvs,xs=[V.ref a]/\H a=some (.dK ep kvs)/\Q (.int kvs.length) H
theorem mF:Ac8 X (.builtin "len") (JP X.K):=Apo.or (Aor.or Cv)
theorem mE {K:aH}:CallD K 0 (JP K) eJ:=fun P H xs ds d Q hP r e k=>by
 unfold eJ at e
 split at e
 ·cases e
  obtain⟨v,rfl,r'⟩:=fV r
  replace r:=r'
  obtain⟨q,ys,rfl,hq,rr⟩:=Abf.mp r
  exact .inl ⟨q,ys,rfl,.inl (Aax.sqL hq),k.zero Ext.refl (Aao.mpr (by rw[rr.length]))⟩
 ·cases e
  obtain⟨v,rfl,r'⟩:=fV r
  replace r:=r'
  obtain⟨q,ys,rfl,hq,rr⟩:=Aaw.mp r
  exact .inl ⟨q,ys,rfl,.inr (SqT.of (Aax _ _ hq)),k.zero Ext.refl (Aao.mpr (by rw[rr.length]))⟩
 ·obtain⟨pk,rfl⟩:=cT e
  obtain⟨v,rfl,r'⟩:=fV r
  replace r:=r'
  obtain⟨q,ys,rfl,hq,rr⟩:=(yW pk).mp r
  exact .inr (.inr ⟨q,ys.1,ys.2,rfl,Aax _ _ hq,k.zero Ext.refl (Aao.mpr (by rw[rr.length]))⟩)
 ·obtain⟨hz,rfl⟩:=cT e
  obtain⟨v,rfl,r'⟩:=fV r
  replace r:=r'
  exact .inr (.inl ⟨_,by rw[(Aaq.mp r).1],hz,k.zero Ext.refl (Aao.mpr rfl)⟩)
 ·cases e
noncomputable def rT:aA->String
 | .none=>"NoneType"
 | .bool _=>"bool"
 | .int _=>"int"
 | .str _=>"str"
 | .list _=>"list"
 | .tuple _=>"tuple"
 | .dict _=>"dict"
noncomputable def OG:List String:=["int","bool","str","list","tuple","dict"]
theorem Bf (d:aA):rT d∈kinds:=by cases d <;> simp[rT,kinds]
noncomputable def jD (T:String):aA->Option aA
 | .dict ((.none,.str _)::_)=>none
 | d=>some (.bool (isK (rT d) T))
theorem Al:Ac8 X (.builtin "isinstance") (fun xs H Q=>∃ x T d b,xs=[x,.ty T]/\Aa6 X.K H d x/\T∈OG/\jD T d=some (.bool b)/\Q (.bl b) H):=by
 intro pins s σ H xs us Q I r h
 obtain⟨x,T,d,b,rfl,rd,hT,hb,q⟩:=h
 have hb2:b=isK (rT d) T:=by
  unfold jD at hb
  split at hb
  ·cases hb
  ·cases hb; rfl
 subst hb2
 have ek:=Ke (Bf d) hT
 have by_ty:TyOf X.K H x (.type (rT d))->aO (aP X.prog X.w) X.A (call (.builtin "isinstance") us) (EP X pins σ Q) X.xe s:=fun ty=>
  Ft pins s σ H _ us Q I r ⟨x,T,_,isK (rT d) T,rfl,ty,Alv.trans ek,q⟩
 cases d with
 | none=>obtain rfl:=Abg.mp rd; exact by_ty .non
 | bool b=>obtain rfl:=Aak.mp rd; exact by_ty (.bl _)
 | int b=>obtain rfl:=Aao.mp rd; exact by_ty (.int _)
 | str b=>obtain⟨rfl,_⟩:=Aaq.mp rd; exact by_ty (.str _)
 | list b=>
  obtain⟨a,ys,rfl,h,_⟩:=Abf.mp rd
  obtain⟨u,w',rfl,ru,rw'⟩:=vals2 r
  cases rw'
  cases ru
  obtain⟨its,_,⟨o,n,e1,hc,_,_⟩,_⟩:=I.list h
  exact kG UP I.kIn ⟨o,e1,hc⟩ (Alv.trans ek) (fun z=>nomatch z) fun tk=>⟨.bl _,H,I.tok tk,rfl,q⟩
 | tuple b=>obtain⟨_,_,rfl,h,_⟩:=Aaw.mp rd; exact by_ty (.tup h)
 | dict b=>
  obtain⟨_,rfl,⟨_,h,_⟩ | ⟨_,h,_⟩ | ⟨_,h,_⟩ | h⟩:=Abl.mp rd
  case inr.inr.inr=>
   obtain⟨_,_,rfl,_⟩:=yQ h
   cases hb
  ·exact by_ty (.dK h)
  ·exact by_ty (.dT h)
  ·obtain⟨u,w',rfl,ru,rw'⟩:=vals2 r
   cases rw'
   cases ru
   obtain⟨⟨_,_,o,_,e1,hc,_⟩,_⟩:=I.hok _ _ h
   exact kG UQ I.kIn ⟨o,e1,hc.1⟩ (Alv.trans ek) (fun z=>nomatch z) fun tk=>⟨.bl _,H,I.tok tk,rfl,q⟩
variable {e a b:aS}{es:List aS}{f:EF}{fa:AF}{p p2 pos apos cpos:bL}{x:aD}
theorem pW {T:String}(hgl:Gl X "isinstance")(hm:X.mg "isinstance" = none)(hg:Gl X x)(hmx:X.mg x=none)(hv:iX x=some (.type T))(hT:T∈OG)(he:DE X e f)
  (hn:x ≠ "__name__":=by decide) (hd:(x == ("__debug__" : aD))=false:=by decide) (hs1:bD (e::[.Name x p2]) X.env=(false,bI e X.env)::bD [.Name x p2] X.env:=by rfl)
  (hs2:bD (.Name x p2::[]) X.env=(false,bI (.Name x p2) X.env)::bD [] X.env:=by rfl) (hpl:(eM pos (bD [.Name x p2] X.env)).any (·.1)=false:=by rfl):DE X (.Call (.Name "isinstance" p) [e,.Name x p2] [] pos) (eUn (jD T) f):=
 PE.imp (vP Al hgl hm boot_isinstance (fJ he (fJ (KI hg hmx hv hn hd) jE hs2) hs1) (by decide) (by decide) hs1 hpl) fun σ H Q gh=>by
  obtain⟨P,ρ,d,hP,rs,ef,k⟩:=gh
  obtain⟨d1,e1,ef⟩:=XBs ef
  have hb : ∃ b,d = .bool b:=by
   unfold jD at ef
   split at ef
   ·cases ef
   ·cases ef; exact⟨_,rfl⟩
  obtain⟨b,rfl⟩:=hb
  exact⟨P,ρ,d1,hP,rs,e1,cG fun v H1 x1 r1=>⟨v,T,d1,b,rfl,r1.ext Aax,hT,ef,k.zero x1 (Aak.mpr rfl)⟩⟩
noncomputable def CD:List aA->Option aA
 | [.list ds]=>some (.tuple ds)
 | [.tuple ds]=>some (.tuple ds)
 | _=>none
theorem Fm {K:aH}:CallD K 0 (fun xs H Q=>∃ p ys,xs=[.ref p]/\((SqL K H p ys /\ ∀ l,H l=none->Q (.ref l) (upd H l (.tup ys))) \/ (SqT K H p ys/\Q (.ref p) H))) CD:=fun P H xs ds d Q hP r e k=>by
 unfold CD at e
 split at e
 ·cases e
  obtain⟨v,rfl,r'⟩:=fV r
  replace r:=r'
  obtain⟨q,ys,rfl,hq,rr⟩:=Abf.mp r
  exact⟨q,ys,rfl,.inl ⟨Aax.sqL hq,fun l hl=>k.tup hP hl rr⟩⟩
 ·cases e
  obtain⟨v,rfl,r'⟩:=fV r
  replace r:=r'
  obtain⟨q,ys,rfl,hq,rr⟩:=Aaw.mp r
  exact⟨q,ys,rfl,.inr ⟨SqT.of (Aax _ _ hq),k.zero Ext.refl r⟩⟩
 ·cases e
noncomputable def zZ:List aA->Option aA
 | [.list ds]=>some (.list ds)
 | [.tuple ds]=>some (.list ds)
 | [.str z]=>if z.length≤sizeLine then some (.list (z.cps.toList.map fun c=>.str ⟨#[c]⟩)) else none
 | _=>none
def SG (K:aH):List V->Hp->VK->Prop:=fun xs H Q=>(∃ p ys,xs=[.ref p]/\(SqL K H p ys \/ SqT K H p ys) /\ ∀ l,H l=none->Q (.ref l) (upd H l (.lst ys))) \/ ∃ z:aD,xs=[.str z]/\z.length≤sizeLine /\ ∀ l,H l=none->Q (.ref l) (upd H l (.lst (z.cps.toList.map pS)))
theorem Gr (hc:X.calm=true):Ac8 X (.type "list") (SG X.K):=Aof.or (Ef hc)
theorem QU {K:aH}{H:Hp} : ∀ {cs:List Nat},(∀ c∈cs,dE (.str ⟨#[c]⟩)=true)->Aar K H (cs.map fun c=>.str ⟨#[c]⟩) (cs.map pS)
 | [],_=>Aan.mpr rfl
 | c::r,h=>Aad.mpr ⟨_,_,rfl,Aaq.mpr ⟨rfl,h c bY⟩,QU fun c' m=>h c' (cA _ m)⟩
theorem Ez {K:aH}:CallD K 1 (SG K) zZ:=fun P H xs ds d Q hP r e k=>by
 unfold zZ at e
 split at e
 ·cases e
  obtain⟨v,rfl,r'⟩:=fV r
  replace r:=r'
  obtain⟨q,ys,rfl,hq,rr⟩:=Abf.mp r
  exact .inl ⟨q,ys,rfl,.inl (Aax.sqL hq),fun l hl=>k.lst hP hl rr⟩
 ·cases e
  obtain⟨v,rfl,r'⟩:=fV r
  replace r:=r'
  obtain⟨q,ys,rfl,hq,rr⟩:=Aaw.mp r
  exact .inl ⟨q,ys,rfl,.inr (SqT.of (Aax _ _ hq)),fun l hl=>k.lst hP hl rr⟩
 ·obtain⟨hz,rfl⟩:=cT e
  obtain⟨v,rfl,r'⟩:=fV r
  replace r:=r'
  refine .inr ⟨_,by rw[(Aaq.mp r).1],hz,fun l hl=>k.lst hP hl (QU fun c m=>?_)⟩
  obtain⟨j,hj⟩:=List.mem_iff_getElem?.mp m
  exact ER (Aaq.mp r).2 hj
 ·cases e
noncomputable def sY:List aA->Option aA
 | [.int i]=>some (.int i)
 | [.bool b]=>some (.int (if b then 1 else 0))
 | _=>none
theorem Am {K:aH}:CallD K 0 (fun xs H Q=>(∃ i,xs=[.int i]/\Q (.int i) H) \/ ∃ k,xs=[.bl k]/\Q (.int (if k then 1 else 0)) H) sY:=fun P H xs ds d Q hP r e k=>by
 unfold sY at e
 split at e
 ·cases e
  obtain⟨v,rfl,r'⟩:=fV r
  replace r:=r'
  exact .inl ⟨_,by rw[Aao.mp r],k.zero Ext.refl (Aao.mpr rfl)⟩
 ·cases e
  obtain⟨v,rfl,r'⟩:=fV r
  replace r:=r'
  exact .inr ⟨_,by rw[Aak.mp r],k.zero Ext.refl (Aao.mpr rfl)⟩
 ·cases e
noncomputable def BQ:List aA->Option aA
 | [.int i]=>some (.int (if i<0 then -i else i))
 | _=>none
theorem Aj {K:aH}:CallD K 0 (fun xs H Q=>∃ i,xs=[.int i]/\Q (.int (if i<0 then -i else i)) H) BQ:=fun P H xs ds d Q hP r e k=>by
 unfold BQ at e
 split at e
 ·cases e
  obtain⟨v,rfl,r'⟩:=fV r
  replace r:=r'
  exact⟨_,by rw[Aao.mp r],k.zero Ext.refl (Aao.mpr rfl)⟩
 ·cases e
noncomputable def lR:List aA->Option (List Bool)
 | []=>some []
 | .bool b::r=>(lR r).bind fun bs=>some (b::bs)
 | _::_=>none
noncomputable def qQ:List aA->Option aA
 | [.list ds]=>(lR ds).bind fun bs=>some (.bool (bs.all id))
 | _=>none
theorem NF {K:aH}{H:Hp} : ∀ {ds:List aA} {xs:List V} {bs:List Bool},lR ds=some bs->Aar K H ds xs->xs=bs.map V.bl
 | [],xs,bs,e,r=>by
  cases e
  rw[Aan.mp r]; rfl
 | .bool b::ds,xs,bs,e,r=>by
  obtain⟨bs',e1,e2⟩:=XBs (show((lR ds).bind fun bs=>some (b::bs))=some bs from e)
  cases e2
  obtain⟨v,t,rfl,h1,h2⟩:=Aad.mp r
  rw[Aak.mp h1,NF e1 h2]; rfl
 | .none::_,_,_,e,_=>by cases e
 | .int _::_,_,_,e,_=>by cases e
 | .str _::_,_,_,e,_=>by cases e
 | .list _::_,_,_,e,_=>by cases e
 | .tuple _::_,_,_,e,_=>by cases e
 | .dict _::_,_,_,e,_=>by cases e
theorem FQ {K:aH}:CallD K 0 (fun xs H Q=>∃ p ys,xs=[.ref p]/\SqL K H p ys/\(∀ y∈ys,∃ b,y = .bl b)/\Q (.bl (allB ys)) H) qQ:=fun P H xs ds d Q hP r e k=>by
 unfold qQ at e
 split at e
 ·obtain⟨bs,e1,e2⟩:=XBs e
  cases e2
  obtain⟨v,rfl,r'⟩:=fV r
  replace r:=r'
  obtain⟨q,ys,rfl,hq,rr⟩:=Abf.mp r
  obtain rfl:=NF e1 rr
  refine⟨q,_,rfl,Aax.sqL hq,fun y m=>?_,k.zero Ext.refl (Aak.mpr ?_)⟩
  ·obtain⟨b,_,rfl⟩:=cL.mp m
   exact⟨b,rfl⟩
  ·unfold allB
   rw[List.all_map]
   congr 2
   funext b
   cases b <;> rfl
 ·cases e
noncomputable def cutD (ds:List aA)(lo hi:Option Int):List aA:=(ds.drop (HT.sIx ds.length 0 lo)).take (HT.sIx ds.length ds.length hi - HT.sIx ds.length 0 lo)
abbrev OF:=List (Option aA)->Option (Option Int)
noncomputable def tOF (K:aH)(f:OF):TO:=fun σ H Q=>∃ P ρ o,Hid P H/\Ais K (hid H P) ρ σ/\f ρ=some o /\ ∀ H',Ext H H'->Q o H'
abbrev DO (X:Cx)(e:Option aS)(f:OF):Prop:=PO X e (tOF X.K f)
noncomputable def oN:OF:=fun _=>some none
noncomputable def oS (f:EF):OF:=fun ρ=>(f ρ).bind fun d=>match d with
 | .int i=>some (some i)
 | _=>none
theorem PO.imp {o:Option aS}{t t':TO}(h:PO X o t)(w : ∀ σ H Q,t' σ H Q->t σ H Q):PO X o t':=fun pins s σ H Q I q=>h pins s σ H Q I (w _ _ _ q)
theorem sF:DO X none oN:=PO.imp Lg fun σ H Q gh=>by
 obtain⟨P,ρ,o,hP,rs,ef,k⟩:=gh
 cases ef
 exact k H Ext.refl
theorem oO (h:DE X e f):DO X (some e) (oS f):=PO.imp (Jv h) fun σ H Q gh=>by
 obtain⟨P,ρ,o,hP,rs,ef,k⟩:=gh
 obtain⟨d,e1,ef⟩:=XBs ef
 refine⟨P,ρ,d,hP,rs,e1,cG fun v H1 x1 r1=>?_⟩
 cases d with
 | int i=>cases ef; exact⟨i,Aao.mp r1,k H1 x1⟩
 | _=>cases ef
noncomputable def nK (f:EF)(lo hi:OF):EF:=fun ρ=>(f ρ).bind fun d=>(lo ρ).bind fun l=>(hi ρ).bind fun h=>match d with
 | .list ds=>some (.list (cutD ds l h))
 | _=>none
theorem CY {lo hi:Option aS}{fl fh:OF}{pp:bL}(he:DE X e f)(hl:DO X lo fl)(hh:DO X hi fh):DF 1 X (.Subscript e (.Slice lo hi none pp) pos) (nK f fl fh):=PE.imp (NU Mh he hl hh) fun σ H Q gh=>by
 obtain⟨P,ρ,d,hP,rs,ef,k⟩:=gh
 obtain⟨d1,e1,ef2⟩:=XBs ef
 obtain⟨l,e2,ef3⟩:=XBs ef2
 obtain⟨h,e3,ef4⟩:=XBs ef3
 clear ef ef2 ef3
 cases d1 with
 | list ds=>
  cases ef4
  refine⟨P,ρ,_,hP,rs,e1,cG fun v H1 x1 r1=>⟨P,ρ,l,hP.ext x1,rs.ext (bO x1),e2,fun H2 x2=>⟨P,ρ,h,hP.ext (x1.trans x2),rs.ext (bO (x1.trans x2)),e3,fun H3 x3=>?_⟩⟩⟩
  obtain⟨q,ys,rfl,hq,rr⟩:=Abf.mp (r1.ext (bO (x2.trans x3)))
  refine⟨q,ys,rfl,Aax.sqL hq,fun p hp=>(k.mono ((x1.trans x2).trans x3)).lst (hP.ext ((x1.trans x2).trans x3)) hp ?_⟩
  unfold pB cutD
  rw[rr.length]
  exact(rr.drop _).take _
 | _=>cases ef4
noncomputable def pC:List aA->Option (List aD)
 | []=>some []
 | .str x::r=>(pC r).bind fun xs=>some (x::xs)
 | _::_=>none
theorem NW {K:aH}{H:Hp} : ∀ {ds:List aA} {xs:List V} {bs:List aD},pC ds=some bs->Aar K H ds xs->xs=bs.map V.str /\ ∀ b∈bs,dE (.str b)=true
 | [],xs,bs,e,r=>by
  cases e
  rw[Aan.mp r]; exact⟨rfl,fun b m=>by simp at m⟩
 | .str b::ds,xs,bs,e,r=>by
  obtain⟨bs',e1,e2⟩:=XBs (show((pC ds).bind fun bs=>some (b::bs))=some bs from e)
  cases e2
  obtain⟨v,t,rfl,h1,h2⟩:=Aad.mp r
  obtain⟨q1,q2⟩:=NW e1 h2
  rw[(Aaq.mp h1).1,q1]
  refine⟨rfl,fun c m=>?_⟩
  rcases cJ.mp m with rfl | m
  ·exact(Aaq.mp h1).2
  ·exact q2 c m
 | .none::_,_,_,e,_=>by cases e
 | .int _::_,_,_,e,_=>by cases e
 | .bool _::_,_,_,e,_=>by cases e
 | .list _::_,_,_,e,_=>by cases e
 | .tuple _::_,_,_,e,_=>by cases e
 | .dict _::_,_,_,e,_=>by cases e
theorem MZ {sep:aD}(hs:dE (.str sep)=true) : ∀ {ys:List aD},(∀ b∈ys,dE (.str b)=true)->dE (.str (kF sep ys))=true
 | [],_=>by
  have:kF sep []=Str.empty:=by simp[kF]
  rw[this]
  decide +kernel
 | [x],h=>by
  have:kF sep [x]=x:=by simp[kF]
  rw[this]
  exact h x bY
 | x::y::r,h=>by
  have e:kF sep (x::y::r)=x++sep++kF sep (y::r):=by
   rw[kF]
   intro z; cases z
  rw[e]
  exact FV (FV (h x bY) hs) (MZ hs fun b m=>h b (cA _ m))
noncomputable def rQ:aA->aA->Option aA
 | .str sep,.list ds=>(pC ds).bind fun ys=>if (ys.map (·.length)).sum+ys.length*sep.length≤16777216 then some (.str (kF sep ys)) else none
 | _,_=>none
theorem MQ {g:EF}(ho:DE X a f)(he:DE X e g)(hbase:pE a "join" X.env (bI a X.env)=bI a X.env:=by rfl)
  (hfew:((eM cpos (bD (e::[]) X.env)).all (fun x=>!x.1)&&(tT cpos (tP [] X.env)).all (fun x=>x.1.isSome)
   && decide ((e::[]).length+([]:List Keyword).length+(if ([]:List Keyword).isEmpty then 0 else 1)<30))=true:=by rfl)
  (hline:(apos.endLine == cpos.line)=true:=by rfl) (hs:bD (e::[]) X.env=(false,bI e X.env)::bD [] X.env:=by rfl) (hplain:(eM cpos (bD [] X.env)).any (·.1)=false:=by rfl):DE X (.Call (.Attribute a "join" apos) [e] [] cpos) (eOp rQ f g):=
 PE.imp (AA PySem.F.plainAttrs_str PySem.F.slot_str_join PySem.F.type_str_join Mm ho (fJ he jE hs) hbase hfew hline hs hplain) fun σ H Q gh=>by
  obtain⟨P,ρ,d,hP,rs,ef,k⟩:=gh
  obtain⟨d1,e1,ef2⟩:=XBs ef
  obtain⟨d2,e2,ef3⟩:=XBs ef2
  clear ef ef2
  cases d1 with
  | str sep=>
   cases d2 with
   | list ds=>
    obtain⟨ys,h1,h2⟩:=XBs (show((pC ds).bind fun ys=>if (ys.map (·.length)).sum+ys.length*sep.length≤16777216 then some (dH (kF sep ys)) else none)=some d from ef3)
    obtain⟨hz,rfl⟩:=cT h2
    refine⟨P,ρ,_,hP,rs,e1,cG fun v H1 x1 r1=>⟨by rw[(Aaq.mp r1).1]; rfl,P,ρ,_,hP.ext x1,rs.ext (bO x1),e2,cG fun u H2 x2 r2=>?_⟩⟩
    obtain⟨q,zs,rfl,hq,rr⟩:=Abf.mp r2
    obtain⟨rfl,hl⟩:=NW h1 rr
    exact⟨sep,q,ys,(Aaq.mp r1).1,rfl,Aax.sqL hq,hz,k.zero (x1.trans x2) (Aaq.mpr ⟨rfl,MZ (Aaq.mp r1).2 hl⟩)⟩
   | _=>cases ef3
  | _=>cases d2 <;> cases ef3
noncomputable def YF:aA->aA->aA->Option aA
 | .dict kds,k,x=>if plK kds=true then(cU k).bind fun k=>some ((cQ kds k).getD x) else none
 | _,_,_=>none
noncomputable def HM (fd fk fx:EF):EF:=fun ρ=>(fd ρ).bind fun d=>(fk ρ).bind fun k=>(fx ρ).bind fun x=>YF d k x
theorem Res.dic {K:aH}{P:aB->Prop}{H:Hp}{Q:VK}{kds:List (aA×aA)}{ep:Nat}{kvs:List (aN×V)}{q:aB}(hP:Hid P H)(h:Res K P 1 (.dict kds) H Q)(n:H q=none)(r:Abp K (hid H P) kds kvs):Q (.ref q) (upd H q (.dK ep kvs)):=by
 refine h (.ref q) _ [q] (Ext.new n) (fS.mpr ⟨by simp,.nil⟩) (fun a m=>?_) ⟨q,(ep,kvs),kvs.map fun _=>[],rfl,eB,?_,?_⟩
 ·have:a=q:=by simpa using m
  subst this
  exact⟨n,_,eB⟩
 ·have : ∀ l:List (aN×V),(l.map fun _=>([]:List aB)).flatten=[]:=fun l=>by
   induction l with
   | nil=>rfl
   | cons a l ih=>rw[dJ,uB,ih]; rfl
  rw[this]
 ·have xe:Ext (hid H P) (hid (upd H q (.dK ep kvs)) (orL P [q])):=fun b o e=>by
   obtain⟨nb,e⟩:=Ab3.mp e
   have hb:=gK e n
   exact dZ (fun z=>z.elim nb fun m=>hb (by simpa using m)) (by rw[bN hb]; exact e)
  generalize hid (upd H q (.dK ep kvs)) (orL P [q])=B at xe
  generalize upd H q (.dK ep kvs)=H1
  clear h
  have go : ∀ (ds:List (aA×aA)) (xs:List (aN×V)),Abp K (hid H P) ds xs->All3 (fun(kd:aA×aA) (kv:aN×V) f=>kd.1=kD kv.1/\Aec K B H1 0 kd.2 kv.2 f) ds xs (xs.map fun _=>[]):=by
   intro ds
   induction ds with
   | nil=>intro xs r; rw[Abn.mp r]; exact .nil
   | cons d ds ih=>
    intro xs r
    obtain⟨k',y,t,rfl,ek,h1,h2⟩:=Aay.mp (show Abp K (hid H P) ((d.1,d.2)::ds) xs from r)
    exact .cons ⟨ek,rfl,h1.ext xe⟩ (ih t h2)
  exact go kds kvs r
end
section
variable {K:aH}{H0 H B0:Hp}{P0:aB->Prop}{ρ:bB}{σ:St}{fp:Nat->List aB}{i:Nat}
theorem An {B:Hp} : ∀ {ds:List aA} {xs:List V} {Fs:List (List aB)},All3 (Ae5 K B H 0) ds xs Fs->Aar K B ds xs/\Fs.flatten=[]:=by
 intro ds xs Fs h
 induction h with
 | nil=>exact⟨Aan.mpr rfl,rfl⟩
 | cons h t ih=>
  obtain⟨rfl,r⟩:=h
  exact⟨Aad.mpr ⟨_,_,rfl,r,ih.1⟩,by rw[uB,ih.2]; rfl⟩
theorem Dz {B:Hp} : ∀ {ds:List (aA×aA)} {xs:List (aN×V)} {Fs:List (List aB)},All3 (fun(kd:aA×aA) (kv:aN×V) f=>kd.1=kD kv.1/\Ae5 K B H 0 kd.2 kv.2 f) ds xs Fs->Abp K B ds xs/\Fs.flatten=[]:=by
 intro ds xs Fs h
 induction h with
 | nil=>exact⟨Abn.mpr rfl,rfl⟩
 | @cons p q F ds xs Fs h t ih=>
  obtain⟨k,d⟩:=p
  obtain⟨k',v⟩:=q
  obtain⟨ek,rfl,r⟩:=h
  exact⟨Aay.mpr ⟨_,_,_,rfl,ek,r,ih.1⟩,by rw[uB,ih.2]; rfl⟩
theorem PH {B H1:Hp} : ∀ {ds:List aA} {xs:List V},Aar K B ds xs->All3 (Ae5 K B H1 0) ds xs (xs.map fun _=>[])/\(xs.map fun _=>([]:List aB)).flatten=[]
 | [],xs,r=>by rw[Aan.mp r]; exact⟨.nil,rfl⟩
 | d::ds,xs,r=>by
  obtain⟨y,t,rfl,h1,h2⟩:=Aad.mp r
  obtain⟨q1,q2⟩:=PH h2
  exact⟨.cons ⟨rfl,h1⟩ q1,by rw[dJ,uB,q2]; rfl⟩
theorem Sta.write {p:aB}{o:HO}{d':aA}(S:Sta K H0 P0 B0 ρ σ H fp)(hi:i<ρ.length)(hv:σ[i]?=some (some (.ref p)))(hp:p∈fp i)(ho:(∃ xs,o = .lst xs) \/ ∃ q:DQ,o=dO q)
  (new:Aec K (L2.hid H (Hd P0 fp)) (upd H p o) 1 d' (.ref p) (fp i)):Sta K H0 P0 B0 (ρ.set i (some (1,d'))) σ (upd H p o) fp:=by
 have hb:L2.hid (upd H p o) (Hd P0 fp)=L2.hid H (Hd P0 fp):=by
  funext b
  unfold L2.hid
  by_cases q:Hd P0 fp b
  ·rw[if_pos q,if_pos q]
  ·rw[if_neg q,if_neg q]
   exact bN fun z=>q (.inr ⟨i,by rw[z]; exact hp⟩)
 refine⟨by simp[S.len],S.nd,S.dj,fun j a m=>⟨(S.own j a m).1,?_⟩,fun b u e=>?_,S.hd,by rw[hb]; exact S.base,fun j n d e=>?_⟩
 ·by_cases q:a=p
  ·subst q
   rcases ho with⟨xs,rfl⟩ | ⟨xs,rfl⟩
   ·exact .inl ⟨xs,eB⟩
   ·exact .inr ⟨xs,eB⟩
  ·rw[bN q]; exact(S.own j a m).2
 ·rw[bN (gK e (S.own i p hp).1)]; exact S.ext b u e
 ·by_cases q:j=i
  ·subst q
   rw[kK hi] at e
   cases e
   exact⟨_,hv,by rw[hb]; exact new⟩
  ·rw[jA (fun z=>q z.symm)] at e
   obtain⟨v,h1,h2⟩:=S.slot j n d e
   refine⟨v,h1,?_⟩
   rw[hb]
   exact h2.keep Ext.refl fun a m=>bN fun z=>q (S.dj j i a m (by rw[z]; exact hp))
theorem Sta.lst1 {ds:List aA}(S:Sta K H0 P0 B0 ρ σ H fp)(e:ρ[i]?=some (some (1,.list ds))) : ∃ p xs,σ[i]?=some (some (.ref p))/\H p=some (.lst xs)/\Aar K (L2.hid H (Hd P0 fp)) ds xs /\
  ∀ ds' xs',Aar K (L2.hid H (Hd P0 fp)) ds' xs'->Sta K H0 P0 B0 (ρ.set i (some (1,.list ds'))) σ (upd H p (.lst xs')) fp:=by
 obtain⟨v,h1,h2⟩:=S.slot i 1 _ e
 obtain⟨p,xs,Fs,rfl,hp,hF,h3⟩:=h2
 obtain⟨r,hn⟩:=An h3
 rw[hn] at hF
 refine⟨p,xs,h1,hp,r,fun ds' xs' r'=>S.write (fI.mp e).1 h1 (by rw[hF]; exact bY) (.inl ⟨_,rfl⟩) ?_⟩
 obtain⟨q1,q2⟩:=PH r'
 exact⟨p,xs',_,rfl,eB,by rw[hF,q2],q1⟩
end
noncomputable def getL (i:Nat)(ρ:bB):Option (List aA):=match ρ[i]? with
 | some (some (1,.list ds))=>some ds
 | _=>none
theorem zL {i:Nat}{ρ:bB}{ds:List aA}(h:getL i ρ=some ds):ρ[i]?=some (some (1,.list ds)):=by
 unfold getL at h
 split at h
 ·rename_i e; cases h; exact e
 ·cases h
section
variable {X:Cx}{H0:Hp}{P0:aB->Prop}{n0:Nat}{e k o:aS}{f g:EF}{x:aD}{px pos apos cpos spos:bL}{i:Nat}
noncomputable def BN (i:Nat)(m:Md)(f:EF):SF:=fun ρ=>(eV 0 m f ρ).bind fun d=>(getL i ρ).bind fun ds=>if ds.length<sizeLine then some (.nx (ρ.set i (some (1,.list (ds++[d]))))) else none
theorem Ai (i:Nat)(m:Md)(he:DE X e f)(hN:X.N[i]?=some x:=by rfl)(hv:lO X.env.scope x:=by first | exact bH rfl | exact bE (bH rfl) | exact bE (bE rfl))(hd:(x == ("__debug__" : aD))=false:=by decide)
  (hcd:(x == ("__classdict__" : aD))=false:=by decide) (hbase:pE (.Name x px) "append" X.env (bI (.Name x px) X.env)=bI (.Name x px) X.env:=by rfl)
  (hfew:((eM cpos (bD (e::[]) X.env)).all (fun x=>!x.1)&&(tT cpos (tP [] X.env)).all (fun x=>x.1.isSome)
   && decide ((e::[]).length+([]:List Keyword).length+(if ([]:List Keyword).isEmpty then 0 else 1)<30))=true:=by rfl)
  (hline:(apos.endLine == cpos.line)=true:=by rfl) (hs:bD (e::[]) X.env=(false,bI e X.env)::bD [] X.env:=by rfl) (hplain:(eM cpos (bD [] X.env)).any (·.1)=false:=by rfl)
  (hsw:mG (.Call (.Attribute (.Name x px) "append" apos) [e] [] cpos) none pos.line X.env=pure false:=by rfl):DS X H0 P0 n0 (.Expr (.Call (.Attribute (.Name x px) "append" apos) [e] [] cpos) pos) (BN i m f):=
 PS.imp (qC (AA PySem.F.plainAttrs_list PySem.F.slot_list_append PySem.F.type_list_append QI (oJ hN hv hd hcd) (fJ (ev m he) jE hs) hbase hfew hline hs hplain) hsw) fun D σ H gh=>by
  obtain⟨B0,ρ,fp,o,S,ef,k⟩:=gh
  obtain⟨d,e1,ef2⟩:=XBs ef
  obtain⟨ds,e2,ef3⟩:=XBs ef2
  obtain⟨hl,rfl⟩:=cT ef3
  obtain⟨p,xs,h1,h2,_,_⟩:=S.lst1 (zL e2)
  refine⟨.ref p,h1,.inl ⟨rfl,xs,SqL.of h2⟩,B0,ρ,fp,d,S,e1,fun v H2 gh=>?_⟩
  obtain⟨fp2,S2,r2⟩:=gh
  obtain⟨p2,xs2,q1,q2,q3,q4⟩:=S2.lst1 (zL e2)
  have:p2=p:=by rw[h1] at q1; cases q1; rfl
  subst this
  exact⟨p2,xs2,v,rfl,rfl,q2,by rw[q3.length]; exact hl,k _ _ fp2 (q4 _ _ (q3.snoc r2.2))⟩
noncomputable def oB (i:Nat)(m:Md)(f:EF)(mk:Md)(g:EF):SF:=fun ρ=>(eV 0 m f ρ).bind fun d=>(getL i ρ).bind fun ds=>(eV 0 mk g ρ).bind fun k=>match k with
 | .int j=>(ixN ds.length j).bind fun j=>some (.nx (ρ.set i (some (1,.list (ds.set j d)))))
 | _=>none
theorem YM {K:aH}{m:Md}{σ:St}{H B0:Hp}{ρ:bB}{fp:Nat->List aB}{d:aA}(S:Sta K H0 P0 B0 ρ σ H fp)(e:eV 0 m g ρ=some d){Q:VK}(hd:fM d=true)(k : ∀ v H',Ext H H'->Aa6 K (hid H' (Hd P0 fp)) d v->Q v H'):tF K 0 g σ H Q:=by
 cases m with
 | s=>exact⟨Hd P0 fp,vS ρ,d,S.hid,S.viewS,e,cG k⟩
 | a=>
  obtain⟨d',ed,ef⟩:=XBs e
  obtain⟨fl,rfl⟩:=cT ef
  refine⟨P0,vA ρ,d',S.hd.ext S.ext,S.viewA,ed,cG fun v H' x r=>k v H' x (r.flat (fun a xs e=>?_) _ hd)⟩
  obtain⟨na,e⟩:=Ab3.mp e
  refine dZ (fun q=>?_) e
  rcases q with q | ⟨j,q⟩
  ·exact na q
  ·rcases((S.grow x).own j a q).2 with⟨ys,e2⟩ | ⟨ys,e2⟩ <;> rw[e] at e2 <;> first | cases e2 | (cases ys <;> simp[dO] at e2)
theorem DY (i:Nat)(m mk:Md)(he:DE X e f)(hk:DE X k g)(hN:X.N[i]?=some x:=by rfl)(hv:lO X.env.scope x:=by first | exact bH rfl | exact bE (bH rfl) | exact bE (bE rfl))(hd:(x == ("__debug__" : aD))=false:=by decide)
  (hcd:(x == ("__classdict__" : aD))=false:=by decide)
  (ha : ∀ v,assign (.Subscript (.Name x px) k apos) X.env v=(do
   let ov ← kB [v] (bI (.Name x px) X.env)
   let iv ← kB [v,ov] (bI k X.env)
   nM apos
   kB [v,ov,iv] (setItem ov iv v)
   release [v,ov,iv] []):=by intro _; rfl)
  (hs:swapsWithSole [.Subscript (.Name x px) k apos] e pos.line X.env=pure false:=by rfl) (hw:swappedStores [.Subscript (.Name x px) k apos] e X.env=pure none:=by rfl)
  (h1:(assignEach [.Subscript (.Name x px) k apos] X.env).map (·.2)=[assign (.Subscript (.Name x px) k apos) X.env]:=by rfl):DS X H0 P0 n0 (.Assign [.Subscript (.Name x px) k apos] e pos) (oB i m f mk g):=
 PS.imp (YX (ev m he) (YZ (oJ hN hv hd hcd) hk set_list ha) hs hw h1) fun D σ H gh=>by
  obtain⟨B0,ρ,fp,o,S,ef,kk⟩:=gh
  obtain⟨d,e1,ef2⟩:=XBs ef
  obtain⟨ds,e2,ef3⟩:=XBs ef2
  obtain⟨kd,e3,ef4⟩:=XBs ef3
  clear ef ef2 ef3
  cases kd with
  | int j=>
   obtain⟨jn,e5,ef5⟩:=XBs (show((ixN ds.length j).bind fun j=>some (Out.nx (ρ.set i (some (1,.list (ds.set j d))))))=some o from ef4)
   cases ef5
   refine⟨B0,ρ,fp,d,S,e1,fun v H2 gh=>?_⟩
   obtain⟨fp2,S2,r2⟩:=gh
   obtain⟨p,xs,h1,h2,_,_⟩:=S2.lst1 (zL e2)
   refine⟨.ref p,h1,YM S2 e3 (by simp[fM]) fun u H3 x3 r3=>?_⟩
   have S3:=S2.grow x3
   obtain⟨p3,xs3,q1,q2,q3,q4⟩:=S3.lst1 (zL e2)
   have:p3=p:=by rw[h1] at q1; cases q1; rfl
   subst this
   exact⟨p3,xs3,j,jn,rfl,Aao.mp r3,q2,by rw[q3.length]; exact e5,kk _ _ fp2 (q4 _ _ (q3.set (r2.2.ext (bO x3)) jn))⟩
  | _=>cases ef4
end
section
variable {X:Cx}{a b c:aS}{fa fb fc:EF}{pos:bL}
theorem Nh {op op':CmpOp}{r r':R2}{g g':aA->aA->Option aA}(ho:OpR X (dR op) r)(ho':OpR X (dR op') r')(hg:OpD X.K 0 r g)(hg':OpD X.K 0 r' g')(ha:DE X a fa)(hb:DE X b fb)(hc:DE X c fc)
  (hm:lastMarks [op,op'] [b,c]=false:=by with_unfolding_all rfl):DE X (.Compare a [op,op'] [b,c] pos) (kR g g' fa fb fc):=PE.imp (Au ho ho' ha hb hc hm) (NC hg hg')
theorem NG {op op':CmpOp}{r r':R2}{g g':aA->aA->Option aA}(ho:OpR X (dR op) r)(ho':OpR X (dR op') r')(hg:OpD X.K 0 r g)(hg':OpD X.K 0 r' g')(ha:DE X a fa)(hb:DE X b fb)(hc:DE X c fc)
  (hm:lastMarks [op,op'] [b,c]=false:=by with_unfolding_all rfl):DT X (.Compare a [op,op'] [b,c] pos) (bOf (kR g g' fa fb fc)):=PT.imp (Mw ho ho' ha hb hc hm) fun σ H Q gh=>by
 obtain⟨P,ρ,t,hP,rs,ef,k⟩:=gh
 obtain⟨d,e1,ef⟩:=XBs ef
 cases mX ef
 exact NC hg hg' σ H _ ⟨P,ρ,_,hP,rs,e1,cG fun v H1 x1 r1=>⟨t,Aak.mp r1,k H1 x1⟩⟩
noncomputable def wW:aA->aA->Option aA
 | .list xs,.list ys=>if xs.length+ys.length≤sizeLine then some (.list (xs++ys)) else none
 | _,_=>none
theorem Lx:OpR X (kC .Add) (fun x y H Q=>∃ l b xs zs,x = .ref l/\y = .ref b/\SqL X.K H l xs/\SqL X.K H b zs/\xs.length+zs.length≤sizeLine /\ ∀ p,H p=none->Q (.ref p) (upd H p (.lst (xs++zs)))):=by
 intro pins s σ H x y v u Q I rx ry h
 obtain⟨l,b,xs,zs,rfl,rfl,hH,hB,hz,q⟩:=h
 cases rx
 cases ry
 obtain⟨its,r,p1,z1⟩:=I.list hH
 obtain⟨its2,r2,p2,z2⟩:=I.list hB
 have l1:=r.length
 have l2:=r2.length
 obtain⟨⟨cls,dd,data,sl⟩,ho,hc,n,hd⟩:=p1.isList
 obtain⟨⟨cls2,dd2,data2,sl2⟩,ho2,hc2,n2,hd2⟩:=p2.isList
 simp only at hc hd hc2 hd2
 subst hc hd hc2 hd2
 refine IE ⟨_,ho,rfl⟩ ⟨_,ho2,rfl⟩ noFill_list_add seq_list_add PySem.F.slot_list_add PySem.F.entry_list_add (PySem.F.args_list_add_2 _ _) (list_addW l b its.toArray its2.toArray n n2 dd dd2 sl sl2 (by simp only[dM]; omega)) ⟨ho,ho2,?_⟩
 have ea:its.toArray++its2.toArray=(its++its2).toArray:=by simp
 rw[ea]
 exact⟨.ref _,_,I.lnew (r.append r2) (by rw[uA]; omega),rfl,q _ I.fresh⟩
theorem Jb (ha:DE X a fa)(hb:DE X b fb):DF 1 X (.BinOp a .Add b pos) (eOp wW fa fb):=pQ Lx (fun P H x y a b d Q hP ra rb e k=>by
 unfold wW at e
 split at e
 ·obtain⟨hz,rfl⟩:=cT e
  obtain⟨p,xs,rfl,hp,r1⟩:=Abf.mp ra
  obtain⟨q,ys,rfl,hq,r2⟩:=Abf.mp rb
  exact⟨p,q,xs,ys,rfl,rfl,Aax.sqL hp,Aax.sqL hq,by rw[r1.length,r2.length]; exact hz,fun l hl=>k.lst hP hl (r1.append r2)⟩
 ·cases e) ha hb
end
variable {X:Cx}{e a b:aS}{f fa fb:EF}{pos:bL}
noncomputable def KP (K:aH):R2:=fun x y H Q=>∃ a b ys,x = .ref a/\y = .ref b/\SqT K H a []/\SqT K H b ys/\Q (.ref b) H
theorem Ki:OpR X (kC .Add) (KP X.K):=by
 intro pins s σ H x y v u Q I rx ry h
 obtain⟨a,b,ys,rfl,rfl,ha,hb,q⟩:=h
 cases rx
 cases ry
 obtain⟨its,r1,p1,_⟩:=I.tuple ha
 obtain⟨its2,r2,p2,_⟩:=I.tuple hb
 cases r1
 obtain⟨⟨cls,dd,data,sl⟩,ho,hc,n,hd⟩:=p1
 obtain⟨⟨cls2,dd2,data2,sl2⟩,ho2,hc2,n2,hd2⟩:=p2
 simp only at hc hd hc2 hd2
 subst hc hd hc2 hd2
 exact IE ⟨_,ho,rfl⟩ ⟨_,ho2,rfl⟩ UG seq_tuple_add UT UV (UW _ _)
  (tuple_addW0 a b _ _ n n2 dd dd2 sl sl2 rfl) ⟨ho,ho2,⟨.ref b,H,I,rfl,q⟩⟩
noncomputable def oE:aA->aA->Option aA
 | .tuple xs,.tuple ys=>if xs.length+ys.length≤sizeLine then some (.tuple (xs++ys)) else none
 | _,_=>none
theorem Og {K:aH}:OpD K 0 (fun x y H Q=>HN K x y H Q \/ KP K x y H Q) oE:=fun P H x y a b d Q hP ra rb e k=>by
 unfold oE at e
 split at e
 ·rename_i zs ys
  obtain⟨hc,rfl⟩:=cT e
  obtain⟨p,us,rfl,hp,r1⟩:=Aaw.mp ra
  obtain⟨q,ws,rfl,hq,r2⟩:=Aaw.mp rb
  have l1:=r1.length
  have l2:=r2.length
  cases zs with
  | nil=>
   have eu:us=[]:=by simpa using l1
   subst eu
   exact .inr ⟨p,q,ws,rfl,rfl,SqT.of (Aax _ _ hp),SqT.of (Aax _ _ hq),k.zero Ext.refl rb⟩
  | cons z zs=>
   refine .inl ⟨p,q,us,ws,rfl,rfl,SqT.of (Aax _ _ hp),SqT.of (Aax _ _ hq),fun z=>by rw[z] at l1; simp at l1,by rw[l1,l2]; exact hc,fun z=>?_,fun z r hr=>?_⟩
   ·subst z
    have:ys=[]:=by simpa using l2.symm
    subst this
    refine k.zero Ext.refl ?_
    rw[rE]
    exact ra
   ·exact k.tup hP hr (r1.append r2)
 ·cases e
theorem EA (ha:DE X a fa)(hb:DE X b fb):DE X (.BinOp a .Add b pos) (eOp oE fa fb):=pQ (Awu.or Ki) Og ha hb
noncomputable def yB:List aA->Option aA
 | [.int i,.int j]=>some (.int (if j<i then j else i))
 | _=>none
theorem Bg {K:aH}:CallD K 0 (fun xs H Q=>∃ i j,xs=[.int i,.int j]/\Q (.int (if j<i then j else i)) H) yB:=fun P H xs ds d Q hP r e k=>by
 unfold yB at e
 split at e
 ·cases e
  obtain⟨v,t,rfl,h1,h2⟩:=Aad.mp r
  obtain⟨v',rfl,h3⟩:=fV h2
  rw[Aao.mp h1,Aao.mp h3]
  exact⟨_,_,rfl,k.zero Ext.refl (Aao.mpr rfl)⟩
 ·cases e
end L2
namespace L2
open PySem PySem.Spec PyProof.Rows
section
variable {P:bC}{w:aW}{A:bT}{E:aE->aG->Prop}{s:aG}
theorem Hc {t sl:aB}{us:Array aE}{vl vu:aE}{lo hi:Option Int}{Q:aE->aG->Prop}(ht:IsTup s.heap t us)(hs:s.heap.IsSliceOf sl vl vu .none)(pl:nV vl lo)(pu:nV vu hi)
  (hw:HT.sIx us.size 0 lo=0/\HT.sIx us.size us.size hi=us.size) (h:Q (.ref t) s):aO (aP P w) A (nN (.ref t) (.ref sl)) Q E s:=by
 obtain⟨os,e1,e2,e3⟩:=id hs
 have ty:s.TypeIs (.ref sl) "slice":=⟨os,e1,e2⟩
 unfold nN
 try with_reducible refine iG ?_
 first | refine aK (aZ ?_) | skip
 refine aK (wpAny_sequenceKey ht.typeIs (by decide) (aK (AJ ht.typeIs IC (qT IC ht.typeIs entry_tuple_getitem ?_ (args_tuple_getitem _ _)))))
 show aO _ _ (VU (.ref t) >>= _) _ _ s
 refine aK (tupleItemsOf_ ht (aK (tJ ty ?_)))
 rw[if_pos (by decide)]
 refine aK (HT.Af7 hs pl pu ?_)
 have yes:(((HT.sIx us.size 0 lo:Nat):Int) == 0&&(1:Int) == 1&&(HT.sIx us.size us.size hi - HT.sIx us.size 0 lo) == us.size)=true:=by
  rw[hw.1,hw.2]
  simp
 show aO _ _ (if (((HT.sIx us.size 0 lo:Nat):Int) == 0&&(1:Int) == 1&&(HT.sIx us.size us.size hi - HT.sIx us.size 0 lo) == us.size)=true then _ else _) _ _ s
 rw[if_pos yes]
 unfold Builtin.Tuple.tupleIsExact
 refine aK (aK (tJ ht.typeIs (aZ ?_)))
 rw[if_pos (by decide)]
 exact aK (wpAny_rule (aZ ⟨_,rfl,aZ h⟩))
end
section
variable {X:Cx}{e:aS}{f:EF}{pos:bL}
def WR (K:aH):V->Option Int->Option Int->Hp->VK->Prop:=fun x lo hi H Q=>∃ a xs,x = .ref a/\SqT K H a xs/\(HT.sIx xs.length 0 lo=0/\HT.sIx xs.length xs.length hi=xs.length)/\Q (.ref a) H
theorem A0r:SlR X (WR X.K):=by
 intro pins s σ H x v vl vu lo hi sl Q I rx hs pl pu h
 obtain⟨a,xs,rfl,hx,hw,q⟩:=h
 cases rx
 obtain⟨its,r,ht,hz⟩:=I.tuple hx
 have hlen:its.toArray.size=xs.length:=by rw[dM]; exact r.length.symm
 exact⟨"tuple",_,IC.lookup,ht.typeIs,Hc ht hs pl pu (by rw[hlen]; exact hw) ⟨.ref a,H,I,rfl,q⟩⟩
noncomputable def nG (f:EF)(lo hi:OF):EF:=fun ρ=>(f ρ).bind fun d=>(lo ρ).bind fun l=>(hi ρ).bind fun h=>match d with
 | .tuple ds=>some (.tuple (cutD ds l h))
 | _=>none
theorem Eb {ds:List aA}{l h:Option Int}(hw:HT.sIx ds.length 0 l=0/\HT.sIx ds.length ds.length h=ds.length):cutD ds l h=ds:=by
 unfold cutD
 rw[hw.1,hw.2]
 simp
theorem yI {lo hi:Option aS}{fl fh:OF}{pp:bL}(he:DE X e f)(hl:DO X lo fl)(hh:DO X hi fh):DE X (.Subscript e (.Slice lo hi none pp) pos) (nG f fl fh):=PE.imp (NU (A0r.or Ip) he hl hh) fun σ H Q gh=>by
 obtain⟨P,ρ,d,hP,rs,ef,k⟩:=gh
 obtain⟨d1,e1,ef2⟩:=XBs ef
 obtain⟨l,e2,ef3⟩:=XBs ef2
 obtain⟨h,e3,ef4⟩:=XBs ef3
 clear ef ef2 ef3
 cases d1 with
 | tuple ds=>
  cases ef4
  refine⟨P,ρ,_,hP,rs,e1,cG fun v H1 x1 r1=>⟨P,ρ,l,hP.ext x1,rs.ext (bO x1),e2,fun H2 x2=>⟨P,ρ,h,hP.ext (x1.trans x2),rs.ext (bO (x1.trans x2)),e3,fun H3 x3=>?_⟩⟩⟩
  have r3:=r1.ext (bO (x2.trans x3))
  obtain⟨q,ys,rfl,hq,rr⟩:=Aaw.mp r3
  by_cases hw:HT.sIx ds.length 0 l=0/\HT.sIx ds.length ds.length h=ds.length
  ·rw[Eb hw] at k
   exact .inl ⟨q,ys,rfl,SqT.of (Aax _ _ hq),by rw[rr.length]; exact hw,(k.mono ((x1.trans x2).trans x3)).zero Ext.refl r3⟩
  ·refine .inr ⟨q,ys,rfl,SqT.of (Aax _ _ hq),by rw[rr.length]; exact hw,fun p hp=>(k.mono ((x1.trans x2).trans x3)).tup (hP.ext ((x1.trans x2).trans x3)) hp ?_⟩
   unfold pB cutD
   rw[rr.length]
   exact(rr.drop _).take _
 | _=>cases ef4
end
def Aux (h:aQ)(d:aB)(es:Array mM)(ep:Nat):Prop:=∃ o,h.get? d=some o/\o.ExactDict/\o.data = .dict es ep
theorem Aux.keep {h h':aQ}{d:aB}{es:Array mM}{ep:Nat}(x:Aux h d es ep)(k : ∀ o,h.get? d=some o->h'.get? d=some o):Aux h' d es ep:=
 let ⟨o,e,r⟩:=x; ⟨o,k o e,r⟩
theorem Aux.ty {s:aG}{d:aB}{es:Array mM}{ep:Nat}(x:Aux s.heap d es ep):s.TypeIs (.ref d) "dict":=let ⟨o,e,c,_⟩:=x; ⟨o,e,c.1⟩
section
variable {prog:bC}{w:aW}{A:bT}{E:aE->aG->Prop}{s:aG}{d it:aB}{es:Array mM}{ep i:Nat}
theorem Pd {Q:aE->aG->Prop}(nm:(d == gW)=false)(R:Aux s.heap d es ep)
  (q:Q (.ref s.heap.objs.size) { s with heap:=s.heap.push { cls:=.type "dict_keyiterator",data:=.fields #[.ref d,.int 0 0,.int es.size 0,.int ep 0] } }):aO (aP prog w) A (pyIter (.ref d)) Q E s:=by
 have ty:=R.ty
 obtain⟨o,eo,_,ed⟩:=R
 refine wpAny_pyIter_slot ty F.slot_dict_iter (qT F.slot_dict_iter ty F.entry_dict_iter
  ?_ (F.args_dict_iter_1 _))
 unfold Builtin.«dict.__iter__»
 refine aK ?_
 unfold Builtin.Dict.dictSlotNone
 refine aK (UC ty ?_)
 refine aZ ?_
 show aO _ _ (Builtin.Dict.showsAll d >>= _) _ _ s
 unfold Builtin.Dict.showsAll
 rw[if_neg (show ¬ (d == gW)=true by rw[nm]; exact pI)]
 refine aK (aZ ?_)
 refine aK (wX eo ed ?_)
 refine aK (wpAny_dictEpoch eo ed ?_)
 refine aK (pD (aZ ⟨_,rfl,"dict_keyiterator",_,
  ⟨_,eY _ rfl,rfl⟩,BE.lookup,?_⟩))
 simpa [rawInt] using q
theorem Pa {e:mM}{Q:Option aE->aG->Prop}(K:s.heap.IsKeyIter it d i es.size ep)(R:Aux s.heap d es ep)(x:es[i]?=some e)
  (q : ∀ h',h'.IsKeyIter it d (i+1) es.size ep->rF it s.heap h'->Q (some e.key) { s with heap:=h' }):aO (aP prog w) A (pyNext (.ref it)) Q E s:=by
 obtain⟨oi,ei,ci,di⟩:=id K
 obtain⟨o,eo,_,ed⟩:=R
 unfold pyNext
 refine aK (wpAny_attempt (AJ K.typeIs
  BE (qT BE K.typeIs
   Pj ?_ (Pk _))))
 refine aK (aZ ?_)
 refine aK ?_
 refine aK ?_
 first
  | refine aK (HX K.typeIs (aZ ?_))
  | refine aK (HW K.typeIs (aZ ?_))
 refine aK (wpAny_fieldsOf ei di ?_)
 have own:Builtin.Dict_items.ownsTuple "dict_keyiterator" = false:=by decide
 simp only[own,mO,if_false]
 show aO _ _ (if (cZ d == fX)=true then _ else _) _ _ s
 rw[if_neg (show ¬ (cZ d == fX)=true from pI)]
 refine aK (aZ ?_)
 refine aK (wX eo ed ?_)
 rw[if_neg (by simp)]
 refine aK (aZ ?_)
 refine aK (wpAny_dictEpoch eo ed ?_)
 rw[if_neg (by simp)]
 refine aZ ?_
 simp only[show ¬ ((i:Int)<0) from by omega,if_false,VQ,x]
 refine aK ?_
 first
  | refine aK (HX K.typeIs (aZ ?_))
  | refine aK (HW K.typeIs (aZ ?_))
 refine aK (wpAny_isOneOf_keyiter K.typeIs ?_)
 show aO _ _ (setField (.ref it) 1 (rawInt ((i:Int)+1)) >>= _) _ _ s
 refine aK (wpAny_setField ei di (by simp) ?_)
 have K':(s.heap.update it (Obj.mapFields (·.setIfInBounds 1 (rawInt ((i:Int)+1))))).IsKeyIter it d (i+1) es.size ep:=
  ⟨_,BC _ ei (Obj.isFreed_of_fields (Obj.data_mapFields di _)),(Obj.cls_mapFields ..).trans ci,by
   rw[Obj.data_mapFields di]; simp[rawInt]⟩
 refine aK (iG ?_)
 refine aK (wpAny_isOneOf_keyiter
  K'.typeIs ?_)
 exact aZ (aZ ⟨_,rfl,aZ (q _ K' (BD ..))⟩)
theorem Jk {Q:Option aE->aG->Prop}(hh:A.handled=none)(K:s.heap.IsKeyIter it d i es.size ep)(R:Aux s.heap d es ep)(x:es.size≤i)
  (q : ∀ h',Heap.ExtBut it s.heap h'->Q none { s with heap:=h' }):aO (aP prog w) A (pyNext (.ref it)) Q E s:=by
 obtain⟨oi,ei,ci,di⟩:=id K
 obtain⟨o,eo,_,ed⟩:=R
 unfold pyNext
 refine aK (wpAny_attempt (AJ K.typeIs
  BE (qT BE K.typeIs
   Pj ?_ (Pk _))))
 refine aK (aZ ?_)
 refine aK ?_
 refine aK ?_
 first
  | refine aK (HX K.typeIs (aZ ?_))
  | refine aK (HW K.typeIs (aZ ?_))
 refine aK (wpAny_fieldsOf ei di ?_)
 have own:Builtin.Dict_items.ownsTuple "dict_keyiterator" = false:=by decide
 simp only[own,mO,if_false]
 show aO _ _ (if (cZ d == fX)=true then _ else _) _ _ s
 rw[if_neg (show ¬ (cZ d == fX)=true from pI)]
 refine aK (aZ ?_)
 refine aK (wX eo ed ?_)
 rw[if_neg (by simp)]
 refine aK (aZ ?_)
 refine aK (wpAny_dictEpoch eo ed ?_)
 rw[if_neg (by simp)]
 refine aZ ?_
 simp only[show ¬ ((i:Int)<0) from by omega,if_false,VQ,Array.getElem?_eq_none x]
 refine aK ?_
 first
  | refine aK (HX K.typeIs (aZ ?_))
  | refine aK (HW K.typeIs (aZ ?_))
 show aO _ _ (setField (.ref it) 0 .none >>= _) _ _ s
 refine aK (wpAny_setField ei di (by simp) ?_)
 refine aK ?_
 simp only[newExc,newTuple]
 refine aK (pD ?_ (by size_fits))
 refine aK (wpAny_of_eq
  (by first | rfl | (simp only[firstArgMember]; rfl)) ?_)
 refine pD ?_ (by size_fits)
 simp only[raiseNew]
 refine aK (wpAny_handled ?_)
 rw[show A.in1.handled=none from hh]
 refine aK (aZ (wpAny_throw ?_))
 refine aK (UD
  ⟨_,eY _ rfl,rfl⟩ isSubtype_stop ?_)
 exact aZ (q _ (((BD ..).extBut.push _).push _))
theorem Co (hh:A.handled=none)(I d:aB)(ne:d≠I)(es:Array mM)(ep:Nat) :
  Walks prog w A I [I,d] [I] es.size (fun i v=>∃ e,es[i]?=some e/\v=e.key) (fun i h=>h.IsKeyIter I d i es.size ep/\Aux h d es ep) where
 sub:=fun b hb=>by simp at hb; simp[hb]
 frame:=fun _ _ _ st hk=>⟨st.1.at fun o e=>hk I (by simp) o e,st.2.keep fun o e=>hk d (by simp) o e⟩
 item:=fun i s Q E hi st hQ=>by
  have hx:=Pm hi
  refine Pa st.1 st.2 hx fun h' K' hs=>?_
  exact hQ _ h' s.toks ⟨_,hx,rfl⟩ ⟨K',st.2.keep fun o e=>hs.extBut d o ne e⟩ fun b o hb e=>hs.extBut b o (fun h=>hb (by simp[h])) e
 done:=fun s Q E st hQ=>Jk hh st.1 st.2 (bX _) fun h' he=>hQ h' s.toks fun b o hb e=>he b o (fun h=>hb (by simp[h])) e
 self:=fun _ _ _ _ st hQ=>wpAny_pyIter_keyiter st.1 hQ
theorem Hh:tL (.type "dict") "__len__" = pure (some (.builtin "dict.__len__")):=by rw[typeLookup_type,builtinLookup_eq_fast]; kernel_rfl
theorem Er {R:nO->aG->Prop}(hh:A.handled=none)(nm:(d == gW)=false)(D:Aux s.heap d es ep)(S:aB)(res:aE)(c₀:Nat)(hSd:S≠d)
  (hS:s.heap.get? S=some { cls:=.type "list",data:=.seq #[] c₀ }) (hn:es.size≤sizeLine)
  (q : ∀ h' tk acc c',(∀ b o,b≠S->s.heap.get? b=some o->h'.get? b=some o)->h'.get? S=some { cls:=.type "list",dict:=none,data:=.seq acc c',slots:=#[] } ->
   ItemsOf (fun i v=>∃ e,es[i]?=some e/\v=e.key) acc es.size->R (.ok (.ret res)) { s with heap:=h',toks:=tk }) :
  aO (aP prog w) A.in1 (Builtin.List.listExtendWith (.ref S) (.ref d) res)
   (fun fin s'=>match fin with | .done f=>R (.ok f) s' | .again c'=>c'.quiet=true/\iW (aP prog w) A c' R s') (fun e s'=>R (.error e) s') s:=by
 have ty:=D.ty
 unfold Builtin.List.listExtendWith
 refine aK (tJ ty ?_)
 have h1:Builtin.List.listSameRef (.ref S) (.ref d)=false:=by
  simp[Builtin.List.listSameRef,hSd]
 have h2:(kE "dict" == kE "list")=false:=by decide
 have h3:(kE "dict" == kE "tuple")=false:=by decide
 simp only[h1,h2,h3,Bool.or_false,mO,if_false]
 refine aK (Pd nm D ?_)
 refine aK (iG ?_)
 have hd0:d<s.heap.objs.size:=by obtain⟨o,e,_⟩:=D; exact cD e
 have hS0:S<s.heap.objs.size:=cD hS
 have keepP : ∀ b o,s.heap.get? b=some o->(s.heap.push { cls:=.type "dict_keyiterator",data:=.fields #[.ref d,.int 0 0,.int es.size 0,.int ep 0] }).get? b=some o:=fun b o e=>cN _ e
 have D':Aux (s.heap.push { cls:=.type "dict_keyiterator",data:=.fields #[.ref d,.int 0 0,.int es.size 0,.int ep 0] }) d es ep:=D.keep fun o e=>keepP d o e
 have itG:(s.heap.push { cls:=.type "dict_keyiterator",data:=.fields #[.ref d,.int 0 0,.int es.size 0,.int ep 0] }).IsKeyIter s.heap.objs.size d 0 es.size ep:=⟨_,eY _ rfl,rfl,rfl⟩
 unfold Builtin.List.listLengthHint
 refine aK (AG (T:="dict") (v:=.ref d) (by obtain⟨o,e,c,_⟩:=D'; exact⟨o,e,c.1⟩) Hh ?_)
 wp_delta
 refine aK (UD (T:="dict") (v:=.ref d) (b:=true) (by obtain⟨o,e,c,_⟩:=D'; exact⟨o,e,c.1⟩) (by rw[isSubtype_type]; kernel_rfl) ?_)
 show aO _ _ (typeOf (cZ d) >>= _) _ _ _
 refine aK (tJ (T:="dict") (v:=.ref d) (by obtain⟨o,e,c,_⟩:=D'; exact⟨o,e,c.1⟩) ?_)
 refine aZ ?_
 rw[if_pos (by decide)]
 refine aK (wpAny_rule ?_)
 refine aK ?_
 have S1:=keepP _ _ hS
 generalize(s.heap.push { cls:=.type "dict_keyiterator",data:=.fields #[.ref d,.int 0 0,.int es.size 0,.int ep 0] })=G at keepP D' S1 itG ⊢
 show aO _ _ (updateSeq S (·.push .none) >>= fun _=>updateSeq S (·.pop)) _ _ _
 refine aK (wpAny_updateSeq S1 rfl ?_)
 have S2:=BC (kY (·.push fX)) S1 rfl
 refine wpAny_updateSeq (hz:=by seq_fits) S2 rfl ?_
 have S3:=BC (kY (·.pop)) S2 rfl
 have other : ∀ b o,b≠S->G.get? b=some o->((G.update S (kY (·.push fX))).update S (kY (·.pop))).get? b=some o:=fun b o hb e=>
  (JB _ _ (jL hb)).trans ((JB _ _ (jL hb)).trans e)
 have hne:d≠s.heap.objs.size:=dA hd0
 have hSf:S∉[s.heap.objs.size,d]:=fun hm=>by
  rcases cJ.mp hm with z | z
  ·exact absurd hS0 (by rw[z]; exact kZ _)
  ·exact hSd (dB.mp z)
 refine aZ ⟨AM F.plain_extend_loop _,codeAny_extend_loopS (Co (A:=A.in1) hh s.heap.objs.size d hne es ep).toS hn _ hSf _ es.size 0 _ _ _ rfl (fH _)
  ⟨itG.at fun o e=>other _ o (rC hS0) e,D'.keep fun o e=>other _ o (jL hSd) e⟩ S3 (ItemsOf.nil _) fun s' acc c' hm hS' hacc=>?_⟩
 rw[Moved.eq_with hm]
 refine q s'.heap s'.toks acc c' (fun b ob hb e=>hm.heap b ob (fun hmem=>?_) (other b ob hb (keepP _ _ e))) hS' hacc
 rcases cJ.mp hmem with z | hmem
 ·exact hb z
 ·exact absurd (cD e) (by rw[dB.mp hmem]; exact kZ _)
theorem RK {Q:List aE->aG->Prop}(hh:A.handled=none)(nm:(d == gW)=false)(D:Aux s.heap d es ep)(hn:es.size≤sizeLine)
  (q : ∀ s' acc,(∀ b o,s.heap.get? b=some o->s'.heap.get? b=some o)->s'.gens=s.gens->s'.drawn=s.drawn->s'.os=s.os->ItemsOf (fun i v=>∃ e,es[i]?=some e/\v=e.key) acc es.size->Q acc.toList s') :
  aO (aP prog w) A (collect (.ref d)) Q E s:=by
 have hd0:d<s.heap.objs.size:=by obtain⟨o,e,_⟩:=D; exact cD e
 unfold collect
 refine aK (wpAny_runValue (qY F.entry_proto_collect ?_))
 rw[xS F.plain_proto_collect _]
 refine aK (pD ?_)
 refine aZ ⟨AM F.plain_list_iadd _,qY F.entry_list_iadd ?_⟩
 rw[xS F.plain_list_iadd _]
 have fin : ∀ (r:nO) (s':aG),(r = .ok (.ret (.ref s.heap.objs.size)) /\ ∃ h' tk acc c',s' = { s with heap:=h',toks:=tk }/\(∀ b o,b≠s.heap.objs.size->(s.heap.push { cls:=.type "list",data:=.seq ([]:List aE).toArray }).get? b=some o->h'.get? b=some o) /\
   h'.get? s.heap.objs.size=some { cls:=.type "list",dict:=none,data:=.seq acc c',slots:=#[] }/\ItemsOf (fun i v=>∃ e,es[i]?=some e/\v=e.key) acc es.size) ->
   (match r with
    | .ok (.ret v)=>aO (aP prog w) A (match v with
      | .ref a=>do
       let o ← load a
       match o.data with
        | .seq xs _=>pure xs.toList
        | _=>unsupported "internal:collect"
      | _=>unsupported "internal:collect") Q E s'
    | .ok _=>False
    | .error e=>E e s'):=by
  rintro r s' ⟨rfl,h',tk,acc,c',rfl,hk,hS',hacc⟩
  refine aK (wpAny_load hS' ?_)
  exact aZ (q { s with heap:=h',toks:=tk } acc (fun b o e=>hk b o (dA (cD e)) (cN _ e)) rfl rfl rfl hacc)
 refine iV (Er
  (R:=fun r s'=>r = .ok (.ret (.ref s.heap.objs.size)) /\ ∃ h' tk acc c',s' = { s with heap:=h',toks:=tk }/\(∀ b o,b≠s.heap.objs.size->(s.heap.push { cls:=.type "list",data:=.seq ([]:List aE).toArray }).get? b=some o->h'.get? b=some o) /\
   h'.get? s.heap.objs.size=some { cls:=.type "list",dict:=none,data:=.seq acc c',slots:=#[] }/\ItemsOf (fun i v=>∃ e,es[i]?=some e/\v=e.key) acc es.size)
  hh nm (D.keep fun o e=>cN _ e) s.heap.objs.size _ 0 (rC hd0) (eY _ rfl) hn fun h' tk acc c' hk hS' hacc=>⟨rfl,h',tk,acc,c',rfl,hk,hS',hacc⟩) (fun f s' hf=>?_) fun e s' hf=>absurd hf.1 (by intro z; cases z)
 cases f with
 | done f=>exact fin _ s' hf
 | again c=>exact⟨hf.1,qX hf.2 fun r s2 h2=>fin r s2 h2⟩
end
section
variable {X:Cx}{pins:List (aB×aY)}{σ:St}{H:Hp}{s:aG}
theorem GA {P:bC}{w:aW} : ∀ {es:List mM} {kvs:List (aN×V)} {vs:List (aN×aE)},KV kvs vs->PySem.Pairs (eA P w) es vs->Vals (kvs.map fun kv=>kV kv.1) (es.map (·.key))
 | [],kvs,vs,r,p=>by
  cases p
  cases r
  exact .nil
 | e::es,kvs,vs,r,p=>by
  cases p with
  | cons h hv t=>
   cases r with
   | cons h' t'=>
    refine .cons ?_ (GA t' t)
    show RelV (kV _) e.key
    rw[h'.1]
    rcases lI h with⟨i,tk,e1,e2⟩ | ⟨x,tk,e1,e2⟩
    ·rw[e1,e2]; exact⟨tk,rfl⟩
    ·rw[e1,e2]; exact⟨tk,rfl⟩
theorem OM {es:Array mM}{acc:Array aE}(h:ItemsOf (fun i v=>∃ e,es[i]?=some e/\v=e.key) acc es.size):acc.toList=es.toList.map (·.key):=by
 obtain⟨h1,h2⟩:=h
 apply List.ext_getElem?
 intro i
 rw[gZ]
 by_cases hi:i<acc.size
 ·have ha:acc.toList[i]?=some acc[i]:=by simp[hi]
  obtain⟨e,he,hv⟩:=h2 i acc[i] (by simp[hi])
  have he':es.toList[i]?=some e:=by simpa using he
  rw[ha,he',hv]
  rfl
 ·have ha:acc.toList[i]?=none:=by simp; omega
  have he:es.toList[i]?=none:=by simp; omega
  rw[ha,he]
  rfl
theorem Jh {ep0:Nat}{kvs:List (aN×V)}{a:aB}(I:Inv X pins σ H s)(ha:H a=some (.dK ep0 kvs)):kvs.length≤sizeLine/\(a == gW)=false /\ ∃ es ep,Aux s.heap a es ep/\Vals (kvs.map fun kv=>kV kv.1) (es.toList.map (·.key))/\es.size=kvs.length:=by
 obtain⟨z,nm,vs,r,o,es,ep,e1,e2,e3,_,e5,_⟩:=HH I.hok ha
 refine⟨z,nm,es,ep,⟨o,e1,e2,e3⟩,GA r e5,?_⟩
 have l1:=(GA r e5).length
 simp at l1
 exact l1.symm
theorem Ap {H:Hp} : ∀ {kvs:List (List aA×V)} {ys:List (List aA×aB×aE)},dI (fun p q=>p.1=q.1/\Ajf H p.1 q.2.1/\RelV p.2 q.2.2) kvs ys->dI (fun(p:List aA×V) (b:aB)=>Ajf H p.1 b) kvs (ys.map fun y=>y.2.1):=by
 intro kvs ys h
 induction h with
 | nil=>exact .nil
 | cons h _ ih=>exact .cons h.2.1 ih
theorem OX {P:bC}{w:aW} : ∀ (ys:List (List aA×aB×aE)),Vals ((ys.map fun y=>y.2.1).map V.ref) ((ys.map (entryOfKey (mC P w))).map (·.key))
 | []=>.nil
 | _::t=>.cons rfl (OX t)
theorem PY {K:aH} : ∀ {kds:List (aA×aA)} {kvs:List (aN×V)},Abp K H kds kvs->(∀ kd∈kds,dE kd.1=true)->Aar K H (kds.map (·.1)) (kvs.map fun kv=>kV kv.1)
 | [],kvs,r,_=>by rw[Abn.mp r]; exact Aan.mpr rfl
 | (k,d)::kds,kvs,r,h=>by
  obtain⟨k',x,rr,rfl,rfl,h1,h2⟩:=Aay.mp r
  refine Aad.mpr ⟨_,_,rfl,?_,PY h2 fun kd m=>h kd (cA _ m)⟩
  have hl:=h (kD k',d) bY
  cases k' with
  | inl i=>exact Aao.mpr rfl
  | inr z=>exact Aaq.mpr ⟨rfl,hl⟩
end
open PySem PySem.W PyProof.Rows
noncomputable def evT {α:Type}(lt:Nat->Nat->Bool):KasT α->α
 | .ret a=>a
 | .ask i j k=>evT lt (k (lt i j))
theorem sC {α β:Type}(lt:Nat->Nat->Bool)(f:α->KasT β) : ∀ t:KasT α,evT lt (t.bind f)=evT lt (f (evT lt t))
 | .ret _=>rfl
 | .ask i j k=>sC lt f (k (lt i j))
structure Ord (lt:Nat->Nat->Bool):Prop where
 asym : ∀ a b,lt a b=true->lt b a=false
 tr : ∀ a b c,lt b a=false->lt c b=false->lt c a=false
section
variable {lt:Nat->Nat->Bool}(O:Ord lt)
noncomputable abbrev at' (p:Array Nat)(i:Nat):Nat:=p.getD i 0
def gE (lt:Nat->Nat->Bool)(p:Array Nat)(m:Nat):Prop:=∀ i j,i≤j->j<m->lt (at' p j) (at' p i)=false
def pJ (lt:Nat->Nat->Bool)(p:Array Nat)(m:Nat):Prop:=∀ i j,i≤j->j<m->lt (at' p i) (at' p j)=false
include O
theorem Ord.refl (a:Nat):lt a a=false:=by
 cases h:lt a a with
 | false=>rfl
 | true=>exact absurd (O.asym a a h) (by rw[h]; decide)
theorem Kf {p:Array Nat}{n:Nat}(h1:1≤n)(h:gE lt p n)(hl:lt (at' p n) (at' p (n - 1))=false):gE lt p (n+1):=fun i j hij hj=>by
 by_cases c:j<n
 ·exact h i j hij c
 ·obtain rfl:j=n:=by omega
  by_cases d:i=j
  ·subst d; exact O.refl _
  ·exact O.tr _ _ _ (h i (j - 1) (by omega) (by omega)) hl
theorem vD {p:Array Nat}{n:Nat}(h1:1≤n)(h:pJ lt p n)(hl:lt (at' p (n - 1)) (at' p n)=false):pJ lt p (n+1):=fun i j hij hj=>by
 by_cases c:j<n
 ·exact h i j hij c
 ·obtain rfl:j=n:=by omega
  by_cases d:i=j
  ·subst d; exact O.refl _
  ·exact O.tr _ _ _ hl (h i (j - 1) (by omega) (by omega))
theorem Lc (p:Array Nat):gE lt p 1:=fun i j hij hj=>by
 obtain rfl:j=0:=by omega
 obtain rfl:i=0:=by omega
 exact O.refl _
theorem EI {p:Array Nat} : ∀ (f n:Nat),1≤n->gE lt p n->n≤evT lt (kas_asc p f n)/\evT lt (kas_asc p f n)≤n+f/\gE lt p (evT lt (kas_asc p f n))/\(evT lt (kas_asc p f n)<n+f->lt (at' p (evT lt (kas_asc p f n))) (at' p (evT lt (kas_asc p f n) - 1))=true)
 | 0,n,h1,h=>⟨bX _,bX _,h,fun z=>absurd z (by show ¬ n<n+0; omega)⟩
 | f+1,n,h1,h=>by
  have e:evT lt (kas_asc p (f+1) n)=evT lt (if lt (at' p n) (at' p (n - 1))=true then KasT.ret n else kas_asc p f (n+1)):=rfl
  rw[e]
  by_cases c:lt (at' p n) (at' p (n - 1))=true
  ·rw[if_pos c]
   exact⟨bX _,by show n≤n+(f+1); omega,h,fun _=>c⟩
  ·rw[if_neg c]
   obtain⟨a1,a2,a3,a4⟩:=EI f (n+1) (by omega) (Kf O h1 h (by simpa using c))
   exact⟨by omega,by omega,a3,fun z=>a4 (by omega)⟩
theorem FR {p:Array Nat}{k:Nat}(h:gE lt p k) : ∀ (f l r:Nat),l≤r->r≤k->r - l≤f->(∀ i<l,lt (at' p k) (at' p i)=false)->(∀ i,r≤i->i<k->lt (at' p i) (at' p k)=false) ->
  evT lt (kas_place p k f l r)≤k/\(∀ i<evT lt (kas_place p k f l r),lt (at' p k) (at' p i)=false) /\ ∀ i,evT lt (kas_place p k f l r)≤i->i<k->lt (at' p i) (at' p k)=false
 | 0,l,r,h1,h2,h3,hl,hr=>by
  have e:evT lt (kas_place p k 0 l r)=l:=rfl
  obtain rfl:l=r:=by omega
  rw[e]
  exact⟨h2,hl,hr⟩
 | f+1,l,r,h1,h2,h3,hl,hr=>by
  unfold kas_place
  by_cases c:l ≥ r
  ·rw[if_pos c]
   obtain rfl:l=r:=by omega
   exact⟨h2,hl,hr⟩
  ·rw[if_neg c]
   show evT lt (if lt (at' p k) (at' p ((l+r) / 2))=true then kas_place p k f l ((l+r) / 2) else kas_place p k f ((l+r) / 2+1) r)≤k/\_
   by_cases d:lt (at' p k) (at' p ((l+r) / 2))=true
   ·have e:evT lt (KasT.ask (p.getD k 0) (p.getD ((l+r) / 2) 0) fun c=>if c=true then kas_place p k f l ((l+r) / 2) else kas_place p k f ((l+r) / 2+1) r)=evT lt (kas_place p k f l ((l+r) / 2)):=by
     show evT lt (if lt (at' p k) (at' p ((l+r) / 2))=true then _ else _)=_
     rw[if_pos d]
    rw[e,if_pos d]
    exact FR h f l ((l+r) / 2) (by omega) (by omega) (by omega) hl fun i a b=>O.tr _ _ _ (O.asym _ _ d) (h _ i a b)
   ·have d':lt (at' p k) (at' p ((l+r) / 2))=false:=by simpa using d
    have e:evT lt (KasT.ask (p.getD k 0) (p.getD ((l+r) / 2) 0) fun c=>if c=true then kas_place p k f l ((l+r) / 2) else kas_place p k f ((l+r) / 2+1) r)=evT lt (kas_place p k f ((l+r) / 2+1) r):=by
     show evT lt (if lt (at' p k) (at' p ((l+r) / 2))=true then _ else _)=_
     rw[if_neg d]
    rw[e,if_neg d]
    refine FR h f ((l+r) / 2+1) r (by omega) h2 (by omega) (fun i hi=>?_) hr
    exact O.tr _ _ _ (h i ((l+r) / 2) (by omega) (by omega)) d'
end
theorem at_of {p:Array Nat}(i:Nat):at' p i=(p[i]?).getD 0:=Array.getD_eq_getD_getElem?
theorem TC {p:Array Nat}{k l:Nat}(hk:k<p.size)(hl:l≤k)(i:Nat):at' (bubble p k (k - l)) i=if i=l then at' p k else if l<i/\i≤k then at' p (i - 1) else at' p i:=by
 have e:k - (k - l)=l:=by omega
 have q:=getElem?_bubble hk (k - l) (by omega) i
 rw[e] at q
 simp only[at_of,q]
 split
 ·rfl
 ·split <;> rfl
theorem kS {p:Array Nat}{i j:Nat}(hj:j≤p.size)(k:Nat):at' (kas_rev p i j) k=if i≤k/\k<j then at' p (i+j - 1 - k) else at' p k:=by
 have q:=getElem?_mirror_all (i:=i) hj k
 simp only[at_of]
 unfold kas_rev
 rw[q]
 split <;> rfl
theorem EZ (p:Array Nat)(i j:Nat):(kas_rev p i j).size=p.size:=mirror_size _ _ _ _
theorem oT (p:Array Nat)(i j:Nat):(kas_rev p i j).Perm p:=mirror_perm _ _ _ _
section
variable {lt:Nat->Nat->Bool}(O:Ord lt)
include O
theorem LG : ∀ (f:Nat) (p:Array Nat) (k:Nat),gE lt p k->k+f≤p.size->(evT lt (kas_bin f p k)).Perm p/\gE lt (evT lt (kas_bin f p k)) (k+f)
 | 0,p,k,h,_=>⟨BG _,h⟩
 | f+1,p,k,h,hz=>by
  have e:evT lt (kas_bin (f+1) p k)=evT lt (kas_bin f (bubble p k (k - evT lt (kas_place p k k 0 k))) (k+1)):=by
   show evT lt ((kas_place p k k 0 k).bind fun l=>kas_bin f (bubble p k (k - l)) (k+1))=_
   rw[sC]
  obtain⟨h1,h2,h3⟩:=FR O h k 0 k (fH _) (bX _) (by omega) (fun i hi=>absurd hi (by omega)) (fun i a b=>absurd b (by omega))
  rw[e]
  generalize evT lt (kas_place p k k 0 k)=l at h1 h2 h3
  have hk:k<p.size:=by omega
  have A':gE lt (bubble p k (k - l)) (k+1):=fun i j hij hj=>by
   rw[TC hk h1,TC hk h1]
   by_cases ci:i=l
   ·rw[if_pos ci]
    by_cases cj:j=l
    ·rw[if_pos cj]; exact O.refl _
    ·rw[if_neg cj,if_pos ⟨by omega,by omega⟩]
     exact h3 (j - 1) (by omega) (by omega)
   ·rw[if_neg ci]
    by_cases cj:j=l
    ·rw[if_pos cj,if_neg (by omega)]
     exact h2 i (by omega)
    ·rw[if_neg cj]
     by_cases di:l<i/\i≤k
     ·rw[if_pos di,if_pos ⟨by omega,by omega⟩]
      exact h (i - 1) (j - 1) (by omega) (by omega)
     ·rw[if_neg di]
      by_cases dj:l<j/\j≤k
      ·rw[if_pos dj]
       exact h i (j - 1) (by omega) (by omega)
      ·rw[if_neg dj]
       exact h i j hij (by omega)
  obtain⟨a1,a2⟩:=LG f (bubble p k (k - l)) (k+1) A' (by rw[bubble_size]; omega)
  exact⟨a1.trans (bubble_perm _ _ _),by rw[show k+(f+1)=k+1+f by omega]; exact a2⟩
structure Fall (lt:Nat->Nat->Bool)(p:Array Nat)(n q:Nat):Prop where
 pos:q+1≤n
 dsc:pJ lt p n
 eq : ∀ i j,n - (q+1)≤i->i<n->n - (q+1)≤j->j<n->lt (at' p i) (at' p j)=false
theorem Fall.rev {p:Array Nat}{n q:Nat}(F:Fall lt p n q)(hz:n≤p.size):Fall lt (kas_rev p (n - (q+1)) n) n q:=by
 have hp:=F.pos
 refine⟨hp,fun i j hij hj=>?_,fun i j a b c d=>?_⟩
 ·rw[kS hz,kS hz]
  by_cases ci:n - (q+1)≤i/\i<n
  ·rw[if_pos ci,if_pos ⟨by omega,hj⟩]
   exact F.eq _ _ (by omega) (by omega) (by omega) (by omega)
  ·rw[if_neg ci]
   by_cases cj:n - (q+1)≤j/\j<n
   ·rw[if_pos cj]
    exact F.dsc _ _ (by omega) (by omega)
   ·rw[if_neg cj]
    exact F.dsc i j hij hj
 ·rw[kS hz,kS hz,if_pos ⟨a,b⟩,if_pos ⟨c,d⟩]
  exact F.eq _ _ (by omega) (by omega) (by omega) (by omega)
theorem zF : ∀ (f:Nat) (p:Array Nat) (n q:Nat),Fall lt p n q->n+f≤p.size->(evT lt (kas_desc f p n q)).1.Perm p/\n≤(evT lt (kas_desc f p n q)).2.1/\(evT lt (kas_desc f p n q)).2.1≤n+f/\Fall lt (evT lt (kas_desc f p n q)).1 (evT lt (kas_desc f p n q)).2.1 (evT lt (kas_desc f p n q)).2.2
 | 0,p,n,q,F,_=>⟨BG _,bX _,bX _,F⟩
 | f+1,p,n,q,F,hz=>by
  have hp:=F.pos
  have e:evT lt (kas_desc (f+1) p n q)=evT lt (if lt (at' p n) (at' p (n - 1))=true then(if q > 0 then kas_desc f (kas_rev p (n - (q+1)) n) (n+1) 0 else kas_desc f p (n+1) 0) else KasT.ask (p.getD (n - 1) 0) (p.getD n 0) fun d=>if d=true then .ret (p,n,q) else kas_desc f p (n+1) (q+1)):=rfl
  rw[e]
  by_cases c:lt (at' p n) (at' p (n - 1))=true
  ·rw[if_pos c]
   by_cases hq:q > 0
   ·rw[if_pos hq]
    have F':=F.rev O (by omega)
    have hn:at' (kas_rev p (n - (q+1)) n) n=at' p n:=by rw[kS (by omega),if_neg (by omega)]
    have F2:Fall lt (kas_rev p (n - (q+1)) n) (n+1) 0:=by
     refine⟨by omega,vD O (by omega) F'.dsc ?_,fun i j a b c' d=>?_⟩
     ·rw[hn,kS (by omega),if_pos ⟨by omega,by omega⟩]
      exact O.tr _ _ _ (O.asym _ _ c) (F.eq _ _ (by omega) (by omega) (by omega) (by omega))
     ·obtain rfl:i=n:=by omega
      obtain rfl:j=i:=by omega
      exact O.refl _
    obtain⟨a1,a2,a3,a4⟩:=zF f _ (n+1) 0 F2 (by rw[EZ]; omega)
    exact⟨a1.trans (oT _ _ _),by omega,by omega,a4⟩
   ·rw[if_neg hq]
    have F2:Fall lt p (n+1) 0:=by
     refine⟨by omega,vD O (by omega) F.dsc (O.asym _ _ c),fun i j a b c' d=>?_⟩
     obtain rfl:i=n:=by omega
     obtain rfl:j=i:=by omega
     exact O.refl _
    obtain⟨a1,a2,a3,a4⟩:=zF f _ (n+1) 0 F2 (by omega)
    exact⟨a1,by omega,by omega,a4⟩
  ·rw[if_neg c]
   have c':lt (at' p n) (at' p (n - 1))=false:=by simpa using c
   have e2:evT lt (KasT.ask (p.getD (n - 1) 0) (p.getD n 0) fun d=>if d=true then .ret (p,n,q) else kas_desc f p (n+1) (q+1))=evT lt (if lt (at' p (n - 1)) (at' p n)=true then .ret (p,n,q) else kas_desc f p (n+1) (q+1)):=rfl
   rw[e2]
   by_cases d:lt (at' p (n - 1)) (at' p n)=true
   ·rw[if_pos d]
    exact⟨BG _,bX _,by show n≤n+(f+1); omega,F⟩
   ·rw[if_neg d]
    have d':lt (at' p (n - 1)) (at' p n)=false:=by simpa using d
    have F2:Fall lt p (n+1) (q+1):=by
     refine⟨by omega,vD O (by omega) F.dsc d',fun i j a b a' b'=>?_⟩
     by_cases ci:i=n
     ·by_cases cj:j=n
      ·rw[ci,cj]; exact O.refl _
      ·rw[ci]
       exact O.tr _ _ _ (F.eq (n - 1) j (by omega) (by omega) (by omega) (by omega)) c'
     ·by_cases cj:j=n
      ·rw[cj]
       exact O.tr _ _ _ d' (F.eq i (n - 1) (by omega) (by omega) (by omega) (by omega))
      ·exact F.eq i j (by omega) (by omega) (by omega) (by omega)
    obtain⟨a1,a2,a3,a4⟩:=zF f _ (n+1) (q+1) F2 (by omega)
    exact⟨a1,by omega,by omega,a4⟩
end
section
variable {lt:Nat->Nat->Bool}(O:Ord lt)
include O
theorem Ll {p:Array Nat}{n:Nat}(h:pJ lt p n)(hz:n≤p.size):gE lt (kas_rev p 0 n) n:=fun i j hij hj=>by
 rw[kS hz,kS hz,if_pos ⟨fH _,hj⟩,if_pos ⟨fH _,by omega⟩]
 exact h _ _ (by omega) (by omega)
theorem NR {p:Array Nat}{n m:Nat}(h1:1≤n)(hn:n≤m)(hz:m≤p.size)(h:pJ lt p n):(evT lt (kas_tail3 n m p)).2.Perm p/\(evT lt (kas_tail3 n m p)).1≤m/\1≤(evT lt (kas_tail3 n m p)).1/\gE lt (evT lt (kas_tail3 n m p)).2 (evT lt (kas_tail3 n m p)).1:=by
 unfold kas_tail3
 rw[sC]
 obtain⟨a1,a2,a3,_⟩:=EI O (m - n) n h1 (Ll O h (by omega))
 exact⟨oT _ _ _,by show evT lt (kas_asc (kas_rev p 0 n) (m - n) n)≤m; omega,by show 1≤evT lt (kas_asc (kas_rev p 0 n) (m - n) n); omega,a3⟩
theorem NO {p:Array Nat}{n m:Nat}(h1:1≤n)(hn:n+1≤m)(hz:m≤p.size)(h:pJ lt p (n+1)):(evT lt (kas_descPart n m p)).2.Perm p/\(evT lt (kas_descPart n m p)).1≤m/\1≤(evT lt (kas_descPart n m p)).1/\gE lt (evT lt (kas_descPart n m p)).2 (evT lt (kas_descPart n m p)).1:=by
 have F0:Fall lt p (n+1) 0:=⟨by omega,h,fun i j a b c d=>by
  obtain rfl:i=n:=by omega
  obtain rfl:j=i:=by omega
  exact O.refl _⟩
 obtain⟨a1,a2,a3,a4⟩:=zF O (m - (n+1)) p (n+1) 0 F0 (by omega)
 unfold kas_descPart
 rw[sC]
 generalize evT lt (kas_desc (m - (n+1)) p (n+1) 0)=r at a1 a2 a3 a4
 have hs:=a1.size_eq
 split
 ·have F':=a4.rev O (by omega)
  obtain⟨b1,b2,b3,b4⟩:=NR O (by omega) (by omega) (by rw[EZ]; omega) F'.dsc (m:=m)
  exact⟨b1.trans ((oT _ _ _).trans a1),b2,b3,b4⟩
 ·obtain⟨b1,b2,b3,b4⟩:=NR O (by omega) (by omega) (by omega) a4.dsc (m:=m)
  exact⟨b1.trans a1,b2,b3,b4⟩
theorem PC {p:Array Nat}{m:Nat}(h1:1≤m)(hz:m≤p.size):(evT lt (kas_count m p)).2.Perm p/\(evT lt (kas_count m p)).1≤m/\1≤(evT lt (kas_count m p)).1/\gE lt (evT lt (kas_count m p)).2 (evT lt (kas_count m p)).1:=by
 obtain⟨a1,a2,a3,a4⟩:=EI O (m - 1) 1 (bX _) (Lc O p)
 unfold kas_count
 rw[sC]
 generalize evT lt (kas_asc p (m - 1) 1)=n at a1 a2 a3 a4
 by_cases c:(n == m)=true
 ·rw[if_pos c]
  exact⟨BG _,by show n≤m; omega,a1,a3⟩
 ·rw[if_neg c]
  have hnm:n≠m:=by simpa using c
  have hl:=a4 (by omega)
  by_cases d:n > 1
  ·rw[if_pos d]
   show(evT lt (if lt (at' p 0) (at' p (n - 1))=true then KasT.ret (n,p) else kas_descPart n m (kas_rev p 0 n))).2.Perm p/\(evT lt (if lt (at' p 0) (at' p (n - 1))=true then KasT.ret (n,p) else kas_descPart n m (kas_rev p 0 n))).1≤m/\1≤(evT lt (if lt (at' p 0) (at' p (n - 1))=true then KasT.ret (n,p) else kas_descPart n m (kas_rev p 0 n))).1/\gE lt (evT lt (if lt (at' p 0) (at' p (n - 1))=true then KasT.ret (n,p) else kas_descPart n m (kas_rev p 0 n))).2 (evT lt (if lt (at' p 0) (at' p (n - 1))=true then KasT.ret (n,p) else kas_descPart n m (kas_rev p 0 n))).1
   by_cases e:lt (at' p 0) (at' p (n - 1))=true
   ·rw[if_pos e]
    exact⟨BG _,by show n≤m; omega,a1,a3⟩
   ·rw[if_neg e]
    have e':lt (at' p 0) (at' p (n - 1))=false:=by simpa using e
    have same : ∀ i j,i<n->j<n->lt (at' p i) (at' p j)=false:=fun i j hi hj=>
     O.tr _ (at' p 0) _ (O.tr _ _ _ (a3 j (n - 1) (by omega) (by omega)) e') (a3 0 i (fH _) hi)
    have D:pJ lt (kas_rev p 0 n) (n+1):=by
     refine vD O a1 (fun i j hij hj=>?_) ?_
     ·rw[kS (by omega),kS (by omega),if_pos ⟨fH _,by omega⟩,if_pos ⟨fH _,hj⟩]
      exact same _ _ (by omega) (by omega)
     ·rw[kS (by omega),kS (by omega),if_pos ⟨fH _,by omega⟩,if_neg (by omega)]
      exact O.tr _ _ _ (O.asym _ _ hl) (same _ _ (by omega) (by omega))
    obtain⟨b1,b2,b3,b4⟩:=NO O a1 (by omega) (by rw[EZ]; exact hz) D (m:=m)
    exact⟨b1.trans (oT _ _ _),b2,b3,b4⟩
  ·rw[if_neg d]
   obtain rfl:n=1:=by omega
   exact NO O (bX _) (by omega) hz (vD O (bX _) (fun i j hij hj=>by
    obtain rfl:j=0:=by omega
    obtain rfl:i=0:=by omega
    exact O.refl _) (O.asym _ _ hl))
theorem NX {n:Nat}(h1:1≤n):(evT lt (kas_sort n)).Perm (jN (dF n))/\gE lt (evT lt (kas_sort n)) n:=by
 have hs:(jN (dF n)).size=n:=by simp
 obtain⟨a1,a2,a3,a4⟩:=PC O h1 (by rw[hs]; exact bX _)
 unfold kas_sort
 rw[sC]
 generalize evT lt (kas_count n (jN (dF n)))=r at a1 a2 a3 a4
 have hz:=a1.size_eq.trans hs
 split
 ·have em:max r.1 1=r.1:=by omega
  rw[em]
  obtain⟨b1,b2⟩:=LG O (n - r.1) r.2 r.1 a4 (by omega)
  exact⟨b1.trans a1,by rw[show r.1+(n - r.1)=n by omega] at b2; exact b2⟩
 ·have:r.1=n:=by omega
  exact⟨a1,by rw[this] at a4; exact a4⟩
end
def gA {α:Type}(lt:Nat->Nat->Bool)(N:Nat):KasT α->Prop
 | .ret _=>True
 | .ask i j k=>(i<N/\j<N)/\gA lt N (k (lt i j))
theorem sA {α β:Type}{lt:Nat->Nat->Bool}{N:Nat}{f:α->KasT β} : ∀ {t:KasT α},gA lt N t->gA lt N (f (evT lt t))->gA lt N (t.bind f)
 | .ret _,_,h=>h
 | .ask i j k,h,h2=>⟨h.1,sA h.2 h2⟩
theorem SE {α:Type}{lt:Nat->Nat->Bool}{N:Nat}{cmp:Nat->Nat->(Bool->aG->Prop)->aG->Prop}{s:aG}(hc : ∀ i j (C:Bool->aG->Prop),i<N->j<N->C (lt i j) s->cmp i j C s){Q:α->aG->Prop} : ∀ {t:KasT α},gA lt N t->Q (evT lt t) s->t.kasWp cmp Q s
 | .ret _,_,h=>h
 | .ask i j k,h,q=>hc i j _ h.1.1 h.1.2 (SE hc h.2 q)
abbrev El (N:Nat)(p:Array Nat):Prop:=∀ x∈p,x<N
theorem El.at {N:Nat}{p:Array Nat}(h:El N p)(h0:0<N)(i:Nat):at' p i<N:=by
 rw[at_of]
 cases e:p[i]? with
 | none=>exact h0
 | some v=>exact h v (Array.mem_of_getElem? e)
theorem El.perm {N:Nat}{p q:Array Nat}(h:El N p)(x:q.Perm p):El N q:=fun v m=>h v (x.mem_iff.mp m)
section
variable {lt:Nat->Nat->Bool}{N:Nat}(h0:0<N)
include h0
theorem CC {p:Array Nat}(h:El N p) : ∀ f n,gA lt N (kas_asc p f n)
 | 0,_=>trivial
 | f+1,n=>by
  refine⟨⟨h.at h0 _,h.at h0 _⟩,?_⟩
  show gA lt N (if lt (at' p n) (at' p (n - 1))=true then KasT.ret n else kas_asc p f (n+1))
  by_cases c:lt (at' p n) (at' p (n - 1))=true
  ·rw[if_pos c]; trivial
  ·rw[if_neg c]; exact CC h f (n+1)
theorem EW {p:Array Nat}{k:Nat}(h:El N p) : ∀ f l r,gA lt N (kas_place p k f l r)
 | 0,_,_=>trivial
 | f+1,l,r=>by
  unfold kas_place
  by_cases c:l ≥ r
  ·rw[if_pos c]; trivial
  ·rw[if_neg c]
   refine⟨⟨h.at h0 _,h.at h0 _⟩,?_⟩
   show gA lt N (if lt (at' p k) (at' p ((l+r) / 2))=true then kas_place p k f l ((l+r) / 2) else kas_place p k f ((l+r) / 2+1) r)
   by_cases d:lt (at' p k) (at' p ((l+r) / 2))=true
   ·rw[if_pos d]; exact EW h f _ _
   ·rw[if_neg d]; exact EW h f _ _
theorem SY : ∀ (f:Nat) (p:Array Nat) (k:Nat),El N p->gA lt N (kas_bin f p k)
 | 0,_,_,_=>trivial
 | f+1,p,k,h=>sA (EW h0 h k 0 k) (SY f _ _ (h.perm (bubble_perm _ _ _)))
theorem yM : ∀ (f:Nat) (p:Array Nat) (n q:Nat),El N p->gA lt N (kas_desc f p n q)/\El N (evT lt (kas_desc f p n q)).1
 | 0,_,_,_,h=>⟨trivial,h⟩
 | f+1,p,n,q,h=>by
  have e:evT lt (kas_desc (f+1) p n q)=evT lt (if lt (at' p n) (at' p (n - 1))=true then(if q > 0 then kas_desc f (kas_rev p (n - (q+1)) n) (n+1) 0 else kas_desc f p (n+1) 0) else KasT.ask (p.getD (n - 1) 0) (p.getD n 0) fun d=>if d=true then .ret (p,n,q) else kas_desc f p (n+1) (q+1)):=rfl
  have g:gA lt N (kas_desc (f+1) p n q)↔(at' p n<N/\at' p (n - 1)<N)/\gA lt N (if lt (at' p n) (at' p (n - 1))=true then(if q > 0 then kas_desc f (kas_rev p (n - (q+1)) n) (n+1) 0 else kas_desc f p (n+1) 0) else KasT.ask (p.getD (n - 1) 0) (p.getD n 0) fun d=>if d=true then .ret (p,n,q) else kas_desc f p (n+1) (q+1)):=Iff.rfl
  rw[g,e]
  by_cases c:lt (at' p n) (at' p (n - 1))=true
  ·rw[if_pos c]
   by_cases hq:q > 0
   ·rw[if_pos hq]
    obtain⟨a,b⟩:=yM f _ (n+1) 0 (h.perm (oT p (n - (q+1)) n))
    exact⟨⟨⟨h.at h0 _,h.at h0 _⟩,a⟩,b⟩
   ·rw[if_neg hq]
    obtain⟨a,b⟩:=yM f _ (n+1) 0 h
    exact⟨⟨⟨h.at h0 _,h.at h0 _⟩,a⟩,b⟩
  ·rw[if_neg c]
   have e2:evT lt (KasT.ask (p.getD (n - 1) 0) (p.getD n 0) fun d=>if d=true then .ret (p,n,q) else kas_desc f p (n+1) (q+1))=evT lt (if lt (at' p (n - 1)) (at' p n)=true then .ret (p,n,q) else kas_desc f p (n+1) (q+1)):=rfl
   have g2:gA lt N (KasT.ask (p.getD (n - 1) 0) (p.getD n 0) fun d=>if d=true then .ret (p,n,q) else kas_desc f p (n+1) (q+1))↔(at' p (n - 1)<N/\at' p n<N)/\gA lt N (if lt (at' p (n - 1)) (at' p n)=true then .ret (p,n,q) else kas_desc f p (n+1) (q+1)):=Iff.rfl
   rw[g2,e2]
   by_cases d:lt (at' p (n - 1)) (at' p n)=true
   ·rw[if_pos d]
    exact⟨⟨⟨h.at h0 _,h.at h0 _⟩,⟨h.at h0 _,h.at h0 _⟩,trivial⟩,h⟩
   ·rw[if_neg d]
    obtain⟨a,b⟩:=yM f _ (n+1) (q+1) h
    exact⟨⟨⟨h.at h0 _,h.at h0 _⟩,⟨h.at h0 _,h.at h0 _⟩,a⟩,b⟩
theorem KZ {p:Array Nat}(n m:Nat)(h:El N p):gA lt N (kas_tail3 n m p):=sA (CC h0 (h.perm (oT _ _ _)) _ _) trivial
theorem LK {p:Array Nat}(n m:Nat)(h:El N p):gA lt N (kas_descPart n m p):=by
 obtain⟨a,b⟩:=yM h0 (m - (n+1)) p (n+1) 0 h
 refine sA a ?_
 split
 ·exact KZ h0 _ _ (b.perm (oT _ _ _))
 ·exact KZ h0 _ _ b
theorem Oj {p:Array Nat}(m:Nat)(h:El N p):gA lt N (kas_count m p):=by
 refine sA (CC h0 h _ _) ?_
 generalize evT lt (kas_asc p (m - 1) 1)=n
 by_cases c:(n == m)=true
 ·rw[if_pos c]; trivial
 ·rw[if_neg c]
  by_cases d:n > 1
  ·rw[if_pos d]
   refine⟨⟨h.at h0 _,h.at h0 _⟩,?_⟩
   show gA lt N (if lt (at' p 0) (at' p (n - 1))=true then KasT.ret (n,p) else kas_descPart n m (kas_rev p 0 n))
   by_cases e:lt (at' p 0) (at' p (n - 1))=true
   ·rw[if_pos e]; trivial
   ·rw[if_neg e]; exact LK h0 _ _ (h.perm (oT _ _ _))
  ·rw[if_neg d]; exact LK h0 _ _ h
end
theorem Mj {lt:Nat->Nat->Bool}(O:Ord lt){n:Nat}(h1:1≤n):gA lt n (kas_sort n):=by
 have hs:(jN (dF n)).size=n:=by simp
 have h:El n (jN (dF n)):=fun x m=>by simpa using m
 refine sA (Oj (by omega) n h) ?_
 obtain⟨a1,_⟩:=PC O h1 (by rw[hs]; exact bX _)
 generalize evT lt (kas_count n (jN (dF n)))=r at a1
 split
 ·exact SY (by omega) _ _ _ (h.perm a1)
 ·trivial
theorem Jj {lt:Nat->Nat->Bool}(O:Ord lt){n:Nat}(h1:1≤n){cmp:Nat->Nat->(Bool->aG->Prop)->aG->Prop}{s:aG}(hc : ∀ i j (C:Bool->aG->Prop),i<n->j<n->C (lt i j) s->cmp i j C s){G:Array Nat->aG->Prop}
  (h : ∀ p:Array Nat,p.Perm (jN (dF n))->gE lt p n->G p s):(kas_sort n).kasWp cmp G s:=
 SE hc (Mj O h1) (h _ (NX O h1).1 (NX O h1).2)
section
variable {prog:bC}{w:aW}{A:bT}{E:aE->aG->Prop}{s:aG}
abbrev VY (a:aB)(h h':aQ):Prop:=∀ b o,b≠a->h.get? b=some o->h'.get? b=some o
noncomputable abbrev jI (h:aQ)(a:aB)(vs:List aE):aQ:=((h.update a (kY fun _=>#[])).push (kW "tuple" vs.toArray 0)).push (kW "list" #[] 0)
theorem Jl {h:aQ}{a:aB}{vs:List aE}:VY a h (jI h a vs):=fun b o hb e=>
 cN _ (cN _ (((BD h a (kY fun _=>(#[]:Array aE))).2 b hb).trans e))
theorem Jz {a:aB}{vs:List aE}{n:Nat}{κ:SortKind}{lt:Nat->Nat->Bool}{P:PySem.Fin->aG->Prop}(O:Ord lt)(ho:s.heap.get? a=some (kW "list" vs.toArray n))(h2:2≤vs.length)(h64:vs.length<64)
  (hk : ∀ (Q:SortKind->aG->Prop),Q κ { s with heap:=jI s.heap a vs }->aO (aP prog w) A (keyKind' vs.toArray) Q E { s with heap:=jI s.heap a vs })
  (hc : ∀ i j (C:Bool->aG->Prop),i<vs.length->j<vs.length->C (lt i j) { s with heap:=jI s.heap a vs }->aO (aP prog w) A (keyLt' κ (vs.getD i fX) (vs.getD j fX)) C (fun _ _=>False) { s with heap:=jI s.heap a vs })
  (h : ∀ p:Array Nat,p.Perm (jN (dF vs.length))->gE lt p vs.length->P (.done (.ret .none)) { s with heap:=sortedHeap s.heap a vs (jN (p.toList.map fun i=>vs.getD i fX)) }) :
  aO (aP prog w) A (Builtin.«list.sort» ⟨[.ref a],[]⟩) P E s:=by
 have lz:vs.length≤sizeLine:=by rw[tN]; omega
 have ha:a<s.heap.objs.size:=cD ho
 obtain⟨e1,ho1⟩ : ∃ e,(s.heap.update a (kY fun _=>(#[]:Array aE))).get? a=some (kW "list" #[] e):=⟨_,get?_update_seq ho fun _=>#[]⟩
 have hoM:(jI s.heap a vs).get? a=some (kW "list" #[] e1):=cN _ (cN _ ho1)
 rw[list_sort_plain]
 refine aK (listItems_at ho rfl (aK (listUpdate_at ho rfl (aK (seqEpoch_at ho1 rfl (aK (wpAny_newTuple (aK (HZ (iG ?_) (fH _))) (by simpa using lz))))) (by rw[dM]; exact lz) (fH _))))
 show aO (aP prog w) A _ P E { s with heap:=jI s.heap a vs }
 dsimp only
 have big : ¬ vs.toArray.size<2:=by rw[dM]; omega
 rw[if_neg big,if_neg big]
 refine aK (hk _ ?_)
 have eS:SortSt.mk' κ (vs.toArray.zip vs.toArray) #[] 7 none=kas_st κ (pairsOf vs) (jN (dF vs.length)):=by
  have e:=kas_range (pairsOf vs)
  rw[pairsOf_size] at e
  unfold kas_st
  rw[e]
  rfl
 have run:=kas_runs (prog:=prog) (w:=w) (A:=A) (κ:=κ) (it:=pairsOf vs) (E:=E) (s:={ s with heap:=jI s.heap a vs }) (Q:=fun _ st' s'=>s' = { s with heap:=jI s.heap a vs } /\ ∃ p:Array Nat,p.Perm (jN (dF vs.length))/\gE lt p vs.length/\arrOf st'=p.map (kas_item (pairsOf vs))/\failedOf st'=none)
  (G:=fun p s'=>s' = { s with heap:=jI s.heap a vs }/\p.Perm (jN (dF vs.length))/\gE lt p vs.length) h2 h64 (fun p' st' s' a1 a2 a3 ⟨b1,b2,b3⟩=>⟨b1,p',b2,b3,a2,a3⟩)
  (Jj O (by omega) (fun i j C hi hj q=>by
   unfold kas_cmp
   rw[kas_item_eq,kas_item_eq]
   exact hc i j C hi hj q) fun p b1 b2=>⟨rfl,b1,b2⟩)
 rw[← eS] at run
 refine aK (iV run ?_ fun _ _ e=>e)
 rintro⟨⟨⟩,st'⟩ s' ⟨rfl,p,b1,b2,har,hf⟩
 dsimp only
 have hout:(arrOf st').map (·.2)=jN (p.toList.map fun i=>vs.getD i fX):=by
  apply JF.mp
  rw[har,Array.map_map,Array.toList_map]
  exact tZ fun i _=>congrArg Prod.snd (kas_item_eq vs i)
 have hps:p.size=vs.length:=by
  have:=b1.size_eq
  simpa using this
 have hsz:(jN (p.toList.map fun i=>vs.getD i fX)).size≤sizeLine:=by
  rw[dM,cP,mP,hps]; exact lz
 rw[hout]
 refine aK (seqEpoch_at hoM rfl (aK (listUpdate_at hoM rfl ?_ (fH _) (Nat.le_succ_of_le hsz))))
 rw[hf]
 simp only[bne_self_eq_false,mO,if_false]
 exact aZ (h p b1 b2)
end
noncomputable def gC:aA->List Int
 | .int i=>[0,i]
 | .str x=>1::x.cps.toList.map mL
 | _=>[2]
noncomputable def cM (ks:List aA):List (List Int):=ks.map gC
theorem PR (a b:List (List Int))(h:a<b) : ¬ b<a:=List.lt_asymm h
theorem OY (a b c:List (List Int))(h1 : ¬ b<a)(h2 : ¬ c<b) : ¬ c<a:=by
 have h1:=h1
 have h2:=h2
 exact List.le_trans h1 h2
theorem EM {d e:aA}(h1:(∃ i,d = .int i) \/ ∃ x,d = .str x)(h2:(∃ i,e = .int i) \/ ∃ x,e = .str x)(h:gC d=gC e):d=e:=by
 rcases h1 with⟨i,rfl⟩ | ⟨x,rfl⟩ <;> rcases h2 with⟨j,rfl⟩ | ⟨y,rfl⟩
 ·simp[gC] at h; rw[h]
 ·simp[gC] at h
 ·simp[gC] at h
 ·have h':x.cps.toList.map mL=y.cps.toList.map mL:=by simpa [gC] using h
  have:=(List.map_inj_right (fun a b q=>Int.ofNat.inj q)).mp h'
  have:x=y:=by
   cases x; cases y
   simp only at this
   rw[JF.mp this]
  rw[this]
noncomputable def WE (kss:List (List aA))(i j:Nat):Bool:=decide (cM (kss.getD i [])<cM (kss.getD j []))
theorem ZK (kss:List (List aA)):Ord (WE kss):=by
 refine⟨fun a b h=>?_,fun a b c h1 h2=>?_⟩
 ·have:=PR _ _ (of_decide_eq_true h)
  exact decide_eq_false this
 ·exact decide_eq_false (OY _ _ _ (of_decide_eq_false h1) (of_decide_eq_false h2))
mutual
theorem Ahd.rep {K:aH}{H:Hp} : ∀ (d:aA) {v:V},bJ d=true->Ahd H d v->Aa6 K H d v
 | .int i,v,_,h=>Aao.mpr (by simpa [Ahd] using h)
 | .str i,v,k,h=>Aaq.mpr ⟨by simpa [Ahd] using h,by simpa [bJ] using k⟩
 | .tuple ds,v,k,h=>by
  simp only[Ahd] at h
  obtain⟨a,xs,e,s,r⟩:=h
  exact Aaw.mpr ⟨a,xs,e,s,Aeo.reps ds (by simpa [bJ] using k) r⟩
 | .none,v,k,_=>by simp[bJ] at k
 | .bool _,v,k,_=>by simp[bJ] at k
 | .list _,v,k,_=>by simp[bJ] at k
 | .dict _,v,k,_=>by simp[bJ] at k
theorem Aeo.reps {K:aH}{H:Hp} : ∀ (ds:List aA) {vs:List V},bP ds=true->Aeo H ds vs->Aar K H ds vs
 | [],vs,_,h=>Aan.mpr (by simpa [Aeo] using h)
 | d::ds,vs,k,h=>by
  have k':bJ d=true/\bP ds=true:=by simpa [bP] using k
  simp only[Aeo] at h
  obtain⟨x,r,e,h1,h2⟩:=h
  exact Aad.mpr ⟨x,r,e,Ahd.rep d k'.1 h1,Aeo.reps ds k'.2 h2⟩
end
theorem Ajf.rep {K:aH}{H:Hp}{ks:List aA}{a:aB}(h:Ajf H ks a):Aa6 K H (.tuple ks) (.ref a):=by
 obtain⟨k,_,xs,e,r⟩:=h
 exact Aaw.mpr ⟨a,xs,rfl,e,Aeo.reps ks k r⟩
theorem Aa6.tupK {K:aH}{H:Hp}{ks:List aA}{v:V}(r:Aa6 K H (.tuple ks) v)(h1:bP ks=true)(h2:cW ks≤6) : ∃ a,v = .ref a/\Ajf H ks a:=by
 obtain⟨a,xs,e,s,r⟩:=Aaw.mp r
 exact⟨a,e,h1,h2,xs,s,Aar.keys ks h1 r⟩
noncomputable def kL:List aA->Option (List (List aA))
 | []=>some []
 | .tuple ks::r=>if bP ks=true/\cW ks≤6 then(kL r).bind fun kss=>some (ks::kss) else none
 | _::_=>none
theorem OD : ∀ {ds:List aA} {kss:List (List aA)},kL ds=some kss->ds=kss.map gY /\ ∀ ks∈kss,bP ks=true/\cW ks≤6
 | [],kss,h=>by cases h; exact⟨rfl,fun _ m=>by simp at m⟩
 | .tuple ks::r,kss,h=>by
  by_cases c:bP ks=true/\cW ks≤6
  ·have h':((kL r).bind fun kss=>some (ks::kss))=some kss:=by
    have:(if bP ks=true/\cW ks≤6 then(kL r).bind fun kss=>some (ks::kss) else none)=some kss:=h
    rw[if_pos c] at this
    exact this
   obtain⟨k2,e1,e2⟩:=XBs h'
   cases e2
   obtain⟨q1,q2⟩:=OD e1
   refine⟨by rw[q1]; rfl,fun x m=>?_⟩
   rcases cJ.mp m with rfl | m
   ·exact c
   ·exact q2 x m
  ·have:(if bP ks=true/\cW ks≤6 then(kL r).bind fun kss=>some (ks::kss) else none)=some kss:=h
   rw[if_neg c] at this
   cases this
 | .none::_,_,h=>by cases h
 | .bool _::_,_,h=>by cases h
 | .int _::_,_,h=>by cases h
 | .str _::_,_,h=>by cases h
 | .list _::_,_,h=>by cases h
 | .dict _::_,_,h=>by cases h
open PySem PySem.Spec PySem.W PyProof.Rows
noncomputable def gR:List aA->List aA->Bool
 | [],[]=>true
 | .int _::r,.int _::r'=>gR r r'
 | .str _::r,.str _::r'=>gR r r'
 | _,_=>false
theorem MS (i j:Int)(r r':List aA):(cM (.int i::r)<cM (.int j::r'))↔i<j \/ i=j/\cM r<cM r':=by
 show(gC (.int i)::cM r<gC (.int j)::cM r')↔_
 rw[xP]
 simp[gC,xP]
theorem map_lt (xs ys:List Nat):(xs.map mL<ys.map mL)↔xs<ys:=by
 induction xs generalizing ys with
 | nil=>cases ys <;> simp
 | cons x r ih=>
  cases ys with
  | nil=>simp
  | cons y r'=>
   rw[dJ,dJ,xP,xP,ih]
   have h1:(mL x<mL y)↔x<y:=Int.ofNat_lt
   have h2:(mL x=mL y)↔x=y:=⟨fun e=>Int.ofNat.inj e,fun e=>by rw[e]⟩
   rw[h1,h2]
theorem KU (x y:aD)(r r':List aA):(cM (.str x::r)<cM (.str y::r'))↔x.cps.toList<y.cps.toList \/ x=y/\cM r<cM r':=by
 show(gC (.str x)::cM r<gC (.str y)::cM r')↔_
 rw[xP]
 have h1:(gC (.str x)<gC (.str y))↔x.cps.toList<y.cps.toList:=by
  show((1:Int)::x.cps.toList.map mL<(1:Int)::y.cps.toList.map mL)↔_
  rw[xP,map_lt]
  simp
 have h2:(gC (.str x)=gC (.str y))↔x=y:=⟨fun e=>by
  have:=EM (.inr ⟨x,rfl⟩) (.inr ⟨y,rfl⟩) e
  injection this,fun e=>by rw[e]⟩
 rw[h1,h2]
section
variable {prog:bC}{w:aW}{A:bT}{s:aG}{Q:Bool->aG->Prop}
theorem CQ {b:Bool} : ∀ (ks ks':List aA) {vs vs':List aE} {as as':List aB} (i:Nat),gR ks ks'=true->nP s.heap vs ks as->nP s.heap vs' ks' as'->Q (decide (cM ks<cM ks')) s->KatLex prog w A b false Q (vs.zip vs') i s
 | [],[],vs,vs',as,as',i,_,r,r',h=>by
  cases r; cases r'
  exact kat_nil h
 | .int x::ks,.int y::ks',vs,vs',as,as',i,hs,r,r',h=>by
  cases r with
  | cons r1 r2=>
   cases r' with
   | cons r1' r2'=>
    cases r1 with
    | int _ t=>
     cases r1' with
     | int _ u=>
      rw[VD]
      refine kat_cons ((eA prog w).eqBool (GS _ _ x t) (GS _ _ y u) ?_)
      refine kat_go (fun e=>kat_yes ?_) fun e=>kat_no ?_
      ·have e':x=y:=by simpa using e
       subst e'
       refine CQ ks ks' (i+1) (by simpa [gR] using hs) r2 r2' ?_
       have:decide (cM (.int x::ks)<cM (.int x::ks'))=decide (cM ks<cM ks'):=decide_eq_decide.mpr (by rw[MS]; simp)
       rw[← this]; exact h
      ·have e':x≠y:=by simpa using e
       have:decide (cM (.int x::ks)<cM (.int y::ks'))=decide (x<y):=decide_eq_decide.mpr (by rw[MS]; simp[e'])
       rw[this] at h
       cases(b&&i == 0) with
       | true=>exact oneLt_int h
       | false=>exact kat_one _ _ (lt_int h)
 | .str x::ks,.str y::ks',vs,vs',as,as',i,hs,r,r',h=>by
  cases r with
  | cons r1 r2=>
   cases r' with
   | cons r1' r2'=>
    cases r1 with
    | str _ t=>
     cases r1' with
     | str _ u=>
      rw[VD]
      refine kat_cons ((eA prog w).eqBool (GQ _ _ x t) (GQ _ _ y u) ?_)
      refine kat_go (fun e=>kat_yes ?_) fun e=>kat_no ?_
      ·have e':x=y:=by simpa using e
       subst e'
       refine CQ ks ks' (i+1) (by simpa [gR] using hs) r2 r2' ?_
       have:decide (cM (.str x::ks)<cM (.str x::ks'))=decide (cM ks<cM ks'):=decide_eq_decide.mpr (by rw[KU]; simp[List.lt_irrefl])
       rw[← this]; exact h
      ·have e':x≠y:=by simpa using e
       have:decide (cM (.str x::ks)<cM (.str y::ks'))=decide (x.cps.toList<y.cps.toList):=decide_eq_decide.mpr (by rw[KU]; simp[e'])
       rw[this] at h
       cases(b&&i == 0) with
       | true=>exact oneLt_str h
       | false=>exact kat_one _ _ (lt_str h)
end
noncomputable def lV:List aA->Option String
 | .int _::_=>some "int"
 | .str _::_=>some "str"
 | _=>none
theorem Oa {M:Model}{h:aQ}{k:List aA}{b:aB}{T:String}(hd:Aju h k b)(hk:lV k=some T) :
  ∃ o xs n f,h.get? b=some o/\o.cls = .type "tuple" /\ o.data = .seq xs n/\xs[0]?=some f/\Looks M h (typeOf f) (.type T):=by
 obtain⟨_,_,as,r⟩:=hd
 obtain⟨a,o,xs,n,e,ho,hc,hd,hi⟩:=sP r
 cases e
 match k,hk,hi with
 | .int i::r,hk,hi=>
  cases hk
  generalize hx:xs.toList=l at hi
  cases hi with
  | cons h1 _=>
   cases h1 with
   | int _ t=>exact⟨o,xs,n,.int i t,ho,hc,hd,by rw[← Array.getElem?_toList,hx]; rfl,Looks.of_pure rfl⟩
 | .str x::r,hk,hi=>
  cases hk
  generalize hx:xs.toList=l at hi
  cases hi with
  | cons h1 _=>
   cases h1 with
   | str _ t=>exact⟨o,xs,n,.str x t,ho,hc,hd,by rw[← Array.getElem?_toList,hx]; rfl,Looks.of_pure rfl⟩
abbrev Ahc (h:aQ)(vs:List aE)(kss:List (List aA)):Prop:=dI (fun v k=>∃ b,v=cZ b/\Aju h k b) vs kss
theorem PU {M:Model}{h:aQ}{T:String} : ∀ {vs:List aE} {kss:List (List aA)},Ahc h vs kss->(∀ k∈kss,lV k=some T) -> ∃ fs,KatTups h vs fs/\fs.length=vs.length /\ ∀ f∈fs,Looks M h (typeOf f) (.type T)
 | _,_,.nil,_=>⟨[],KatTups.nil,rfl,fun _ m=>by simp at m⟩
 | _,_,.cons ⟨b,e,hd⟩ t,hk=>by
  obtain⟨fs,h1,h2,h3⟩:=PU (M:=M) t fun k m=>hk k (cA _ m)
  obtain⟨o,xs,n,f,q1,q2,q3,q4,q5⟩:=Oa (M:=M) hd (hk _ bY)
  subst e
  refine⟨f::fs,KatTups.cons q1 q2 q3 q4 h1,by rw[eE,eE,h2],fun g m=>?_⟩
  rcases cJ.mp m with rfl | m
  ·exact q5
  ·exact h3 g m
theorem Ahc.get {h:aQ} : ∀ {vs:List aE} {kss:List (List aA)},Ahc h vs kss -> ∀ i,i<vs.length -> ∃ b,vs.getD i fX = .ref b/\Aju h (kss.getD i []) b/\kss.getD i []∈kss
 | _,_,.nil,i,hi=>absurd hi (by simp)
 | _,_,.cons ⟨b,e,hd⟩ t,0,_=>⟨b,e,hd,bY⟩
 | _,_,.cons _ t,i+1,hi=>by
  obtain⟨b,q1,q2,q3⟩:=Ahc.get t i (by simpa using hi)
  exact⟨b,by simpa using q1,by simpa using q2,by simpa using cA _ q3⟩
theorem Ahc.keep {h h':aQ}(k : ∀ b o,h.get? b=some o->h'.get? b=some o) : ∀ {vs:List aE} {kss:List (List aA)},Ahc h vs kss->Ahc h' vs kss
 | _,_,.nil=>.nil
 | _,_,.cons ⟨b,e,hd⟩ t=>.cons ⟨b,e,hd.keep fun b o _ _ q _ _=>k b o q⟩ (Ahc.keep k t)
theorem FL : ∀ {k k':List aA},gR k k'=true->k.length=k'.length
 | [],[],_=>rfl
 | .int _::r,.int _::r',h=>by rw[eE,eE,FL (by simpa [gR] using h)]
 | .str _::r,.str _::r',h=>by rw[eE,eE,FL (by simpa [gR] using h)]
theorem FM {h:aQ} : ∀ {vs:List aE} {ks:List aA} {as:List aB},nP h vs ks as->vs.length=ks.length
 | _,_,_,.nil=>rfl
 | _,_,_,.cons _ t=>by rw[eE,eE,FM t]
section
variable {prog:bC}{w:aW}{A:bT}{E:aE->aG->Prop}{s:aG}
theorem Nx {a:aB}{vs:List aE}{n:Nat}{P:PySem.Fin->aG->Prop}(ho:s.heap.get? a=some (kW "list" vs.toArray n))(h2:vs.length<2)(h:P (.done (.ret .none)) { s with heap:=sortedHeap s.heap a vs vs.toArray }) :
  aO (aP prog w) A (Builtin.«list.sort» ⟨[.ref a],[]⟩) P E s:=by
 have lz:vs.length≤sizeLine:=by rw[tN]; omega
 obtain⟨e1,ho1⟩ : ∃ e,(s.heap.update a (kY fun _=>(#[]:Array aE))).get? a=some (kW "list" #[] e):=⟨_,get?_update_seq ho fun _=>#[]⟩
 have hoM:(jI s.heap a vs).get? a=some (kW "list" #[] e1):=cN _ (cN _ ho1)
 rw[list_sort_plain]
 refine aK (listItems_at ho rfl (aK (listUpdate_at ho rfl (aK (seqEpoch_at ho1 rfl (aK (wpAny_newTuple (aK (HZ (iG ?_) (fH _))) (by simpa using lz))))) (by rw[dM]; exact lz) (fH _))))
 show aO (aP prog w) A _ P E { s with heap:=jI s.heap a vs }
 dsimp only
 have few:vs.toArray.size<2:=by rw[dM]; exact h2
 rw[if_pos few,if_pos few]
 refine aK (aZ ?_)
 rw[StateT.run_pure]
 refine aK (aZ ?_)
 dsimp only
 have hout:(arrOf (SortSt.mk' general' (vs.toArray.zip vs.toArray) #[] 7 none)).map (·.2)=vs.toArray:=by
  show(vs.toArray.zip vs.toArray).map (·.2)=vs.toArray
  apply JF.mp
  have : ∀ l:List aE,List.map (fun x=>x.snd) (l.zip l)=l:=fun l=>by
   induction l with
   | nil=>rfl
   | cons a l ih=>rw[VD,dJ,ih]
  simpa using this vs
 rw[hout]
 refine aK (seqEpoch_at hoM rfl (aK (listUpdate_at hoM rfl ?_ (fH _) (Nat.le_succ_of_le (by rw[dM]; exact lz)))))
 simp only[bne_self_eq_false,mO,if_false]
 exact aZ h
end
theorem EK : ∀ {a b:List aA},gR a b=true->cM a=cM b->a=b
 | [],[],_,_=>rfl
 | .int i::r,.int j::r',h,e=>by
  have h':gR r r'=true:=by simpa [gR] using h
  have e':gC (.int i)=gC (.int j)/\cM r=cM r':=by simpa [cM] using e
  rw[EM (.inl ⟨i,rfl⟩) (.inl ⟨j,rfl⟩) e'.1,EK h' e'.2]
 | .str x::r,.str y::r',h,e=>by
  have h':gR r r'=true:=by simpa [gR] using h
  have e':gC (.str x)=gC (.str y)/\cM r=cM r':=by simpa [cM] using e
  rw[EM (.inr ⟨x,rfl⟩) (.inr ⟨y,rfl⟩) e'.1,EK h' e'.2]
noncomputable def leT (a b:List aA):Bool:=!decide (cM b<cM a)
theorem Ai2 {a b:List aA}:leT a b=true ↔ ¬ cM b<cM a:=by simp[leT]
theorem Ak (a b c:List aA)(h1:leT a b=true)(h2:leT b c=true):leT a c=true:=Ai2.mpr (OY _ _ _ (Ai2.mp h1) (Ai2.mp h2))
theorem Ct (a b:List aA):(leT a b||leT b a)=true:=by
 by_cases h:cM b<cM a
 ·have:=PR _ _ h
  simp[leT,h,this]
 ·simp[leT,h]
theorem Nt {a b:List aA}(hs:gR a b=true)(h1:leT a b=true)(h2:leT b a=true):a=b:=by
 have h1:=Ai2.mp h1
 have h2:=Ai2.mp h2
 exact EK hs (List.le_antisymm h1 h2)
noncomputable def jS (kss:List (List aA)):List (List aA):=kss.mergeSort leT
noncomputable def sameAll (kss:List (List aA)):Bool:=kss.all fun k=>kss.all fun k'=>gR k k'
noncomputable def okT (kss:List (List aA)):Bool:=decide (kss.length<2)||(sameAll kss&&kss.all fun k=>(lV k).isSome)
theorem GH (kss:List (List aA)):(jS kss).Perm kss:=List.mergeSort_perm kss leT
theorem Fp (kss:List (List aA)):(jS kss).Pairwise fun a b=>leT a b=true:=List.pairwise_mergeSort Ak Ct kss
theorem PB {kss qs:List (List aA)}(hs:okT kss=true)(hp:qs.Perm kss)(hr:qs.Pairwise fun a b=>leT a b=true):qs=jS kss:=by
 have hp':=hp.trans (GH kss).symm
 by_cases h2:kss.length<2
 ·have l1:qs.length<2:=by rw[hp.length_eq]; exact h2
  match qs,l1,hp' with
  | [],_,hp'=>exact(List.nil_perm.mp hp').symm
  | [q],_,hp'=>exact List.singleton_perm.mp hp'
 ·have hs':sameAll kss=true:=by
   have:(sameAll kss&&kss.all fun k=>(lV k).isSome)=true:=by simpa [okT,h2] using hs
   exact(lN.mp this).1
  refine Pi (fun a b ma mb h1 h2=>Nt ?_ h1 h2) hr (Fp kss) hp'
  have ma':=hp.mem_iff.mp ma
  have mb':=(GH kss).mem_iff.mp mb
  exact iA.mp (iA.mp hs' a ma') b mb'
theorem same_kind : ∀ {k k':List aA},gR k k'=true->lV k=lV k'
 | [],[],_=>rfl
 | .int _::_,.int _::_,_=>rfl
 | .str _::_,.str _::_,_=>rfl
theorem Lm {k:List aA}{T:String}(h:lV k=some T):T = "int" \/ T = "str":=by
 unfold lV at h
 split at h
 ·cases h; exact .inl rfl
 ·cases h; exact .inr rfl
 ·cases h
section
variable {X:Cx}
abbrev SC (H:Hp)(ys:List V)(kss:List (List aA)):Prop:=dI (fun y k=>∃ b,y=V.ref b/\Ajf H k b) ys kss
theorem LQ {P:bC}{w:aW}{H:Hp}{h:aQ}(ok:HOk P w H h) : ∀ {ys:List V} {kss:List (List aA)} {vs:List aE},SC H ys kss->Vals ys vs->Ahc h vs kss
 | _,_,_,.nil,.nil=>.nil
 | _,_,_,.cons ⟨b,e,tk⟩ t,.cons r rr=>by
  subst e
  cases r
  exact .cons ⟨b,rfl,pX ok tk⟩ (LQ ok t rr)
noncomputable def Jg:List aA->Option aA
 | [.list ds]=>(kL ds).bind fun kss=>if okT kss=true/\kss.length<64 then some (.list ((jS kss).map gY)) else none
 | _=>none
theorem KJ : ∀ {ns:List Int} {vs:List aE},Vals (ns.map V.int) vs->IntsAre vs ns
 | [],_,.nil=>.nil
 | n::ns,_,.cons ⟨t,e⟩ r=>by
  subst e
  exact .cons n t (KJ r)
noncomputable def qR:List aA->Option (List Int)
 | []=>some []
 | .int i::r=>(qR r).bind fun is=>some (i::is)
 | _::_=>none
theorem MG : ∀ {ds:List aA} {is:List Int},qR ds=some is->ds=is.map bA
 | [],is,e=>by cases e; rfl
 | .int i::ds,is,e=>by
  obtain⟨is',e1,e2⟩:=XBs (show((qR ds).bind fun is=>some (i::is))=some is from e)
  cases e2
  rw[MG e1]
  rfl
 | .none::_,_,e=>by cases e
 | .bool _::_,_,e=>by cases e
 | .str _::_,_,e=>by cases e
 | .list _::_,_,e=>by cases e
 | .tuple _::_,_,e=>by cases e
 | .dict _::_,_,e=>by cases e
theorem RO {K:aH}{H:Hp} : ∀ {is:List Int} {ys:List V},Aar K H (is.map bA) ys->ys=is.map V.int
 | [],ys,r=>Aan.mp r
 | i::is,ys,r=>by
  obtain⟨v,t,rfl,r1,r2⟩:=Aad.mp r
  rw[Aao.mp r1,RO r2]
  rfl
end
noncomputable def sNo:SF:=fun _=>none
theorem KH {X:Cx}{H0:Hp}{P0:aB->Prop}{n0:Nat}{s:bG}:DS X H0 P0 n0 s sNo:=fun pins st σ H D I q=>by
 obtain⟨B0,ρ,fp,o,S,ef,k⟩:=q
 cases ef
noncomputable def CXR (base:aQ)(P:bC)(w:aW):CXT:=fun outer H s E e s'=>∃ (ea:aB) (cls a0:aE) (H':Hp) (B:aQ),e = .ref ea/\s'.os=s.os/\nY s'.gens/\Un (frs outer) [] H H' s.heap s'.heap/\HOk P w H' s'.heap /\
 base.StaysIn B/\(∀ b u,s.heap.get? b=some u->b∉frs outer -> ∃ u',B.get? b=some u')/\(∀ b o,H' b=some o -> ∃ u,B.get? b=some u)/\Heap.FlyingW B outer ea cls a0 s'.heap/\E cls none H'
noncomputable def EC (K:aH)(c:aD)(H:Hp):XK:=fun cls _ H'=>cX K c=some cls/\Ext H H'
theorem CXR.imp {base:aQ}{P:bC}{w:aW}{outer:List dN}{H:Hp}{s s':aG}{E E':XK}{e:aE}(h:CXR base P w outer H s E e s')(k : ∀ cls H',E cls none H'->E' cls none H'):CXR base P w outer H s E' e s':=by
 obtain⟨ea,cls,a0,H',B,h1,h2,h3,h4,h5,h6,h7,h8,h9,q⟩:=h
 exact⟨ea,cls,a0,H',B,h1,h2,h3,h4,h5,h6,h7,h8,h9,k _ _ q⟩
structure XOk (X:Cx)(H:Hp)(c:aD):Prop where
 pass:Passes (CXR X.base X.prog X.w) X (EC X.K c H)
 made : ∀ {cls:aE} {pins:List (aB×aY)} {σ:St} {H1:Hp} {s1:aG} {h':aQ} {e:aB} {args:List aE},cX X.K c=some cls->Inv X pins σ H1 s1->Ext H H1->Heap.MadeExcOf s1.heap h' e cls args->X.xe (.ref e) { s1 with heap:=h' }
theorem Acs.here {P:bC}{w:aW}{H:Hp}{h:aQ}{a:aB}{o:HO}(x:Acs P w H h a o) : ∃ u,h.get? a=some u:=by
 cases o with
 | lst xs=>obtain⟨_,_,_,_,e⟩:=x; exact⟨_,e⟩
 | tup xs=>obtain⟨_,_,_,_,ob,e,_⟩:=x; exact⟨ob,e⟩
 | dK ep kvs=>obtain⟨_,_,_,_,o,_,e,_⟩:=x; exact⟨_,e⟩
 | dT ep kvs=>obtain⟨_,_,_,_,o,_,e,_⟩:=x; exact⟨_,e⟩
 | set S n=>obtain⟨o,_,_,_,e,_⟩:=x; exact⟨_,e⟩
 | ins C dx fs=>obtain⟨_,_,_,e,_⟩:=x; exact⟨_,e⟩
 | own y=>exact x
 | xd fs=>obtain⟨_,⟨_,_,_,e,_⟩,_⟩:=x; exact⟨_,e⟩
 | rng lo hi=>obtain⟨_,_,_,e⟩:=x; exact⟨_,e⟩
 | frz ob u=>obtain⟨e,_⟩:=x; exact⟨_,e⟩
 | tbl ps=>exact⟨_,show h.get? a=some _ from x⟩
 | met f y=>exact⟨_,show h.get? a=some _ from x⟩
 | ext φ=>obtain⟨_,e,_⟩:=x; exact e
theorem yV {B h:aQ}{b:aB}{u u':aY}(k:B.StaysIn h)(e:B.get? b=some u')(q:h.get? b=some u):u'=u:=eO ((k b u' e).symm.trans q)
section
variable {P:bC}{w:aW}{K:aH}{mg:aD->Option aE}{base:aQ}{N:List aD}{qual:aD}{scope:gM}{f:aB}{cd:aE}{A:bT}{outer:List dN}{s:aG}{H:Hp}{E:XK}
theorem TU {pins:List (aB×aY)}{σ:St}{H':Hp}{s':aG}{h'' B:aQ}{ea:aB}{cls a0:aE}
  (I:Inv (iJ (CXR base P w) P w K mg base N qual scope f cd A outer s H E) pins σ H' s') (hin : ∀ b u,s.heap.get? b=some u->b∉frs outer -> ∃ u',B.get? b=some u') (hT : ∀ b o,H' b=some o -> ∃ u,B.get? b=some u)
  (f1:B.StaysIn s'.heap) (f2:Heap.FlyingW B outer ea cls a0 h'') (up:s'.heap.UpToSlots h'') (hb:base.StaysIn B) (q:E cls none H'):CXR base P w outer H s E (.ref ea) { s' with heap:=h'' }:=by
 have f3:=f2.1
 have U:Un (frs outer) [] H H' s.heap s'.heap:=I.base
 have fr : ∀ b∈frs outer,∃ o,s'.heap.get? b=some o /\ ∀ vs,o.data ≠ .fields vs:=fun b m=>(I.funs.mem m).2
 refine⟨ea,cls,a0,H',B,rfl,I.os,I.bare,⟨fun b o e n hb he=>?_,fun b o e n hb he=>?_,U.free,fun b o e he=>?_,U.tups,U.frzs,U.tbls⟩,fun a o e=>?_,hb,hin,hT,f2,q⟩
 ·have z:=U.keep b o e n hb he
  obtain⟨u',z2⟩:=hin b o e hb
  exact f3 b o (yV f1 z2 z ▸ z2)
 ·obtain⟨sl,z⟩:=U.slot b o e n hb he
  obtain⟨o2,z2,nf⟩:=fr b hb
  obtain⟨sl2,z3⟩:=up b o2 z2 nf
  have:o2 = { o with slots:=sl }:=eO (z2.symm.trans z)
  exact⟨sl2,by rw[z3,this]⟩
 ·by_cases hb:b∈frs outer
  ·obtain⟨o2,z2,nf⟩:=fr b hb
   obtain⟨sl2,z3⟩:=up b o2 z2 nf
   exact⟨_,z3⟩
  ·obtain⟨u',z2⟩:=hin b o e hb
   exact⟨u',f3 b u' z2⟩
 ·refine(I.hok a o e).stay (fun b u hb q=>?_) (fun _ q=>q) fun _ _ q=>q
  have ht : ∃ o2,H' b=some o2:=by
   rcases hb with rfl | hb
   ·exact⟨o,e⟩
   ·exact⟨_,hb⟩
  obtain⟨o2,ht⟩:=ht
  obtain⟨u',z2⟩:=hT b o2 ht
  exact f3 b u (yV f1 z2 q ▸ z2)
theorem RE {X:Cx}{pins:List (aB×aY)}{σ:St}{H1:Hp}{s1:aG}(I:Inv X pins σ H1 s1){b:aB}{u:aY}(e:X.s₀.heap.get? b=some u)(n:b∉X.fs):b∉frs X.stack:=fun m=>by
 rcases cJ.mp (I.stkSub b m) with z | z
 ·exact absurd (fL (cD e) I.ok.above) (by rw[z]; exact kZ _)
 ·exact n z
theorem Ot:Passes (CXR base P w) (iJ (CXR base P w) P w K mg base N qual scope f cd A outer s H E) E:=fun pins σ H1 s1 e s' I h=>by
 obtain⟨ea,cls,a0,H',B,rfl,os,bare,un,hok,hb,hB,hT,fl,q⟩:=h
 have I':=I.call' (ch:=[]) os un hok bare (fun _ z=>nomatch z)
 refine wpAny_leaves_onW (base:=B) (env:=gX qual scope s.heap.objs.size f cd) (outer:=outer) (L:=s.heap.objs.size) I.ok.frames rfl fl fun h'' fl'' up=>?_
 refine TU I' (fun b u e n=>?_) hT fl.1 fl'' up hb q
 obtain⟨o',z⟩:=I.base.there b u e (by show b∉[]; simp)
 exact hB b o' z (RE I e n)
theorem Nk {cls:aE}{pins:List (aB×aY)}{σ:St}{H1:Hp}{s1:aG}{h':aQ}{e:aB}{args:List aE}(I:Inv (iJ (CXR base P w) P w K mg base N qual scope f cd A outer s H E) pins σ H1 s1)(m:Heap.MadeExcOf s1.heap h' e cls args)(q:E cls none H1) :
  (iJ (CXR base P w) P w K mg base N qual scope f cd A outer s H E).xe (.ref e) { s1 with heap:=h' }:=by
 have I':=I.kept (t':=s1.toks) m.keeps
 have hin : ∀ env∈(gX qual scope s.heap.objs.size f cd::outer),∀ b,env.frame=some b->b∈frs (gX qual scope s.heap.objs.size f cd::outer):=fun env he b hb=>VJ.mpr ⟨env,he,hb⟩
 have hl:s1.heap.FunFrames base (gX qual scope s.heap.objs.size f cd::outer):=I.stack
 refine wpAny_leaves_madeW (base:=PySem.W.hideAll s1.heap (frs (gX qual scope s.heap.objs.size f cd::outer))) (h:=s1.heap) (env:=gX qual scope s.heap.objs.size f cd) (outer:=outer) (L:=s.heap.objs.size) I.ok.frames rfl (fun b o q=>UL _ q) (PySem.W.funFrames_hide hl hin) m fun h'' t fl tup hnt up=>?_
 refine TU I' (fun b u e n=>?_) (fun b o e=>?_) (fun b o e=>m.keeps b o (UL _ e)) fl up (fun b o e=>?_) q
 ·obtain⟨o',z⟩:=I.base.there b u e (by show b∉[]; simp)
  exact⟨o',IH _ z (RE I e n)⟩
 ·have hn:b∉frs (gX qual scope s.heap.objs.size f cd::outer):=fun z=>by
   have:=I.stkFree b z
   rw[e] at this
   cases this
  obtain⟨u,hg⟩:=(I.hok b o e).here
  exact⟨u,IH _ hg hn⟩
 ·refine IH _ (I.bk b o e) fun z=>?_
  have:=(hl.mem z).1
  rw[e] at this
  cases this
theorem LL {c:aD}(q : ∀ cls H',cX K c=some cls->Ext H H'->E cls none H'):XOk (iJ (CXR base P w) P w K mg base N qual scope f cd A outer s H E) H c:=
 ⟨fun pins σ H1 s1 e s' I h=>Ot pins σ H1 s1 e s' I (h.imp fun cls H' z=>q cls H' z.1 z.2),fun hc I x m=>Nk I m (q _ _ hc x)⟩
end
abbrev FX:=Option aD->List aA->Option aA
noncomputable def spX (K:aH)(n0:Nat)(F:FX):Sp:=fun vs H Q E=>∃ P ds d z,Hid P H/\Aar K (hid H P) ds vs/\F z ds=some d/\Res K P n0 d H Q /\ ∀ c,z=some c -> ∀ cls H',cX K c=some cls->Ext H H'->E cls none H'
noncomputable def rsD (c:aD):aA:=.dict [(.none,.str c),(.none,.bool true)]
noncomputable def isR:aA->Bool
 | .dict [(.none,.str _),(.none,.bool true)]=>true
 | _=>false
structure DefX (P:bC)(w:aW)(K:aH)(mg:aD->Option aE)(base:aQ)(x:aD)(k:Nat)(ps:List aD)(sp:Sp):Prop where
 ex : ∃ f fd,FnOk P w K mg base (CXR base P w) k f fd ps sp/\mg x=some (.ref f)/\kX K (.ref f)=true/\Binds K fd ps []
section
variable {P:bC}{w:aW}{K:aH}{mg:aD->Option aE}{base:aQ}
theorem Fun.okX {CX:CXT}{x qual:aD}{st:bG}{f:aB}{fd:dS}{N ps:List aD}{k:Nat}{sp:Sp}(F:Fun K x qual st f fd)(S:FnScope N ps (bQ st))(len : ∀ vs H Q E,sp vs H Q E->vs.length=ps.length)
  (hb : ∀ (cdv:aE) (A:bT) (outer:List dN) (s:aG) (H:Hp) (vs:List V) (Q:VK) (E:XK),Room k (A.deeper (gX qual (bQ st) s.heap.objs.size f cdv))->sp vs H Q E ->
   ∃ t,PSs (iJ CX P w K mg base N qual (bQ st) f cdv A outer s H E) (gU st) t/\t { nx:=fun _ H'=>Q .non H',rt:=Q } (start N vs) H):FnOk P w K mg base CX (k+1) f fd ps sp:=by
 obtain⟨oc,od,kV,doc,pm,an,cdv,ct,osl,rfl,lk,hcd⟩:=F.ex
 exact KA lk hcd S len fun A outer s H vs Q E hr hsp=>hb cdv A outer s H vs Q E hr hsp
theorem Mi {N:List aD}{np n0:Nat}{body:SF}{H:Hp}{P0:aB->Prop}{vs:List V}{ds:List aA}{d:aA}{Q:VK}(hP:Hid P0 H)(r:Aar K (hid H P0) ds vs)(ef:fnD np N.length body ds=some d)(k:Res K P0 n0 d H Q) :
  tS K H P0 n0 body { nx:=fun _ H'=>Q .non H',rt:=Q } (start N vs) H:=by
 unfold fnD at ef
 by_cases hl:ds.length=np
 case neg=>rw[if_neg hl] at ef; cases ef
 rw[if_pos hl] at ef
 rw[← hl] at ef
 have hlen:=r.length
 have eH:Hd P0 (fun _=>[])=P0:=by
  funext a
  simp[Hd]
 have S0:Sta K H P0 (hid H P0) (ds.map (fun d=>some (0,d))++lB (N.length - ds.length) none) (start N vs) H (fun _=>[]):=by
  refine⟨by simp[start,hlen],fun _=>.nil,fun i j a h=>by simp at h,fun i a h=>by simp at h,Ext.refl,hP,by rw[eH]; exact Ext.refl,fun i n' d' e=>?_⟩
  rw[eH]
  by_cases hi:i<ds.length
  ·rw[AY (by simpa using hi),gZ] at e
   cases q:ds[i]? with
   | none=>rw[q] at e; simp at e
   | some d2=>
    rw[q] at e
    have e':0=n'/\d2=d':=by simpa using e
    obtain⟨rfl,rfl⟩:=e'
    obtain⟨v,h1,h2⟩:=r.get q
    refine⟨v,?_,rfl,h2⟩
    unfold start
    rw[AY (by rw[cP,hlen]; exact hi),gZ,h1]
    rfl
  ·rw[VN (by simpa using hi)] at e
   have:=rD e
   simp at this
 cases eb:body (ds.map (fun d=>some (0,d))++lB (N.length - ds.length) none) with
 | none=>rw[eb] at ef; cases ef
 | some o=>
  rw[eb] at ef
  refine⟨_,_,_,o,S0,eb,?_⟩
  cases o with
  | rt d'=>
   cases ef
   exact fun v H' ⟨Fr,h1,h2,h3,h4⟩=>k v H' Fr h1 h2 h3 h4
  | nx ρ'=>
   cases ef
   intro σ' H' fp' S'
   refine k .non H' [] S'.ext .nil (fun a m=>by simp at m) ?_
   cases n0 with
   | zero=>exact⟨rfl,Abg.mpr rfl⟩
   | succ n=>
    unfold Aec
    split
    ·exact .inl ⟨rfl,rfl,rfl⟩
    ·exact⟨rfl,Abg.mpr rfl⟩
  | bk _=>cases ef
  | ct _=>cases ef
theorem oM {x qual:aD}{st:bG}{f:aB}{fd:dS}{N ps:List aD}{k n0 np:Nat}{body:Option aD->SF}(F:Fun K x qual st f fd)(S:FnScope N ps (bQ st))(hnp:np=ps.length)(hN:ps.length≤N.length)
  (hb : ∀ (cdv:aE) (A:bT) (outer:List dN) (s:aG) (H:Hp) (E:XK) (P0:aB->Prop) (z:Option aD),Room k (A.deeper (gX qual (bQ st) s.heap.objs.size f cdv))->(∀ c,z=some c->XOk (iJ (CXR base P w) P w K mg base N qual (bQ st) f cdv A outer s H E) H c) ->
   DSs (iJ (CXR base P w) P w K mg base N qual (bQ st) f cdv A outer s H E) H P0 n0 (gU st) (body z)) :
  FnOk P w K mg base (CXR base P w) (k+1) f fd ps (spX K n0 fun z=>fnD np N.length (body z)):=by
 refine F.okX S (fun vs H Q E h=>?_) (fun cdv A outer s H vs Q E hr h=>?_)
 ·obtain⟨P,ds,d,z,_,r,ef,_⟩:=h
  have ef:fnD np N.length (body z) ds=some d:=ef
  unfold fnD at ef
  by_cases hl:ds.length=np
  ·rw[r.length,hl,hnp]
  ·rw[if_neg hl] at ef; cases ef
 ·obtain⟨P0,ds,d,z,hP,r,ef,k,kx⟩:=h
  exact⟨_,hb cdv A outer s H E P0 z hr fun c hc=>LL (kx c hc),Mi hP r ef k⟩
variable {X:Cx}{x:aD}{k n0 np:Nat}{ps:List aD}{F:FX}{e:aS}{es:List aS}{fa:AF}{p pos:bL}
theorem LH {sp:Sp}{E:XK}{t:TA}(D:DefX X.prog X.w X.K X.mg X.base x k ps sp)(hr:Room k X.A)(hg:Gl X x)(hx:Passes (CXR X.base X.prog X.w) X E)(ha:PA X (e::es) t)(hdb:(x == ("__debug__" : aD))=false:=by decide)(he:bD (e::es) X.env=(false,bI e X.env)::bD es X.env:=by rfl)
  (hpl:(eM pos (bD es X.env)).any (·.1)=false:=by rfl):PE X (.Call (.Name x p) (e::es) [] pos) (HR sp [] E t):=by
 obtain⟨f,fd,F,hm,hk,hb⟩:=D.ex
 exact KW F hr hg hm hk hb .nil hx ha hdb he hpl
end
theorem Iw {d:aA}(h:isR d=true) : ∃ c,d=rsD c:=by
 unfold isR at h
 split at h
 ·exact⟨_,rfl⟩
 ·cases h
theorem LZ {k:aN}(e:PyData.none=kD k):False:=by cases k <;> cases e
theorem CK {K:aH}{B H:Hp}{n:Nat}{c:aD}{v:V}{F:List aB} : ¬ Aec K B H n (rsD c) v F:=fun h=>by
 have hD : ¬ Aa6 K B (rsD c) v:=fun r=>by
  obtain⟨a,e,⟨kvs,_,r⟩ | ⟨ts,_,r⟩ | ⟨xs,h,r⟩ | r⟩:=Abl.mp r
  ·obtain⟨k',_,_,_,ek,_⟩:=Aay.mp r
   cases k' <;> cases ek
  ·obtain⟨_,_,_,_,⟨z,_⟩,_⟩:=Aa2.mp (Ac1.mp r).2
   cases z
  ·obtain⟨es,z,_⟩:=sO r
   cases z
  ·rcases r with(⟨_,_,z,_⟩ | ⟨_,z,_⟩) | r
   ·cases z
   ·cases z
   ·obtain⟨_,c',C,dx,fs,z,hc,ha,r⟩:=Ahp.mp r
    obtain⟨f1,x1,r1,_,_,q1,_⟩:=Adf.mp r
    simp[Al0] at q1
 unfold Aec at h
 split at h
 ·rcases h with⟨z,_⟩ | ⟨kds,p,ts,z,_⟩ | ⟨⟨c',C,dx,a,w,q,kds,hds,kvs,hvs,ps,z,_⟩⟩ <;> cases z
 ·cases n with
  | zero=>exact hD h.2
  | succ n=>
   obtain⟨p,xs,Fs,e,hp,_,q⟩:=h
   obtain⟨_,xs⟩:=xs
   replace q:All3 _ _ xs Fs:=q
   cases q with
   | cons h _=>
    exact LZ h.1
section
variable {X:Cx}{H0:Hp}{P0:aB->Prop}{x:aD}{k n0 n np:Nat}{ps:List aD}{F:FX}{e:aS}{es:List aS}{fa:AF}{p pos:bL}{z:Option aD}
noncomputable def jX (n:Nat)(m:Md)(f:EF):SF:=fun ρ=>(eV n m f ρ).bind fun d=>if isR d=true then some (.rt d) else some (.nx ρ)
theorem vK {f:EF}(n:Nat)(m:Md)(he:PE X e (tE X.K H0 P0 n m f))(hs:mG e none pos.line X.env=pure false:=by rfl):DS X H0 P0 n0 (.Expr e pos) (jX n m f):=PS.imp (qC he hs) fun D σ H gh=>by
 obtain⟨B0,ρ,fp,o,S,ef,k⟩:=gh
 obtain⟨d,e1,ef⟩:=XBs ef
 refine⟨B0,ρ,fp,d,S,e1,fun v H' t=>?_⟩
 by_cases h:isR d=true
 ·obtain⟨c,rfl⟩:=Iw h
  obtain⟨fp',_,r⟩:=t
  exact(CK r).elim
 ·rw[if_neg h] at ef
  cases ef
  obtain⟨fp',S',_⟩:=t
  exact k _ _ fp' S'
end
def yD (K:aH)(c:aD):Prop:=∃ C,cI K bU c=some (some (.ref C))/\xE K C [.type "ValueError",.type "Exception",.type "BaseException",.type "object"] "ValueError.__new__" = true
theorem Jm {K:aH}{h:aQ}{C:aB}{bmB:List aE}{newId:String}(X:K.In h)(q:xE K C bmB newId=true) :
  ∃ bm N nm q bs hdct sn sub ab col dd k0 k1 k2 k3 k5 mN,h.get? C=some (excClassObj nm q C N bs bm hdct sn sub ab col dd k0 k1 k2 k3 k5 newId)/\h.Ns N mN/\mN "__init__" = none/\OwnTail h bmB bm:=by
 unfold xE at q
 split at q
 ·rename_i dd cd sl ho
  split at q
  ·rename_i C' bm k0 k1 k2 k3 n k5 hm hs
   simp only[rJ,beq_iff_eq,Bool.not_eq_true'] at q
   obtain⟨⟨⟨⟨⟨rfl,rfl⟩,hdel⟩,ht⟩,hok⟩,hni⟩:=q
   obtain⟨nm,bs,mro,ns,qn,hd,sn,sub,ab,col,del⟩:=cd
   dsimp only at hm hdel hok hni
   subst hm hdel
   have hsl:sl = #[k0,k1,k2,k3,some (.builtin n),k5]:=by
    obtain⟨l⟩:=sl
    simp only at hs
    rw[hs]
   subst hsl
   exact⟨bm,ns,nm,qn,bs,hd,sn,sub,ab,col,dd,k0,k1,k2,k3,k5,_,X _ _ ho,.of_isNs (PySem.W.isNs_of_in X hok),PySem.W.nsMap_none_of_in X hok hni,PySem.W.tail_of_in X ht⟩
  ·cases q
 ·cases q
noncomputable def uZ (z:Option aD)(c:aD):SF:=fun _=>if z=some c then some (.rt (rsD c)) else none
section
variable {X:Cx}{H0:Hp}{P0:aB->Prop}{n0:Nat}{z:Option aD}{c t:aD}{np tp cpos pos:bL}{j:Nat}
theorem yX (hz : ∀ c,z=some c->XOk X H0 c)(V:yD X.K c)(hc:X.calm=true)(hg:Gl X c)(hd:(c == ("__debug__" : aD))=false:=by decide):DS X H0 P0 n0 (.Raise (some (.Call (.Name c np) [.Constant (.str t) j tp] [] cpos)) none pos) (uZ z c):=by
 intro pins s σ H D I ⟨B0,ρ,fp,o,S,ef,k⟩
 obtain⟨he,_⟩:=cT ef
 obtain⟨C,hC,hx⟩:=V
 have hm:=eU I.mod.kin I.mod.glob hC
 have hcv:cX X.K c=some (.ref C):=by unfold cX; rw[hC]; rfl
 obtain⟨tl,N,nm,q,bs,hdct,sn,sub,ab,col,dd,k0,k1,k2,k3,k5,mN,oC,oN,hni,T⟩:=Jm I.mod.kin hx
 refine wpAny_Raise_call_subT (C:=C) (nm:=nm) (q:=q) (N:=N) (bs:=bs) (bm:=tl) (hdct:=hdct) (sn:=sn) (sub:=sub) (ab:=ab) (col:=col) (dd:=dd) (k0:=k0) (k1:=k1) (k2:=k2) (k3:=k3) (k5:=k5)
  Pf (mN:=mN) (T.hasType Pf.hasBase) (I.ok.hd hc) rfl hni (sG I hg hm ⟨rfl,?_⟩ hd)
 refine Calls.evalArgs_plain ?_
 refine thn ((fJ SK jE) cpos pins s σ H (fun vs H1=>vs.length=1/\H1=H) I ⟨rfl,rfl⟩) fun vs s2 gh=>?_
 obtain⟨vv,H1,I1,r,hl,e1⟩:=gh
 subst e1
 have hl2:vs.length=1:=by rw[← r.length]; exact hl
 exact⟨rfl,by show vs.length≤sizeLine; rw[hl2]; decide,I1.bk _ _ oC,oN.keeps I1.bk,T.keeps I1.bk,fun h' e m=>(hz c he).made hcv I1 S.ext m⟩
end
theorem UA {l:List dN}{H H':Hp}{h h1 h2 B:aQ}(un:Un (frs l) [] H H' h h1)(hB : ∀ b u,h.get? b=some u->b∉frs l -> ∃ u',B.get? b=some u')(f1:B.StaysIn h1)(f2:B.StaysIn h2)(up:h1.UpToSlots h2)
  (fr : ∀ b∈frs l,∃ o,h1.get? b=some o /\ ∀ vs,o.data ≠ .fields vs):Un (frs l) [] H H' h h2:=by
 refine⟨fun b o e n hb he=>?_,fun b o e n hb he=>?_,un.free,fun b o e he=>?_,un.tups,un.frzs,un.tbls⟩
 ·obtain⟨u',z2⟩:=hB b o e hb
  exact f2 b o (yV f1 z2 (un.keep b o e n hb he) ▸ z2)
 ·obtain⟨sl,z⟩:=un.slot b o e n hb he
  obtain⟨o2,z2,nf⟩:=fr b hb
  obtain⟨sl2,z3⟩:=up b o2 z2 nf
  have:o2 = { o with slots:=sl }:=eO (z2.symm.trans z)
  exact⟨sl2,by rw[z3,this]⟩
 ·by_cases hb:b∈frs l
  ·obtain⟨o2,z2,nf⟩:=fr b hb
   obtain⟨sl2,z3⟩:=up b o2 z2 nf
   exact⟨_,z3⟩
  ·obtain⟨u',z2⟩:=hB b o e hb
   exact⟨u',f2 b u' z2⟩
theorem KY {P:bC}{w:aW}{H':Hp}{h1 h2 B:aQ}(hok:HOk P w H' h1)(hT : ∀ b o,H' b=some o -> ∃ u,B.get? b=some u)(f1:B.StaysIn h1)(f2:B.StaysIn h2):HOk P w H' h2:=fun a o e=>by
 refine(hok a o e).stay (fun b u hb q=>?_) (fun _ q=>q) fun _ _ q=>q
 have ht : ∃ o2,H' b=some o2:=by
  rcases hb with rfl | hb
  ·exact⟨o,e⟩
  ·exact⟨_,hb⟩
 obtain⟨o2,ht⟩:=ht
 obtain⟨u',z2⟩:=hT b o2 ht
 exact f2 b u (yV f1 z2 q ▸ z2)
noncomputable abbrev Cx.held (X:Cx)(e:aB):Cx:={ X with A:=X.A.mark (some (.ref e)),calm:=false,xe:=fun _ _=>False }
noncomputable abbrev Cx.tries (X:Cx)(pins:List (aB×aY))(E:aE->aG->Prop):Cx:={ X with xe:=E,pn:=X.pn++pins }
section
variable {X:Cx}{pins pins':List (aB×aY)}{σ:St}{H H1:Hp}{s s1:aG}{e:aB}{E:aE->aG->Prop}
theorem Inv.held (I:Inv X pins σ H s)(e:aB):Inv (X.held e) pins σ H s:=⟨⟨I.ok.mod,I.ok.kind,I.ok.glob,I.ok.blt,I.ok.above,I.ok.inj,I.ok.has,I.ok.cab,fun h=>Bool.noConfusion h,I.ok.frames,I.ok.stk,I.ok.exf,I.ok.bs,I.ok.bsz,I.ok.noex,I.ok.exfs,I.ok.funs,I.ok.frf⟩,I.os,I.bare,I.base,I.loc,I.cell,I.free,I.freeC,I.pin,I.hok,I.len⟩
theorem Inv.unheld (ok:X.Ok)(I:Inv (X.held e) pins σ H s):Inv X pins σ H s:=⟨ok,I.os,I.bare,I.base,I.loc,I.cell,I.free,I.freeC,I.pin,I.hok,I.len⟩
theorem Cx.Ok.tries (ok:X.Ok):(X.tries pins E).Ok:=⟨ok.mod,ok.kind,ok.glob,ok.blt,ok.above,ok.inj,ok.has,ok.cab,ok.hd,ok.frames,ok.stk,ok.exf,ok.bs,ok.bsz,ok.noex,ok.exfs,ok.funs,ok.frf⟩
theorem Inv.tries (I:Inv X pins σ H s):Inv (X.tries pins E) [] σ H s:=⟨I.ok.tries,I.os,I.bare,I.base,I.loc,I.cell,I.free,I.freeC,fun p hp=>I.pin p (by simpa using hp),I.hok,I.len⟩
theorem Inv.untries (ok:X.Ok)(I:Inv (X.tries pins E) pins' σ H s):Inv X pins σ H s:=⟨ok,I.os,I.bare,I.base,I.loc,I.cell,I.free,I.freeC,fun p hp=>I.pin p (VL _ hp),I.hok,I.len⟩
def BS (X:Cx)(nm:Option aD)(pos:bL)(Q:Flow->aG->Prop)(E:aE->aG->Prop):nO->aG->Prop:=fun r s₂=>match r with
 | .ok f=>(match nm with
  | none=>Q f s₂
  | some n=>aO (aP X.prog X.w) X.A (do bindName X.env n .none; UF X.env n pos) (fun _ s₃=>Q f s₃) E s₂)
 | .error x=>cameBackBy (aP X.prog X.w) X.A X.env E x s₂
theorem caught {C:XK}{T:aD}{CT:aE}{v:aE}{s':aG}{np pos:bL}{b₀:bG}{suite:List bG}{rest:List ExceptHandler}{nm:Option aD}{Q:Flow->aG->Prop}
  (I:Inv X pins σ H1 s1) (hst:X.stack=X.env::X.outer) (hfr:X.env.frame=some X.env.locals) (h:CXR X.base X.prog X.w X.stack H1 s1 C v s') (hg:Gl X T) (hm:X.mg T=some CT) (hd:(T == ("__debug__" : aD))=false)
  (hex : ∀ cls H',C cls none H'->tV X.K cls CT=some true)
  (k : ∀ ea cls H' h5,C cls none H'->H' ea=none->s1.heap.get? ea=none ->
   (∀ {A':bT} {Q':Unit->aG->Prop} {E':aE->aG->Prop},(∀ h6,Inv (X.held ea) pins σ H' { s' with heap:=h6 }->Au4 ea cls h6->Q' () { s' with heap:=h6 })->aO (aP X.prog X.w) A' (wY (.ref ea) none) Q' E' { s' with heap:=h5 }) ->
   iW (aP X.prog X.w) (X.A.mark (some (.ref ea))) (.handlers (.ref ea) [.ExceptHandler none nm (b₀::suite) pos] X.env) (BS X nm pos Q E) { s' with heap:=h5 }) :
  aO (aP X.prog X.w) X.A (noteFrame v X.env) (fun _ s₂=>aO (aP X.prog X.w) X.A (wY v none) (fun _ s₃=>
   aO (aP X.prog X.w) X.A (handleBy v X.env (.ExceptHandler (some (.Name T np)) nm (b₀::suite) pos::rest)) Q E s₃) E s₂) E s':=by
 obtain⟨ea,cls,a0,H',B,rfl,os,bare,un,hok,hb,hB,hT,fl,q⟩:=h
 have fr : ∀ b∈frs X.stack,∃ o,s'.heap.get? b=some o /\ ∀ vs,o.data ≠ .fields vs:=fun b m=>(fl.2.2.1.mem m).2
 have fl':Heap.FlyingW B (X.env::X.outer) ea cls a0 s'.heap:=hst ▸ fl
 refine wpAny_looks_onW (base:=B) (env:=X.env) (outer:=X.outer) (L:=X.env.locals) (by rw[I.ok.frames,hst]) hfr fl' fun h4 held4 sm4=>?_
 refine wpAny_landsW held4 fun h5 fl5 sm5=>?_
 have I5:Inv X pins σ H' { s' with heap:=h5 }:=I.call' (ch:=[]) os (UA un hB fl.1 fl5.1 (sm4.trans sm5) fr) (KY hok hT fl.1 fl5.1) bare (fun _ z=>nomatch z)
 refine wpAny_handleBy_cons (codeAny_handlers_test (sG (X:=X.held ea) (I5.held ea) hg hm ?_ hd)) (by intro q; cases q)
 obtain⟨ob,hob,hoc⟩:=fl5.there
 have LT:PySem.W.Looks (aP X.prog X.w) h5 (typeOf (.ref ea)) cls:=by
  subst hoc
  exact(PySem.W.Looks.ld hob).andThen .now
 refine(PySem.W.exm_one I5.kIn LT (hex cls H' q)).here ?_
 have hH:H' ea=none:=by
  cases z:H' ea with
  | none=>rfl
  | some o=>
   obtain⟨u,z2⟩:=hT ea o z
   rw[fl.2.1] at z2
   cases z2
 have hs1:s1.heap.get? ea=none:=by
  cases z:s1.heap.get? ea with
  | none=>rfl
  | some o=>
   by_cases m:ea∈frs X.stack
   ·obtain⟨o2,z2,nf⟩:=fr ea m
    obtain⟨oe,ws,hoe,hoec,hoed,_⟩:=fl.first
    rw[z2] at hoe
    cases hoe
    exact absurd hoed (nf ws)
   ·obtain⟨u,z2⟩:=hB ea o z m
    rw[fl.2.1] at z2
    cases z2
 refine k ea cls H' h5 q hH hs1 fun {A' Q' E'} kk=>?_
 refine lands_againW fl5 fun h6 fl6 sm6=>kk h6 ?_ ?_
 ·exact(I.call' (s':={ s' with heap:=h6 }) (ch:=[]) os (UA un hB fl.1 fl6.1 ((sm4.trans sm5).trans sm6) fr) (KY hok hT fl.1 fl6.1) bare (fun _ z=>nomatch z)).held ea
 ·obtain⟨oe,ws,hoe,hoec,hoed,_⟩:=fl6.first
  exact⟨oe,hoe,hoec,ws,hoed⟩
end
noncomputable def exD (c:aD):aA:=.dict [(.none,.str c),(.none,.none)]
theorem Sta.forget {K:aH}{H0 H B0:Hp}{P0:aB->Prop}{ρ:bB}{σ:St}{fp:Nat->List aB}(S:Sta K H0 P0 B0 ρ σ H fp)(j:Nat):Sta K H0 P0 B0 (ρ.set j none) (σ.set j none) H fp:=by
 refine⟨by simp[S.len],S.nd,S.dj,S.own,S.ext,S.hd,S.base,fun i n d e=>?_⟩
 by_cases h:i=j
 ·subst h
  by_cases hl:i<ρ.length
  ·rw[kK hl] at e; cases e
  ·rw[List.getElem?_eq_none (by simpa using hl)] at e; cases e
 ·rw[jA (jL h)] at e ⊢
  exact S.slot i n d e
section
variable {X:Cx}{pins:List (aB×aY)}{σ:St}{H H1:Hp}{s s1:aG}{E:aE->aG->Prop}{D:Ends}{f:Flow}{ea:aB}
theorem RA (ok:X.Ok)(h:SP (X.tries pins E) [] D f s):SP X pins D f s:=by
 cases f with
 | next=>obtain⟨σ',H',I,q⟩:=h; exact⟨σ',H',I.untries ok,q⟩
 | brk=>obtain⟨σ',H',I,q⟩:=h; exact⟨σ',H',I.untries ok,q⟩
 | cont=>obtain⟨σ',H',I,q⟩:=h; exact⟨σ',H',I.untries ok,q⟩
 | ret u=>obtain⟨v,σ',H',I,r,q⟩:=h; exact⟨v,σ',H',I.untries ok,r,q⟩
theorem name_goes {M:Model}{A:bT}{n:aD}{j:Nat}{pos:bL}{Q:Unit->aG->Prop}(I:Inv X pins σ H s)(hN:X.N.Nodup)(hj:X.N[j]?=some n)(hl:X.env.scope.names.lookup n=some .local)(h : ∀ s',Inv X pins (σ.set j none) H s'->Q () s') :
  aO M A (do bindName X.env n .none; UF X.env n pos) Q E s:=by
 obtain⟨m,hn,hlk⟩:=id I.loc
 refine wpAny_nameGoes_keeps hl hn (by rw[I.ok.kind]; rfl) fun h' v hn' hs=>h _ ?_
 obtain⟨oL,_,_,hoL,_⟩:=id hn
 refine⟨I.ok,I.os,I.bare,⟨fun b o e n hb hx=>?_,fun b o e n hb hx=>?_,I.base.free,fun b o e hx=>?_,I.base.tups,I.base.frzs,I.base.tbls⟩,⟨_,hn',fun i y v' e1 e2 e3=>?_⟩,fun y c e=>?_,I.free,I.freeC,fun p hp=>?_,fun b ob e=>?_,by simpa using I.len⟩
 ·exact(hs.2 b (dA (fL (cD e) I.ok.above))).trans (I.base.keep b o e n hb hx)
 ·obtain⟨sl,e1⟩:=I.base.slot b o e n hb hx
  exact⟨sl,(hs.2 b (dA (fL (cD e) I.ok.above))).trans e1⟩
 ·obtain⟨o',e1⟩:=I.base.there b o e hx
  exact⟨o',(hs.2 b (dA (fL (cD e) I.ok.above))).trans e1⟩
 ·have hij:i≠j:=fun z=>by
   subst z
   by_cases q:i<σ.length
   ·rw[kK q] at e2; cases e2
   ·rw[List.getElem?_eq_none (by simpa using q)] at e2; cases e2
  rw[jA (jL hij)] at e2
  obtain⟨u',r',q⟩:=hlk i y v' e1 e2 e3
  refine⟨u',r',?_⟩
  rcases q with⟨k,e⟩ | ⟨k,c,e,z⟩
  ·refine .inl ⟨k,?_⟩
   have:y≠n:=fun e=>hij (FF hN e1 (e ▸ hj))
   simp[this,e]
  ·exact .inr ⟨k,c,e,z.sameBut hs (I.cne y c e)⟩
 ·obtain⟨w',z⟩:=I.cell y c e
  exact⟨w',z.sameBut hs (I.cne y c e)⟩
 ·obtain⟨e,n,ne,nf,d⟩:=I.pin p hp
  exact⟨(hs.2 p.1 ne).trans e,n,ne,nf,d⟩
 ·refine(I.hok b ob e).stay (fun c w' hc q=>(hs.2 c ?_).trans q) (fun _ q=>q) fun _ _ q=>q
  rintro rfl
  rcases hc with rfl | hc
  ·rw[I.free] at e; cases e
  ·rw[I.free] at hc; cases hc
end
noncomputable def qK (c:aD):aA->Bool
 | .dict [(.none,.str c'),(.none,.bool true)]=>decide (c'=c)
 | _=>false
theorem Kr {c:aD}{d:aA}(h:qK c d=true):d=rsD c:=by
 unfold qK at h
 split at h
 ·rw[of_decide_eq_true h]; rfl
 ·cases h
theorem Ml (c:aD):qK c (rsD c)=true:=by simp[qK,rsD]
noncomputable def iL (c:aD)(F:FX)(fa:AF)(V:aA->SF)(G:SF):SF:=fun ρ=>(fa (vS ρ)).bind fun ds=>(F (some c) ds).bind fun d=>if qK c d=true then G ρ else(F none ds).bind fun d=>V d ρ
theorem Ks {c:aD}{F:FX}{fa:AF}{V:aA->SF}{G:SF}{ρ:bB}{ds:List aA}{d d2:aA}(h:fa (vS ρ)=some ds)(h1:F (some c) ds=some d)(hr:qK c d=false)(h2:F none ds=some d2):iL c F fa V G ρ=V d2 ρ:=by
 unfold iL
 rw[h,bM,h1,bM,if_neg (by rw[hr]; decide),h2,bM]
theorem TN {c:aD}{F:FX}{fa:AF}{V:aA->SF}{G:SF}{ρ:bB}{ds:List aA}(h:fa (vS ρ)=some ds)(h1:F (some c) ds=some (rsD c)):iL c F fa V G ρ=G ρ:=by
 unfold iL
 rw[h,bM,h1,bM,if_pos (Ml c)]
noncomputable def sAs (j:Nat)(c:aD)(G:SF):SF:=fun ρ=>if j<ρ.length then(G (ρ.set j (some (0,exD c)))).bind fun o=>match o with
 | .nx ρ'=>some (.nx (ρ'.set j none))
 | .bk ρ'=>some (.bk (ρ'.set j none))
 | .ct ρ'=>some (.ct (ρ'.set j none))
 | .rt d=>some (.rt d)
 else none
section
variable {X:Cx}{pins:List (aB×aY)}{σ:St}{H H':Hp}{s s6:aG}{ea:aB}{cls:aE}
theorem Inv.track (I:Inv X pins σ H' s6)(hH:H' ea=none)(hx:Au4 ea cls s6.heap)(h0:X.s₀.heap.get? ea=none)(hp : ∀ p∈X.pn++pins,p.1≠ea):Inv X pins σ (upd H' ea (exO cls ea)) s6:=by
 obtain⟨o,ho,hc,vs,hd⟩:=id hx
 have ne : ∀ b u,H' b=some u->b≠ea:=fun b u e z=>by rw[z,hH] at e; cases e
 refine⟨I.ok,I.os,I.bare,⟨I.base.keep,I.base.slot,fun b u e n hx=>?_,I.base.there,fun b xs e=>?_,fun b u xs e=>?_,fun b ps e=>?_⟩,I.loc,I.cell,?_,fun x c e=>?_,fun p m=>?_,fun b u e=>?_,I.len⟩
 ·rw[bN (fun z=>by rw[z,h0] at e; cases e)]; exact I.base.free b u e n hx
 ·rw[bN (ne b _ (I.base.tups b xs e))]; exact I.base.tups b xs e
 ·rw[bN (ne b _ (I.base.frzs b u xs e))]; exact I.base.frzs b u xs e
 ·obtain⟨m,z⟩:=I.base.tbls b ps e
  exact⟨m,by rw[bN (ne b _ z)]; exact z⟩
 ·rw[bN]
  ·exact I.free
  ·intro z
   obtain⟨m,⟨o',es,ep,ho',hd',_⟩,_⟩:=I.loc
   rw[z,ho] at ho'
   cases ho'
   rw[hd] at hd'
   cases hd'
 ·rw[bN]
  ·exact I.freeC x c e
  ·intro z
   obtain⟨v,o',ho',hd'⟩:=I.cell x c e
   rw[z,ho] at ho'
   cases ho'
   rw[hd] at hd'
   cases hd'
 ·obtain⟨e1,e2,e3,e4,e5⟩:=I.pin p m
  exact⟨e1,by rw[bN (hp p m)]; exact e2,e3,e4,e5⟩
 ·by_cases z:b=ea
  ·subst z
   rw[eB] at e
   cases e
   refine⟨hx,⟨o,ho⟩,fun h1 h2 hh kk=>?_⟩
   obtain⟨o2,g1,g2⟩:=hh
   exact⟨o2,kk o2 g1,g2⟩
  ·rw[bN z] at e
   exact(I.hok b u e).stay (fun _ _ _ q=>q) (fun c q=>by rw[bN (ne c _ q)]; exact q) fun c xs q=>by rw[bN (ne c _ q)]; exact q
end
section
variable {X:Cx}{H0:Hp}{P0:aB->Prop}{n0 k n:Nat}{x c T:aD}{ps:List aD}{F:FX}{e:aS}{es:List aS}{fa:AF}{p cpos np hpos pos:bL}{CT:aE}{st b₀:bG}{suite:List bG}{V:aA->SF}{G:SF}{nm:Option aD}{W:TE->TS}
structure TryC (X:Cx)(c T:aD)(CT:aE):Prop where
 st:X.stack=X.env::X.outer
 fr:X.env.frame=some X.env.locals
 ex:X.ex=[]
 gl:Gl X T
 mt:X.mg T=some CT
 db:(T == ("__debug__" : aD))=false
 mc : ∀ cls,cX X.K c=some cls->tV X.K cls CT=some true
def CallAt (X:Cx)(ce:aS)(n:Nat)(F:FX)(fa:AF):Prop:=∀ {pins:List (aB×aY)} {σ:St} {H:Hp} {s:aG} {z:Option aD} {Q:VK} {P:aB->Prop} {ρ:List (Option aA)} {ds:List aA} {d:aA},Inv X pins σ H s->Hid P H->Ais X.K (hid H P) ρ σ->fa ρ=some ds->F z ds=some d->Res X.K P n d H Q ->
  (∀ H1 s1 v s',Inv X pins σ H1 s1->Ext H H1->CXR X.base X.prog X.w X.stack H1 s1 (fun cls _ H'=>(∃ c,z=some c/\cX X.K c=some cls)/\Ext H1 H') v s'->X.xe v s') ->
  aO (aP X.prog X.w) X.A (bI ce X.env) (EP X pins σ Q) X.xe s
def lQ (X:Cx)(H0:Hp)(P0:aB->Prop)(n0:Nat)(body:List bG)(hh:ExceptHandler)(F:SF):Prop:=∀ (pins:List (aB×aY)) (s:aG) (σ:St) (H:Hp) (D:Ends),Inv X pins σ H s->tS X.K H0 P0 n0 F D σ H ->
 aO (aP X.prog X.w) X.A (execs body X.env) (fun f s₁=>match f with | .next=>aO (aP X.prog X.w) X.A (execs [] X.env) (SP X pins D) X.xe s₁ | f=>SP X pins D f s₁)
  (fun e s₁=>aO (aP X.prog X.w) X.A (noteFrame e X.env) (fun _ s₂=>aO (aP X.prog X.w) X.A (wY e none) (fun _ s₃=>aO (aP X.prog X.w) X.A (handleBy e X.env [hh]) (SP X pins D) X.xe s₃) X.xe s₂) X.xe s₁) s
theorem MY {body:List bG}{hh:ExceptHandler}{F:SF}{pos:bL}(h:lQ X H0 P0 n0 body hh F):DS X H0 P0 n0 (.Try body [hh] [] [] pos) F:=fun pins s σ H D I q=>wpAny_Try_except (h pins s σ H D I q)
theorem LI {hh:ExceptHandler}{F1 F2:SF}{cd:aS}{a b:List bG}{tt:BF}{p1:bL}(m:Md)(hc : ∀ pins E,DT (X.tries pins E) cd tt)(ha:lQ X H0 P0 n0 a hh F1)(hb:lQ X H0 P0 n0 b hh F2):lQ X H0 P0 n0 [.If cd a b p1] hh (sIf m tt F1 F2):=fun pins s σ H D I gh=>by
 obtain⟨B0,ρ,fp,o,S,ef,k⟩:=gh
 obtain⟨bb,e1,ef⟩:=XBs ef
 have ts:=evB (H0:=H0) (P0:=P0) m (hc pins (fun e s₁=>aO (aP X.prog X.w) X.A (noteFrame e X.env) (fun _ s₂=>aO (aP X.prog X.w) X.A (wY e none) (fun _ s₃=>aO (aP X.prog X.w) X.A (handleBy e X.env [hh]) (SP X pins D) X.xe s₃) X.xe s₂) X.xe s₁))
 have hp:=ts [] s σ H (fun b' H'=>b'=bb/\Sta X.K H0 P0 B0 ρ σ H' fp) I.tries ⟨B0,ρ,fp,bb,S,e1,fun H' S'=>⟨rfl,S'⟩⟩
 refine UE (wpAny_If (thn hp fun d s1 gh=>?_))
 obtain⟨H1,I1,e2,S1⟩:=gh
 subst e2
 have I2:=I1.untries I.ok
 cases d with
 | true=>
  refine thn (ha pins s1 σ H1 D I2 ⟨B0,ρ,fp,o,S1,by simpa using ef,k⟩) fun f s2 q=>?_
  cases f with
  | next=>exact AI q
  | brk=>exact q
  | cont=>exact q
  | ret u=>exact q
 | false=>
  refine thn (hb pins s1 σ H1 D I2 ⟨B0,ρ,fp,o,S1,by simpa using ef,k⟩) fun f s2 q=>?_
  cases f with
  | next=>exact AI q
  | brk=>exact q
  | cont=>exact q
  | ret u=>exact q
theorem OC {ce:aS}(t:TryC X c T CT)(hcall : ∀ pins E,CallAt (X.tries pins E) ce n F fa)
  (hW : ∀ (pins:List (aB×aY)) (E:aE->aG->Prop) (te:TE),PE (X.tries pins E) ce te->PS (X.tries pins E) st (W te))
  (hV : ∀ {B0 ρ fp o D σ H d},Sta X.K H0 P0 B0 ρ σ H fp->V d ρ=some o->AC X.K H0 P0 B0 n0 D o -> ∀ te:TE,(∀ Q,(∀ v H',Tmp X.K H0 P0 B0 ρ σ n d v H'->Q v H')->te σ H Q)->W te D σ H)
  (hW2 : ∀ te:TE,∀ D σ H,(∀ Q,te σ H Q)->W te D σ H)
  (hs : ∀ (pins:List (aB×aY)) (s1:aG) (σ:St) (H1:Hp) (ea:aB) (cls:aE) (H':Hp) (h5:aQ) (s':aG) (D:Ends) (B0:Hp) (ρ:bB) (fp:Nat->List aB) (o:Out),Inv X pins σ H1 s1->cX X.K c=some cls->Ext H1 H'->H' ea=none->s1.heap.get? ea=none ->
   (∀ {A':bT} {Q':Unit->aG->Prop} {E':aE->aG->Prop},(∀ h6,Inv (X.held ea) pins σ H' { s' with heap:=h6 }->Au4 ea cls h6->Q' () { s' with heap:=h6 })->aO (aP X.prog X.w) A' (wY (.ref ea) none) Q' E' { s' with heap:=h5 }) ->
   Sta X.K H0 P0 B0 ρ σ H1 fp->G ρ=some o->AC X.K H0 P0 B0 n0 D o ->
   iW (aP X.prog X.w) (X.A.mark (some (.ref ea))) (.handlers (.ref ea) [.ExceptHandler none nm (b₀::suite) hpos] X.env) (BS X nm hpos (SP X pins D) X.xe) { s' with heap:=h5 }) :
  lQ X H0 P0 n0 [st] (.ExceptHandler (some (.Name T np)) nm (b₀::suite) hpos) (iL c F fa V G):=by
 intro pins s σ H D' I ⟨B0,ρ,fp,o,S,ef,k'⟩
 obtain⟨ds,e1,ef⟩:=XBs ef
 obtain⟨d,e2,ef⟩:=XBs ef
 have fin : ∀ Ex:aE->aG->Prop,(∀ te:TE,(∀ Q,te σ H Q = ∀ pins' s',Inv (X.tries pins Ex) pins' σ H s'->aO (aP X.prog X.w) X.A (bI ce X.env) (EP (X.tries pins Ex) pins' σ Q) Ex s')->W te D' σ H) ->
   aO (aP X.prog X.w) X.A (execs [st] X.env) (fun f s₁=>match f with | .next=>aO (aP X.prog X.w) X.A (execs [] X.env) (SP X pins D') X.xe s₁ | f=>SP X pins D' f s₁) Ex s:=fun Ex w=>by
  have hp:=iF (hW pins Ex (fun σ' H' Q'=>∀ pins' s',Inv (X.tries pins Ex) pins' σ' H' s'->aO (aP X.prog X.w) X.A (bI ce X.env) (EP (X.tries pins Ex) pins' σ' Q') Ex s') (fun pins' s' σ' H' Q' I' h=>h pins' s' I')) [] s σ H D' I.tries (w _ fun _=>rfl)
  refine thn hp fun f s₁ h=>?_
  have h2:=RA I.ok h
  cases f with
  | next=>
   obtain⟨σ',H',I',q⟩:=h2
   exact jZ pins s₁ σ' H' D' I' q
  | brk=>exact h2
  | cont=>exact h2
  | ret u=>exact h2
 by_cases hR:qK c d=true
 ·rw[if_pos hR] at ef
  have hd:=Kr hR
  subst hd
  refine fin _ fun te hte=>hW2 te _ _ _ fun Q=>?_
  rw[hte]
  intro pins' s' I'
  refine hcall pins _ I' S.hid S.viewS e1 e2 (fun v H' Fr _ _ _ r=>(CK r).elim) (fun H1 s1 v s'' I1 x1 hc=>?_)
  refine caught (X:=X) (I1.untries I.ok) t.st t.fr hc t.gl t.mt t.db (fun cls H' z=>?_) fun ea cls H' h5 z hH hs1 ld=>?_
  ·obtain⟨⟨c',z1,z2⟩,_⟩:=z
   cases z1
   exact t.mc cls z2
  ·obtain⟨⟨c',z1,z2⟩,z3⟩:=z
   cases z1
   exact hs pins s1 σ H1 ea cls H' h5 s'' D' B0 ρ fp o (I1.untries I.ok) z2 z3 hH hs1 ld (S.grow x1) ef k'
 ·rw[if_neg hR] at ef
  obtain⟨d2,e3,ef⟩:=XBs ef
  refine fin _ fun te hte=>hV S ef k' te fun Q hQ=>?_
  rw[hte]
  intro pins' s' I'
  have efv:eV n .s (aR (F none) fa) ρ=some d2:=by
   show(fa (vS ρ)).bind (fun ds=>F none ds)=some d2
   rw[e1]
   exact e3
  obtain⟨P,ρ',d',hP,rs,ef2,kk⟩:=xX .s σ H Q ⟨B0,ρ,fp,d2,S,efv,hQ⟩
  obtain⟨ds2,g1,g2⟩:=XBs ef2
  exact hcall pins _ (z:=none) I' hP rs g1 g2 kk (fun H1 s1 v s'' I1 x1 hc=>by
   obtain⟨_,_,_,_,_,_,_,_,_,_,_,_,_,_,⟨c',z,_⟩,_⟩:=hc
   cases z)
variable {y:aD}{py apos:bL}{i:Nat}
noncomputable def BX (i n:Nat):aA->SF:=fun d ρ=>if i<ρ.length then some (.nx (ρ.set i (some (n,d)))) else none
theorem MP {j:Nat}{nn:aD}(hex:X.ex=[])(hN:X.N.Nodup)(hj:X.N[j]?=some nn)(hl:X.env.scope.names.lookup nn=some .local)(hG : ∀ ea,DSs (X.held ea) H0 P0 n0 (b₀::suite) G) : ∀ (pins:List (aB×aY)) (s1:aG) (σ:St) (H1:Hp) (ea:aB) (cls:aE) (H':Hp) (h5:aQ) (s':aG) (D:Ends) (B0:Hp) (ρ:bB) (fp:Nat->List aB) (o:Out),Inv X pins σ H1 s1->cX X.K c=some cls->Ext H1 H'->H' ea=none->s1.heap.get? ea=none ->
   (∀ {A':bT} {Q':Unit->aG->Prop} {E':aE->aG->Prop},(∀ h6,Inv (X.held ea) pins σ H' { s' with heap:=h6 }->Au4 ea cls h6->Q' () { s' with heap:=h6 })->aO (aP X.prog X.w) A' (wY (.ref ea) none) Q' E' { s' with heap:=h5 }) ->
   Sta X.K H0 P0 B0 ρ σ H1 fp->sAs j c G ρ=some o->AC X.K H0 P0 B0 n0 D o ->
   iW (aP X.prog X.w) (X.A.mark (some (.ref ea))) (.handlers (.ref ea) [.ExceptHandler none (some nn) (b₀::suite) hpos] X.env) (BS X (some nn) hpos (SP X pins D) X.xe) { s' with heap:=h5 }:=fun pins s1 σ H1 ea cls H' h5 s' D B0 ρ fp o I hc x hH hs1 ld S ef k=>by
 refine codeAny_handlers_suite_as (ld fun h6 I6 x6=>?_)
 have h0:X.s₀.heap.get? ea=none:=by
  cases z:X.s₀.heap.get? ea with
  | none=>rfl
  | some u=>
   obtain⟨o',z2⟩:=I.base.there ea u z (by rw[hex]; simp)
   rw[hs1] at z2
   cases z2
 have hp : ∀ p∈X.pn++pins,p.1≠ea:=fun p m z=>by
  have:=(I.pin p m).1
  rw[z,hs1] at this
  cases this
 have I7:=I6.track hH x6 h0 hp
 unfold sAs at ef
 by_cases hjl:j<ρ.length
 case neg=>rw[if_neg hjl] at ef; cases ef
 rw[if_pos hjl] at ef
 obtain⟨o2,e2,ef⟩:=XBs ef
 refine ET (X:=X.held ea) I7 hN hj (.inl hl) (v:=.ref ea) rfl (fun s7 I8=>?_) (.inr hl)
 have S2:=(S.grow x).grow (Ext.new (o:=exO cls ea) hH)
 have nh : ¬ Hd P0 fp ea:=fun z=>by
  rcases(S.grow x).hid ea z with⟨_,q⟩ | ⟨_,q⟩ <;> rw[hH] at q <;> cases q
 obtain⟨fp3,S3⟩:=S2.Arm (i:=j) (d:=exD c) (v:=.ref ea) (Abl.mpr ⟨ea,rfl,.inr (.inr (.inr (.inl <| .inl ⟨c,cls,rfl,hc,dZ nh eB⟩)))⟩) hjl
 have go:=fun {f:Flow} {s2:aG} {E':aE->aG->Prop} (h:SP (X.held ea) pins { nx:=fun σ' H'=>D.nx (σ'.set j none) H',rt:=D.rt,bk:=fun σ' H'=>D.bk (σ'.set j none) H',ct:=fun σ' H'=>D.ct (σ'.set j none) H' } f s2)=>(show aO (aP X.prog X.w) X.A (do bindName X.env nn .none; UF X.env nn hpos) (fun _ s₃=>SP X pins D f s₃) X.xe s2 from by
  cases f with
  | next=>obtain⟨σ',H',I',q⟩:=h; exact name_goes (I'.unheld I.ok) hN hj hl fun s3 I3=>⟨_,H',I3,q⟩
  | brk=>obtain⟨σ',H',I',q⟩:=h; exact name_goes (I'.unheld I.ok) hN hj hl fun s3 I3=>⟨_,H',I3,q⟩
  | cont=>obtain⟨σ',H',I',q⟩:=h; exact name_goes (I'.unheld I.ok) hN hj hl fun s3 I3=>⟨_,H',I3,q⟩
  | ret u=>obtain⟨v,σ',H',I',r,q⟩:=h; exact name_goes (I'.unheld I.ok) hN hj hl fun s3 I3=>⟨v,_,H',I3,r,q⟩)
 refine iV (hG ea pins s7 _ _ _ I8 ⟨B0,_,fp3,o2,S3,e2,?_⟩) (fun f s2 h=>go (E':=X.xe) h) (fun _ _ z=>z.elim)
 cases o2 with
 | nx ρ'=>cases ef; exact fun σ' H' fp' S'=>k _ _ fp' (S'.forget j)
 | bk ρ'=>cases ef; exact fun σ' H' fp' S'=>k _ _ fp' (S'.forget j)
 | ct ρ'=>cases ef; exact fun σ' H' fp' S'=>k _ _ fp' (S'.forget j)
 | rt d=>cases ef; exact k
noncomputable def vExpr:aA->SF:=fun _ ρ=>some (.nx ρ)
end
open PySem PySem.Spec PySem.Calls PyProof.Rows PySem.W PySem.Builtin PySem.Builtin.ObjectAttr PySem.Builtin.Getset_descriptor
section
variable {prog:bC}{w:aW}{A:bT}{E:aE->aG->Prop}{h:aQ}{g:Array uD}{d:Drawn}{t:Nat}{os:OsState}{K:Frag}{x C:aB}{ox:aY}{vs:Array aE}
structure XCls (K:Frag)(C:aB):Prop where
 ga:findIn K (.ref C) "__getattribute__" = some (some (.builtin "BaseException.__getattribute__"))
 gh:findIn K (.ref C) "__getattr__" = some none
 cl:findIn K (.ref C) "__class__" = some (some (.builtin "object.__class__"))
 mo:mroIn K C (.type "object")=some true
 mb:mroIn K C (.type "BaseException")=some true
 ic:hasDictIn K C=true
theorem Au4.ty {M:Model}{cls:aE}(e:Au4 x cls h):Looks M h (typeOf (.ref x)) cls:=by
 obtain⟨o,h1,rfl,_⟩:=e
 exact(Looks.ld h1).andThen .now
theorem YD {s:aG}{R:nO->aG->Prop}{tp:aE}(X:K.In s.heap)(I:Au4 x (.ref C) s.heap)(hm:mroIn K C (.type "object")=some true)(h:R (.ok (.ret (.ref C))) s) :
  iW (aP prog w) A (.call (.builtin "getset_descriptor.__get__") ⟨[.builtin "object.__class__",.ref x,tp],[]⟩) R s:=by
 obtain⟨hh,g,dr,t,os⟩:=s
 have L0:=I.ty (M:=aP prog w)
 have L1:=looks_mroIn (M:=aP prog w) X hm
 refine UH KF.slot_gs.plain KF.entry_gs (KF.slot_gs.check _ _ _ _ _ _ _ _ KF.type_class (KF.args_gs _ _ _) ?_)
 unfold Builtin.«getset_descriptor.__get__» descrGet
 rw[dga_obj]
 refine aK (aZ ?_)
 unfold descrGetter descrCheckInstance descrNameAndClass isInstance
 simp only[KF.owner_class]
 repeat lk
 refine⟨Code.quiet_builtin _ (by decide +kernel),qY KF.entry_class ?_⟩
 unfold Builtin.«object.__class__» shownTypeOf
 repeat lk
 exact h
theorem Mg {tk:Tok}{Q:Fin->aG->Prop}(X:K.In h)(c:XCls K C)(I:Au4 x (.ref C) h)(hq:Q (.done (.ret (.ref C))) ⟨h,g,d,t,os⟩) :
  aO (aP prog w) A (Builtin.«object.__getattribute__» ⟨[.ref x,.str "__class__" tk],[]⟩) Q E ⟨h,g,d,t,os⟩:=by
 have L1:Looks (aP prog w) h (tL (.ref C) "__class__") (some (.builtin "object.__class__")):=looks_findIn X c.cl
 have L0:=I.ty (M:=aP prog w)
 have f5:=F.typeOf_object_class
 have f6:=F.slot_gs_get.lookup
 have f7:=F.slot_gs_set.lookup
 repeat (any_goals (first | assumption | with_reducible refine L0.at ?_ | with_reducible refine L1.at ?_ | wp_step))
 refine YD (s:=⟨h,g,d,t,os⟩) X I c.mo ?_
 repeat (any_goals (first | assumption | wp_step))
theorem Ji {M:Model}{nameV:aE}{Q:Unit->aG->Prop}(X:K.In h)(c:XCls K C)(I:Au4 x (.ref C) h)(hq:Q () ⟨h,g,d,t,os⟩):aO M A (checkBuiltinCall "BaseException.__getattribute__" ⟨[.ref x,nameV],[]⟩) Q E ⟨h,g,d,t,os⟩:=by
 have L0:=I.ty (M:=M)
 have L2:=looks_mroIn (M:=M) X c.mb
 have hk:builtinKind "BaseException.__getattribute__" = some .slot:=by decide +kernel
 have hsplit:splitId "BaseException.__getattribute__" = some ("BaseException","__getattribute__"):=by decide +kernel
 have ha:=F.args_bexc_ga (.ref x) nameV
 simp only[checkBuiltinCall,hk,hsplit]
 refine aK ?_
 ·unfold isInstance
  repeat (first | with_reducible refine L0.at ?_ | with_reducible refine L2.at ?_ | wp_step)
  exact hq
theorem XJ {tk:Tok}{Q:aE->aG->Prop}(X:K.In h)(c:XCls K C)(I:Au4 x (.ref C) h)(hq:Q (.ref C) ⟨h,g,d,t,os⟩):aO (aP prog w) A (getAttrBy (.ref x) (.str "__class__" tk) false) Q E ⟨h,g,d,t,os⟩:=by
 have FB:=PySem.F.attrBase_ValueError
 have L0:=I.ty (M:=aP prog w)
 have L1:Looks (aP prog w) h (tL (.ref C) "__getattribute__") (some (.builtin "BaseException.__getattribute__")):=looks_findIn X c.ga
 have L2:Looks (aP prog w) h (tL (.ref C) "__getattr__") none:=looks_findIn X c.gh
 have f3:=FB.ga.bind (.ref x)
 have hx0:(false&&onTheHeap (xC "BaseException.__getattribute__"))=false:=rfl
 have hx2:(xC "BaseException.__getattribute__" == xC "object.__getattribute__")=false:=by decide +kernel
 have hx1:(onTheHeap (cZ C)&&xC "BaseException.__getattribute__" == xC "object.__getattribute__")=false:=by rw[hx2]; rfl
 repeat (any_goals (first | assumption | with_reducible refine L0.at ?_ | with_reducible refine L1.at ?_ | with_reducible refine L2.at ?_ | wp_step))
 refine UH FB.ga.plain F.entry_bexc_ga (Ji X c I (Mg X c I ?_))
 repeat (any_goals (first | assumption | wp_step))
theorem Ja {s:aG}{Q:Option aE->aG->Prop}(X:K.In s.heap)(c:XCls K C)(I:Au4 x (.ref C) s.heap)(hq:Q (some (.ref C)) { s with toks:=s.toks+1 }):aO (aP prog w) A (getAttr? (.ref x) "__class__") Q E s:=by
 obtain⟨h,g,d,t,os⟩:=s
 unfold getAttr? getAttrBy?
 repeat (any_goals (first | assumption | with_reducible apply XJ X c I | wp_step))
theorem Mv (c:XCls K C):KitX K (.ref x) (.ref C) (Au4 x (.ref C)) where
 ty:=fun _ _ _ e=>e.ty
 it:=fun _ _ X _=>by
  obtain⟨cdD,z0,_⟩:=any_some c.ic
  unfold clsIn at z0
  split at z0
  ·rename_i c' d' cd' sl' ho
   intro A' Q' E' s' k q
   unfold isType loadHead
   exact aK (wpAny_loadPart (k _ _ (X _ _ ho)) (aZ q))
  ·cases z0
 ne:=fun h tp dd its n sl X htp=>by
  obtain⟨cdD,z0,_⟩:=any_some c.ic
  refine Bool.eq_false_iff.mpr fun q=>?_
  have e:C=tp:=Value.ref.inj (beq_iff_eq.mp q)
  subst e
  unfold clsIn at z0
  split at z0
  ·rename_i c' d' cd' sl' ho
   have z:=(X _ _ ho).symm.trans htp
   cases z
  ·cases z0
 ca:=fun X e k=>Ja X c e k
end
def ExM (K:aH)(mg:aD->Option aE)(c T:aD):Prop:=∃ C D,cI K bU c=some (some (.ref C))/\mg T=some (.ref D)/\tV K (.ref C) (.ref D)=some true
def IsM (K:aH)(mg:aD->Option aE)(c T:aD)(b:Bool):Prop:=∃ C D,cI K bU c=some (some (.ref C))/\mg T=some (.ref D)/\XCls K C/\fY K (.ref C) (.ref D)=some b
def IsV (K:aH)(mg:aD->Option aE)(c T:aD)(U:String)(b:Bool):Prop:=∃ C,cI K bU c=some (some (.ref C))/\mg T=none/\XCls K C/\fY K (.ref C) (.type U)=some b
theorem yL {K:aH}{c:aD}{v:aE}(h:cI K bU c=some (some v)):cX K c=some v:=by unfold cX; rw[h]; rfl
section
variable {X:Cx}{c T:aD}
theorem wU (m:ExM X.K X.mg c T)(st:X.stack=X.env::X.outer)(fr:X.env.frame=some X.env.locals)(ex:X.ex=[])(gl:Gl X T)(db:(T == ("__debug__" : aD))=false):TryC X c T ((X.mg T).getD .none):=by
 obtain⟨C,D,h1,h2,h3⟩:=id m
 refine⟨st,fr,ex,gl,?_,db,fun cls hc=>?_⟩
 ·show X.mg T=some ((X.mg T).getD .none)
  rw[h2]; rfl
 ·rw[yL h1] at hc
  cases hc
  show tV X.K (.ref C) ((X.mg T).getD .none)=some true
  rw[h2]; exact h3
noncomputable def eL (c:aD)(b:Bool):aA->Option aA
 | .dict [(.none,.str c'),(.none,.none)]=>if c'=c then some (.bool b) else none
 | _=>none
theorem ZH {K:aH}{H:Hp}{v:V}(h:Aa6 K H (exD c) v) : ∃ a cls,v = .ref a/\cX K c=some cls/\H a=some (exO cls a):=by
 obtain⟨a,e,⟨kvs,_,r⟩ | ⟨ts,_,r⟩ | ⟨xs,h,r⟩ | r⟩:=Abl.mp h
 ·obtain⟨k',_,_,_,ek,_⟩:=Aay.mp r
  exact(LZ ek).elim
 ·obtain⟨_,_,_,_,⟨z,_⟩,_⟩:=Aa2.mp (Ac1.mp r).2
  cases z
 ·obtain⟨es,z,_⟩:=sO r
  cases z
 ·rcases r with r | r
  rotate_left
  ·obtain⟨_,c',C,dx,fs,z,hc,ha,r⟩:=Ahp.mp r
   obtain⟨f1,x1,r1,_,_,q1,_⟩:=Adf.mp r
   simp[Al0] at q1
  rcases r with⟨c',cls,z,h1,h2⟩ | ⟨c',z,h1⟩
  ·cases z
   exact⟨a,cls,e,h1,h2⟩
  ·cases z
theorem PF {C:aB}{cl:aE}{y:V}{b:Bool}(hc:cX X.K c=some (.ref C))(x:XCls X.K C)(hy : ∀ u,RelV y u->u=cl)(hk:fY X.K (.ref C) cl=some b):Ac8 X (.builtin "isinstance") (fun xs H Q=>∃ v,xs=[v,y]/\Aa6 X.K H (exD c) v/\Q (.bl b) H):=by
 intro pins s σ H xs us Q I r h
 obtain⟨v,rfl,rd,q⟩:=h
 obtain⟨u,w',rfl,ru,rw'⟩:=vals2 r
 obtain⟨a,cls,rfl,h1,h2⟩:=ZH rd
 cases ru
 rw[hc] at h1
 cases h1
 obtain rfl:=hy _ rw'
 exact kG (Mv x) I.kIn (I.hok _ _ h2).1 hk (fun z=>nomatch z) fun tk=>⟨.bl b,H,I.tok tk,rfl,q⟩
variable {e:aS}{f:EF}{p p2 pos:bL}{b:Bool}
theorem UB {y:V}(σ:St)(H:Hp)(Q:VK)(h:tF X.K 0 (eUn (eL c b) f) σ H Q):tCB (fun xs H Q=>∃ v,xs=[v,y]/\Aa6 X.K H (exD c) v/\Q (.bl b) H) (uO (tF X.K 0 f) (uO (tC y) BJ)) σ H Q:=by
 obtain⟨P,ρ,d,hP,rs,ef,k⟩:=h
 obtain⟨d1,e1,ef⟩:=XBs ef
 unfold eL at ef
 split at ef
 ·obtain⟨rfl,rfl⟩:=cT ef
  exact⟨P,ρ,_,hP,rs,e1,cG fun v H1 x1 r1=>⟨v,rfl,Aa6.ext Aax r1,k.zero x1 (Aak.mpr rfl)⟩⟩
 ·cases ef
theorem jH (hgl:Gl X "isinstance")(hm:X.mg "isinstance" = none)(m:IsM X.K X.mg c T b)(hg:Gl X T)(he:DE X e f)(hd:(T == ("__debug__" : aD))=false:=by decide)(hs1:bD (e::[.Name T p2]) X.env=(false,bI e X.env)::bD [.Name T p2] X.env:=by rfl)
  (hs2:bD (.Name T p2::[]) X.env=(false,bI (.Name T p2) X.env)::bD [] X.env:=by rfl) (hpl:(eM pos (bD [.Name T p2] X.env)).any (·.1)=false:=by rfl):DE X (.Call (.Name "isinstance" p) [e,.Name T p2] [] pos) (eUn (eL c b) f):=by
 obtain⟨C,D,h1,h2,h3,h4⟩:=m
 have hT:PE X (.Name T p2) (tC (.ref D)):=fun pins s σ H Q I h=>sG I hg h2 ⟨.ref D,H,I,rfl,h⟩ hd
 exact PE.imp (vP (PF (yL h1) h3 (y:=.ref D) (fun u r=>r) h4) hgl hm boot_isinstance (fJ he (fJ hT jE hs2) hs1) (by decide) (by decide) hs1 hpl) UB
theorem LP {U:String}(hgl:Gl X "isinstance")(hm:X.mg "isinstance" = none)(m:IsV X.K X.mg c T U b)(hg:Gl X T)(hv:iX T=some (.type U))(he:DE X e f)(hn:T ≠ "__name__":=by decide)(hd:(T == ("__debug__" : aD))=false:=by decide)(hs1:bD (e::[.Name T p2]) X.env=(false,bI e X.env)::bD [.Name T p2] X.env:=by rfl)
  (hs2:bD (.Name T p2::[]) X.env=(false,bI (.Name T p2) X.env)::bD [] X.env:=by rfl) (hpl:(eM pos (bD [.Name T p2] X.env)).any (·.1)=false:=by rfl):DE X (.Call (.Name "isinstance" p) [e,.Name T p2] [] pos) (eUn (eL c b) f):=by
 obtain⟨C,h1,h2,h3,h4⟩:=m
 exact PE.imp (vP (PF (yL h1) h3 (y:=.ty U) (fun u r=>r) h4) hgl hm boot_isinstance (fJ he (fJ (KI hg h2 hv hn hd) jE hs2) hs1) (by decide) (by decide) hs1 hpl) UB
end
theorem RY:iX "ValueError" = some (.type "ValueError"):=PyProof.Rows.Boot.«ValueError»
noncomputable def isFn (i:Nat)(c:aD)(ρ:List (Option aA)):Bool:=match aF i ρ with
 | some (.dict [(.none,.str c'),(.none,.bool false)])=>decide (c'=c)
 | _=>false
open PySem
structure Sub (P:bC)(w:aW)(it:aB)(own:List aB)(St:Nat->aQ->Prop)(xs:Array aE):Prop where
 mem:it∈own
 obj : ∀ k h,St k h -> ∀ c∈own,∃ o,h.get? c=some o
 keep : ∀ k h h',St k h->(∀ c∈own,∀ o,h.get? c=some o->h'.get? c=some o)->St k h'
 item : ∀ (A:bT) (E:aE->aG->Prop) (s:aG) (Q:aE->aG->Prop) (k:Nat) (x:aE),St k s.heap->xs[k]?=some x ->
  (∀ h',St (k+1) h'->rF it s.heap h'->Q x { s with heap:=h' })->aO (aP P w) A (Builtin.SmallTypes.nextOf (.ref it)) Q E s
 done : ∀ (A:bT) (E:aE->aG->Prop) (s:aG) (Q:aE->aG->Prop) (k:Nat),A.handled=none->St k s.heap->xs[k]?=none ->
  (∀ h' e,Heap.ExtBut it s.heap h'->(∃ o,h'.get? e=some o/\o.cls = .type "StopIteration")->E (.ref e) { s with heap:=h' })->aO (aP P w) A (Builtin.SmallTypes.nextOf (.ref it)) Q E s
def SqB (b:Bool)(h:aQ)(l:aB)(us:Array aE):Prop:=match b with
 | true=>h.IsList l us
 | false=>h.IsTuple l us
theorem SqB.keep {b:Bool}{h h':aQ}{l:aB}{us:Array aE}(q:SqB b h l us)(k : ∀ o,h.get? l=some o->h'.get? l=some o):SqB b h' l us:=by
 cases b with
 | true=>
  obtain⟨o,e,r⟩:=q
  exact⟨o,k o e,r⟩
 | false=>
  obtain⟨o,e,r⟩:=q
  exact⟨o,k o e,r⟩
def ItB (b:Bool)(j l:aB)(k:Nat)(h:aQ):Prop:=match b with
 | true=>h.IsListIter j l k
 | false=>h.IsTupleIter j l k
theorem ItB.get {b:Bool}{j l:aB}{k:Nat}{h:aQ}(q:ItB b j l k h) : ∃ o,h.get? j=some o /\ ∀ v,o.data ≠ .cell v:=by
 cases b with
 | true=>
  obtain⟨o,e,_,d⟩:=q
  exact⟨o,e,fun v z=>by rw[d] at z; cases z⟩
 | false=>
  obtain⟨o,e,_,d⟩:=q
  exact⟨o,e,fun v z=>by rw[d] at z; cases z⟩
theorem ItB.keep {b:Bool}{j l:aB}{k:Nat}{h h':aQ}(q:ItB b j l k h)(kp : ∀ o,h.get? j=some o->h'.get? j=some o):ItB b j l k h':=by
 cases b with
 | true=>
  obtain⟨o,e,r⟩:=q
  exact⟨o,kp o e,r⟩
 | false=>
  obtain⟨o,e,r⟩:=q
  exact⟨o,kp o e,r⟩
section
variable {X:Cx}{pins:List (aB×aY)}{σ:St}{H:Hp}{s:aG}
theorem Inv.turnM {t':Nat}{fp:List aB}{h':aQ}(I:Inv X pins σ H s)(hf : ∀ b∈fp,jC X pins H b)(k : ∀ b o,b∉fp->s.heap.get? b=some o->h'.get? b=some o):Inv X pins σ H { s with heap:=h',toks:=t' }:=by
 have out : ∀ b u,H b=some u->b∉fp:=fun b u e m=>by
  rw[(hf b m).1] at e
  cases e
 have loc:X.env.locals∉fp:=fun m=>(hf _ m).2.1 rfl
 refine I.step (fun b m=>⟨(hf b m).2.2.2.1,(hf b m).2.1,(hf b m).2.2.2.2.1,(hf b m).2.2.2.2.2⟩) (fun b o _ _ n e _=>k b o n e) (fun b o _ _ n e _=>⟨o.slots,k b o n e⟩) (fun _ _ _ _ n=>n)
  (fun b o n e=>⟨o,k b o n e⟩) (fun _ _ e=>e) (fun _ _ _ e=>e) (fun b ps e=>⟨#[],by rw[e]; simp⟩) (fun m hm=>?_) (fun b u e=>?_) I.bare
 ·obtain⟨o,es,ep,ho,r⟩:=hm
  exact⟨o,es,ep,k _ o loc ho,r⟩
 ·refine(I.hok b u e).stay (fun c v hc q=>k c v ?_ q) (fun _ q=>q) fun _ _ q=>q
  rcases hc with z | z
  ·rw[z]; exact out b u e
  ·exact out c _ z
end
theorem Ld {P:bC}{w:aW}{k:aN}{u:aE}(h:(eA P w).is k u=true):RelV (kV k) u:=by
 rcases lI h with⟨i,tk,e1,e2⟩ | ⟨x,tk,e1,e2⟩
 ·rw[e1,e2]; exact⟨tk,rfl⟩
 ·rw[e1,e2]; exact⟨tk,rfl⟩
theorem CL : ∀ {kvs:List (aN×V)} {vs:List (aN×aE)} {i:Nat} {kv:aN×V},KV kvs vs->kvs[i]?=some kv -> ∃ u,vs[i]?=some u/\kv.1=u.1/\RelV kv.2 u.2
 | _,_,0,_,.cons h _,e=>by
  cases e
  exact⟨_,rfl,h.1,h.2⟩
 | _,_,i+1,_,.cons _ t,e=>by
  obtain⟨u,g⟩:=CL t (by simpa using e)
  exact⟨u,by simpa using g⟩
noncomputable def uG (a:aB)(ep n:Nat):It:=
 ⟨fun i H=>∃ kvs kv,H a=some (.dK ep kvs)/\kvs.length=n/\kvs[i]?=some kv,fun i H x H'=>H'=H /\ ∀ kvs,H a=some (.dK ep kvs) -> ∃ kv,kvs[i]?=some kv/\x=kV kv.1,fun i H=>∃ kvs,H a=some (.dK ep kvs)/\kvs.length=n/\n≤i⟩
theorem Bw {P:bC}{w:aW}{K:aH}{tg:aS}(a it:aB)(ep n:Nat):Turn P w K tg (uG a ep n) [it] it (fun i h=>h.IsKeyIter it a i n ep) where
 mem:=dB.mpr rfl
 obj:=fun i h ⟨o,e,_,d⟩ b hb=>by
  rw[dB.mp hb]
  exact⟨o,e,fun v z=>by rw[d] at z; cases z⟩
 keep:=fun i h h' st k=>st.at fun o e=>k it (dB.mpr rfl) o e
 item:=by
  intro X hP hw hK hc i pins s σ H E I hf st hg
  subst hP hw hK
  obtain⟨kvs,kv,ha,hn,hk⟩:=hg
  subst hn
  obtain⟨z,nm,vs,r,d⟩:=pT I.hok (.inl ha)
  have hl:kvs.length=vs.length:=r.length
  obtain⟨u,hu,r1,r2⟩:=CL r hk
  obtain⟨uk,uv⟩:=u
  rw[hl] at st
  refine wpAny_pyNext_dict_item st d hu fun key h' hkey st' sb=>?_
  have I1:Inv X pins σ H { s with heap:=h' }:=I.turnM (t':=s.toks) hf fun b o nb e=>sb.extBut b o (fun q=>nb (dB.mpr q)) e
  obtain⟨o,e,c,dd⟩:=id st'
  have r1':kv.1=uk:=r1
  refine⟨key,rfl,rO (s:={ s with heap:=h' }) e c dd (by decide) ⟨kV kv.1,H,I1,by rw[r1']; exact Ld hkey,⟨rfl,fun kvs' h2=>?_⟩,by rw[hl]; exact st',fun b hb=>(hf b hb).1⟩⟩
  rw[ha] at h2
  cases h2
  exact⟨kv,hk,rfl⟩
 done:=by
  intro X hP hw hK hc i pins s σ H E I hf st hg
  subst hP hw hK
  obtain⟨kvs,ha,hn,hi⟩:=hg
  subst hn
  obtain⟨z,nm,vs,r,d⟩:=pT I.hok (.inl ha)
  have hl:kvs.length=vs.length:=r.length
  rw[hl] at st
  exact wpAny_pyNext_dict_end (I.ok.hd hc) st d (by simp; omega) fun h' eb=>⟨rfl,I.turnM (t':=s.toks) hf fun b o nb e=>eb b o (fun q=>nb (dB.mpr q)) e⟩
 self:=fun _ _ _ _ _ st h=>wpAny_pyIter_keyiter st h
section
variable {X:Cx}{tg l e:aS}
noncomputable def XQ (tl:TE):TI:=fun σ H R=>tl σ H fun x H1=>∃ a ep kvs,x = .ref a/\H1 a=some (.dK ep kvs)/\R (uG a ep kvs.length) H1
theorem Mq {tl:TE}(hl:PE X l tl):PI X tg l (XQ tl):=by
 intro pins s σ H R I h
 refine thn (hl pins s σ H _ I h) fun v s1 gh=>?_
 obtain⟨x,H1,I1,r1,q1⟩:=gh
 obtain⟨a,ep,kvs,rfl,ha,q⟩:=q1
 cases r1
 obtain⟨z,nm,vs,r,d⟩:=pT I1.hok (.inl ha)
 have hn:=r.length
 refine wpAny_pyIter_dict nm d ?_
 refine⟨s1.heap.objs.size,[s1.heap.objs.size],_,_,H1,rfl,I1.kept fun b o e=>cN _ e,Bw a _ ep kvs.length,⟨_,eY _ rfl,rfl,by rw[hn]; rfl⟩,fun b hb=>?_,q⟩
 rw[dB.mp hb]
 exact I1.fpOk (bX _) (I1.hok.fresh (bX _))
theorem NA {K:aH}{H:Hp} : ∀ {kds:List (aA×aA)} {kvs:List (aN×V)} {i:Nat} {kd:aA×aA},Abp K H kds kvs->kds[i]?=some kd -> ∃ kv,kvs[i]?=some kv/\kd.1=kD kv.1/\Aa6 K H kd.2 kv.2
 | (k,d)::ds,kvs,0,kd,r,e=>by
  obtain⟨k',y,t,rfl,ek,h1,h2⟩:=Aay.mp r
  cases e
  exact⟨(k',y),rfl,ek,h1⟩
 | (k,d)::ds,kvs,i+1,kd,r,e=>by
  obtain⟨k',y,t,rfl,ek,h1,h2⟩:=Aay.mp r
  obtain⟨kv,g1,g2⟩:=NA h2 (by simpa using e)
  exact⟨kv,by simpa using g1,g2⟩
end
theorem QY:entryFor table "dict.update.loop" = some Builtin.«dict.update.loop»:=entryFor_of_tree (by kernel_rfl)
theorem zS:plainId "dict.update.loop" = true:=by decide +kernel
theorem Gq:tL (.type "list") "keys" = pure none:=by rw[typeLookup_type,builtinLookup_eq_fast]; kernel_rfl
section
variable {prog:bC}{w:aW}{A:bT}{E:aE->aG->Prop}{s:aG}
set_option maxHeartbeats 4000000 in
theorem Jp {a:aB}{xs:Array aE}{k:Nat}{sl:Array (Option aE)}{Q:Option aE->aG->Prop}(hx:s.heap.get? a=some { cls:=.type "list",dict:=none,data:=.seq xs k,slots:=sl })(hA:A.handled=none)
  (h : ∀ h' tk,(∀ b o,s.heap.get? b=some o->h'.get? b=some o)->Q none { s with heap:=h',toks:=tk }):aO (aP prog w) A (getAttr? (.ref a) "keys") Q E s:=by
 obtain⟨hp,g,d,tk,os⟩:=s
 have hT : ∀ tk',(⟨hp,g,d,tk',os⟩:aG).TypeIs (.ref a) "list":=fun _=>⟨_,hx,rfl⟩
 have f1:=sub_AttributeError
 have f3:=VR.lookup
 have f4:=VR.bind (.ref a)
 have f5:=am_list_getattr_none
 unfold getAttr? getAttrBy? getAttrBy
 repeat (any_goals (first | assumption | exact hT _ | ((with_reducible show aO _ _ (call (xC "list.__getattribute__") _ _) _ _ _); refine call_meets VR (hT _) am_entry_list_getattribute (F.args_list_getattribute_2 _ _) (meets_getattribute_miss_list a xs k sl _ _ Gq (by decide +kernel)) ⟨hx,hA,fun h' tk' e hx'=>?_⟩) | wp_step))
 obtain⟨t',u',he⟩:=hx'.there
 unfold getattributeRaised
 repeat (any_goals (first | assumption | wp_step))
 exact h _ _ hx'.keeps
def Amx (h:aQ)(D:aB)(wr:List aB)(items:Array aE)(kvs:List (aN×aE)):Prop:=
 ∀ (j:Nat) v,items[j]?=some v -> ∃ b kv p,v = .ref b/\kvs[j]?=some p/\h.IsTuple b #[kv,p.2]/\(eA prog w).is p.1 kv=true/\b≠D/\b∉wr
theorem Amx.keep {h h':aQ}{D:aB}{wr:List aB}{items:Array aE}{kvs:List (aN×aE)}(q:Amx (prog:=prog) (w:=w) h D wr items kvs)(k : ∀ b o,b≠D->b∉wr->h.get? b=some o->h'.get? b=some o):Amx (prog:=prog) (w:=w) h' D wr items kvs:=fun j v e=>by
 obtain⟨b,kv,p,rfl,e1,⟨o,e2,e3⟩,e4,e5,e6⟩:=q j v e
 exact⟨b,kv,p,rfl,e1,⟨o,k b o e5 e6 e2,e3⟩,e4,e5,e6⟩
theorem QV : ∀ (more kvs:List (aN×aE)),(mH kvs more).length≤kvs.length+more.length
 | [],kvs=>bX _
 | p::r,kvs=>by
  have h1:=QV r (qU kvs p.1 p.2)
  have h2:(qU kvs p.1 p.2).length≤kvs.length+1:=by
   unfold qU
   split <;> simp
  show(mH (qU kvs p.1 p.2) r).length≤_
  rw[eE]
  omega
theorem Cq {R:nO->aG->Prop}{I:aB}{fp wr:List aB}{G:Array uD->Array uD->Prop}{n:Nat}{items:Array aE}{St:Nat->aG->Prop}
  (W:WalksS prog w A.in1 I fp wr G n (fun i v=>items[i]?=some v) St) (D:aB) (hDf:D∉fp) (kvs:List (aN×aE)) (hn:n≤sizeLine) (hkl:kvs.length=n) :
  ∀ (k i:Nat) (s:aG),n - i=k->i≤n->St i s->s.heap.DictOf (eA prog w) D (mH [] (kvs.take i))->Amx (prog:=prog) (w:=w) s.heap D wr items kvs ->
   (∀ s',Moved (D::wr) G s s'->s'.heap.DictOf (eA prog w) D (mH [] kvs)->R (.ok (.ret .none)) s') ->
   iW (aP prog w) A (.builtin "dict.update.loop" ⟨[.ref D,.ref I,rawInt (i:Int),.none],[]⟩) R s:=by
 have hDw:D∉wr:=fun z=>hDf (W.sub _ z)
 have more : ∀ b∈wr,b∈D::wr:=fun b z=>cA _ z
 intro k
 induction k with
 | zero=>
  intro i s hk hi hst hS hT hR
  obtain rfl:i=n:=by omega
  refine qY QY ?_
  rw[xS zS _]
  refine aK (W.done s _ _ hst fun s' hm=>?_)
  refine aK (aZ (aZ (hR s' (hm.mono more) ?_)))
  obtain⟨o,es,ep,ho,r⟩:=hS
  rw[← hkl,List.take_length] at r
  exact⟨o,es,ep,hm.heap D o hDw ho,r⟩
 | succ k ih=>
  intro i s hk hi hst hS hT hR
  have hlt:i<n:=by omega
  refine qY QY ?_
  rw[xS zS _]
  refine aK (W.item i s _ _ hlt hst fun v s' hPi hst' hm=>?_)
  have hT':=hT.keep fun b o _ h2 e=>hm.heap b o h2 e
  obtain⟨b,kv,p,rfl,e1,tb,e4,e5,e6⟩:=hT' i v hPi
  have hS':s'.heap.DictOf (eA prog w) D (mH [] (kvs.take i)):=by
   obtain⟨o,es,ep,ho,r⟩:=hS
   exact⟨o,es,ep,hm.heap D o hDw ho,r⟩
  have hstep:mH [] (kvs.take (i+1))=qU (mH [] (kvs.take i)) p.1 p.2:=by
   rw[List.take_add_one,e1]
   simp[mH,List.foldl_append]
  have hlen:(mH [] (kvs.take i)).length≤sizeLine:=by
   have:=QV (kvs.take i) []
   rw[pH] at this
   simp at this
   omega
  refine aK (iG (aK (wpAny_tryCatch ?_)))
  unfold Builtin.Dict.pairItems
  refine aK (tJ tb.typeIs ?_)
  obtain⟨ob,g1,g2,nb,g3⟩:=tb
  refine aK (wpAny_seqItems g1 g3 (aZ ?_))
  refine iG (wpAny_dictSet_pairs e4 hS' (fun h' d' sb=>?_) hlen)
  refine aZ ⟨AM zS _,?_⟩
  refine ih (i+1) _ (by omega) hlt (W.frame _ s' _ _ hst' (AW _) fun c hc o e=>?_) (by rw[hstep]; exact d') (hT'.keep fun b o h1 _ e=>(sb.2 b h1).trans e) fun s'' hm'' S4=>?_
  ·exact(sb.2 c (fun z=>hDf (z ▸ hc))).trans e
  ·exact hR s'' (Moved.trans W.gtrans ((hm.mono more).then_heap (AW _) fun c o hc e=>(sb.2 c (fun z=>hc (z ▸ bY))).trans e) hm'') S4
theorem Ek {l:aB}{items:Array aE}{nl:Nat}{sl:Array (Option aE)}{kvs:List (aN×aE)}{Q:aE->aG->Prop}(hh:A.handled=none)(hl:s.heap.get? l=some { cls:=.type "list",dict:=none,data:=.seq items nl,slots:=sl })
  (hkl:kvs.length=items.size) (hz:items.size≤sizeLine) (hp : ∀ (j:Nat) v,items[j]?=some v -> ∃ b kv p,v = .ref b/\kvs[j]?=some p/\s.heap.IsTuple b #[kv,p.2]/\(eA prog w).is p.1 kv=true)
  (h : ∀ h' tk,h'.DictOf (eA prog w) s.heap.objs.size (mH [] kvs)->(∀ b o,s.heap.get? b=some o->h'.get? b=some o)->Q (.ref s.heap.objs.size) { s with heap:=h',toks:=tk }) :
  aO (aP prog w) A (call (.type "dict") [.ref l]) Q E s:=by
 refine callType_codes (Q₁:=fun obj s₁=>obj = .ref s.heap.objs.size/\s₁ = { s with heap:=s.heap.push { cls:=.type "dict",data:=.dict #[] } }) F.kt_called_dict (F.kt_typeCall_dict_1 _) F.entry_dict_init (kt_code_dict_new _ ⟨rfl,rfl⟩) ?_
 rintro obj s₁ ⟨rfl,rfl⟩
 have dn:(s.heap.push { cls:=.type "dict",data:=.dict #[] }).DictOf (eA prog w) s.heap.objs.size []:=Heap.DictOf.new s.heap
 have l1:(s.heap.push { cls:=.type "dict",data:=.dict #[] }).get? l=some { cls:=.type "list",dict:=none,data:=.seq items nl,slots:=sl }:=cN _ hl
 refine⟨dn.typeIs,F.args_dict_init_2 _ _,?_⟩
 unfold Builtin.«dict.__init__»
 refine aK ?_
 unfold Builtin.Dict.selfAndRest
 refine aK (UC dn.typeIs (aZ ?_))
 show aO _ _ (Builtin.Dict.updateFrom "dict.__init__" s.heap.objs.size (.ref l) [] .none) _ _ _
 unfold Builtin.Dict.updateFrom
 refine aK (tJ (T:="list") ⟨_,l1,rfl⟩ ?_)
 rw[if_pos (by decide)]
 refine aK (Jp l1 (by simp[hh]) fun h1 tk k1=>?_)
 show aO _ _ (rule _ >>= fun _=>pyIter (.ref l) >>= _) _ _ _
 have l2:h1.get? l=some { cls:=.type "list",dict:=none,data:=.seq items nl,slots:=sl }:=k1 _ _ l1
 have L2:h1.IsList l items:=⟨_,l2,rfl,nl,rfl⟩
 refine aK (wpAny_rule (aK (HY L2 (aZ ⟨AM zS _,?_⟩))))
 have lS:l<s.heap.objs.size:=cD hl
 have d1:h1.DictOf (eA prog w) s.heap.objs.size []:=by
  obtain⟨o,es,ep,ho,r⟩:=dn
  exact⟨o,es,ep,k1 _ _ ho,r⟩
 have sD:s.heap.objs.size<h1.objs.size:=by
  obtain⟨o,es,ep,ho,r⟩:=d1
  exact cD ho
 have nI:l≠h1.objs.size:=dA (IP lS sD)
 have nS:s.heap.objs.size∉[h1.objs.size,l]:=fun z=>by
  rcases cJ.mp z with z | z
  ·exact absurd z (dA sD)
  ·exact absurd (dB.mp z) (rC lS)
 have old : ∀ b o,s.heap.get? b=some o->(h1.push { cls:=.type "list_iterator",data:=.fields #[.ref l,.int 0 0] }).get? b=some o:=fun b o e=>cN _ (k1 _ _ (cN _ e))
 refine Cq (w:=w) ((Walks.list (by simp[hh]) _ l nI items).toS) s.heap.objs.size nS kvs hz hkl (items.size - 0) 0 _ rfl (fH _) ⟨⟨_,eY _ rfl,rfl,rfl⟩,L2.push _⟩ (d1.push _) ?_ fun s' hm S'=>?_
 ·intro j v e
  obtain⟨b,kv,p,rfl,e1,⟨o,e2,e3⟩,e4⟩:=hp j v e
  have lb:b<s.heap.objs.size:=cD e2
  exact⟨b,kv,p,rfl,e1,⟨o,old b o e2,e3⟩,e4,dA lb,fun z=>absurd (dB.mp z) (dA (IP lb sD))⟩
 ·obtain⟨h',g',d',tk',os'⟩:=s'
  obtain rfl:g'=s.gens:=hm.gens
  obtain rfl:d'=s.drawn:=hm.drawn
  obtain rfl:os'=s.os:=hm.os
  refine⟨rfl,h h' tk' S' fun b o e=>?_⟩
  have lb:b<s.heap.objs.size:=cD e
  refine hm.heap b o (fun z=>?_) (old b o e)
  rcases cJ.mp z with z | z
  ·exact absurd z (dA lb)
  ·exact absurd (dB.mp z) (dA (IP lb sD))
end
theorem ZV {α β:Type}{R R':α->β->Prop}(f : ∀ a b,R a b->R' a b) : ∀ {as:List α} {bs:List β},dI R as bs->dI R' as bs:=by
 intro as bs h
 induction h with
 | nil=>exact .nil
 | cons h _ ih=>exact .cons (f _ _ h) ih
section
variable {X:Cx}
abbrev HG (K:aH)(H:Hp)(ys:List V)(ps:List (aN×V)):Prop:=dI (fun y (p:aN×V)=>∃ b,y=V.ref b/\SqT K H b [kV p.1,p.2]) ys ps
theorem Ou {pins:List (aB×aY)}{σ:St}{H:Hp}{s:aG}(I:Inv X pins σ H s) : ∀ {ys:List V} {ps:List (aN×V)} {its:List aE},HG X.K H ys ps->Vals ys its ->
  ∃ kvs:List (aN×aE),KV ps kvs/\kvs.length=its.length /\ ∀ (j:Nat) v,its[j]?=some v -> ∃ b kv p,v = .ref b/\kvs[j]?=some p/\s.heap.IsTuple b #[kv,p.2]/\(eA X.prog X.w).is p.1 kv=true:=by
 intro ys ps its hp
 induction hp generalizing its with
 | nil=>
  intro r
  cases r
  exact⟨[],.nil,rfl,fun j v e=>by simp at e⟩
 | @cons y p ys ps hq t ih=>
  intro r
  obtain⟨b,e,q⟩:=hq
  subst e
  cases r with
  | cons r rr=>
   cases r
   obtain⟨kvs,h1,h2,h3⟩:=ih rr
   obtain⟨us,rv,tb,_⟩:=I.tuple q
   cases rv with
   | cons ra rb=>
    cases rb with
    | cons rb rc=>
     cases rc
     refine⟨(p.1,_)::kvs,.cons ⟨rfl,rb⟩ h1,by simp[h2],fun j v e=>?_⟩
     cases j with
     | zero=>
      cases e
      exact⟨b,_,(p.1,_),rfl,rfl,tb,rP ra⟩
     | succ j=>exact h3 j v (by simpa using e)
theorem Fl (hc:X.calm=true):Ac8 X (.type "dict") (fun xs H Q=>∃ p ys ps,xs=[.ref p]/\SqL X.K H p ys/\HG X.K H ys ps /\ ∀ q n,H q=none->Q (.ref q) (upd H q (.dK n (oH [] ps)))):=by
 intro pins s σ H xs us Q I r h
 obtain⟨p,ys,ps,rfl,hp,hv,q⟩:=h
 obtain⟨u,rfl,ru⟩:=vals1 r
 cases ru
 obtain⟨its,rv,⟨o,n,ho,hc1,hc2,hc3⟩,hz⟩:=I.list hp
 obtain⟨kvs,h1,h2,h3⟩:=Ou I hv rv
 have e1:=rv.length
 obtain⟨c,dct,dat,sl⟩:=o
 simp only at hc1 hc2 hc3
 subst hc1 hc2 hc3
 refine Ek (I.ok.hd hc) ho (by rw[dM]; exact h2) (by rw[dM]; omega) (fun j v e=>h3 j v (by simpa using e)) fun h' tk dd hk=>?_
 obtain⟨m,da⟩:=dd.dictAt
 have lz:(oH [] ps).length≤sizeLine:=by
  have l1:=RZ ps []
  have l2:=nT h1
  simp at l1
  omega
 exact⟨.ref s.heap.objs.size,_,I.laid hk (bX _) (TX lz (beq_eq_false_iff_ne.mpr (jL (dA I.big))) (h1.merge .nil) da),rfl,q _ m I.fresh⟩
noncomputable def qL:List aA->Option (List (aN×aA))
 | []=>some []
 | .tuple [k,d]::r=>(cU k).bind fun k=>(qL r).bind fun ps=>some ((k,d)::ps)
 | _::_=>none
noncomputable def pY (ps:List (aN×aA))(kds:List (aA×aA)):List (aA×aA):=ps.foldl (fun acc p=>putD acc p.1 p.2) kds
noncomputable def pZ:List aA->Option aA
 | [.list ds]=>(qL ds).bind fun ps=>some (.dict (pY ps []))
 | _=>none
theorem Cw {K:aH}{H:Hp} : ∀ {ps:List (aN×aA)} {qs:List (aN×V)},dI (fun(p:aN×aA) (q:aN×V)=>p.1=q.1/\Aa6 K H p.2 q.2) ps qs -> ∀ {kds:List (aA×aA)} {kvs:List (aN×V)},Abp K H kds kvs->Abp K H (pY ps kds) (oH kvs qs):=by
 intro ps qs hp
 induction hp with
 | nil=>exact fun r=>r
 | @cons p q ps qs hq t ih=>
  intro kds kvs r
  have:=ih (Km (k:=p.1) r hq.2)
  show Abp K H (pY _ (putD kds p.1 p.2)) (oH (putK kvs q.1 q.2) _)
  rw[← hq.1]
  exact this
theorem Ah {K:aH}{H:Hp} : ∀ {ds:List aA} {ps:List (aN×aA)} {ys:List V},qL ds=some ps->Aar K H ds ys -> ∃ qs:List (aN×V),dI (fun(y:V) (q:aN×V)=>∃ b,y=V.ref b/\H b=some (.tup [kV q.1,q.2])) ys qs/\dI (fun(p:aN×aA) (q:aN×V)=>p.1=q.1/\Aa6 K H p.2 q.2) ps qs:=by
 intro ds
 induction ds with
 | nil=>
  intro ps ys e r
  cases e
  rw[Aan.mp r]
  exact⟨[],.nil,.nil⟩
 | cons z ds ih=>
  intro ps ys e r
  cases z with
  | tuple zs=>
   cases zs with
   | nil=>cases e
   | cons k zs=>
    cases zs with
    | nil=>cases e
    | cons d zs=>
     cases zs with
     | cons _ _=>cases e
     | nil=>
      obtain⟨key,e1,e⟩:=XBs (show((cU k).bind fun k=>(qL ds).bind fun ps=>some ((k,d)::ps))=some ps from e)
      obtain⟨ps',e2,e⟩:=XBs e
      cases e
      obtain⟨v,t,rfl,r1,r2⟩:=Aad.mp r
      obtain⟨qs,h1,h2⟩:=ih e2 r2
      obtain⟨b,xs,rfl,hb,rx⟩:=Aaw.mp r1
      obtain⟨u1,t1,rfl,a1,a2⟩:=Aad.mp rx
      obtain⟨u2,rfl,a3⟩:=fV a2
      rw[zK e1 a1] at hb
      exact⟨(key,u2)::qs,.cons ⟨b,rfl,hb⟩ h1,.cons ⟨rfl,a3⟩ h2⟩
  | _=>cases e
theorem Fq {K:aH}:CallD K 1 (fun xs H Q=>∃ p ys ps,xs=[.ref p]/\SqL K H p ys/\HG K H ys ps /\ ∀ q n,H q=none->Q (.ref q) (upd H q (.dK n (oH [] ps)))) pZ:=fun P H xs ds d Q hP r e k=>by
 unfold pZ at e
 split at e
 ·obtain⟨ps,e1,e2⟩:=XBs e
  cases e2
  obtain⟨v,rfl,r'⟩:=fV r
  obtain⟨q,ys,rfl,hq,rr⟩:=Abf.mp r'
  obtain⟨qs,h1,h2⟩:=Ah e1 rr
  refine⟨q,ys,qs,rfl,Aax.sqL hq,?_,fun l n hn=>k.dic hP hn (Cw h2 (Abn.mpr rfl))⟩
  exact ZV (fun y p ⟨b,e,hb⟩=>⟨b,e,SqT.of (Aax _ _ hb)⟩) h1
 ·cases e
end
abbrev TE3:=List aA×aB×aE
section
variable {X:Cx}
theorem Ajf.ext {H H':Hp}(x:Ext H H'){k:List aA}{c:aB}(t:Ajf H k c):Ajf H' k c:=t.keep fun b xs e=>x _ _ e
end
theorem Abx.length {K:aH}{H:Hp} : ∀ {kds:List (aA×aA)} {ts:List (List aA×V)},Abx K H kds ts->ts.length=kds.length
 | [],ts,h=>by rw[Abz.mp h]; rfl
 | (k,d)::r,ts,h=>by
  obtain⟨k',x,rr,rfl,_,_,h2⟩:=Aa2.mp h
  simp[Abx.length h2]
section
variable {X:Cx}{H0:Hp}{P0:aB->Prop}{n0:Nat}{x:aD}{e k:aS}{f g:EF}{pos px apos:bL}
theorem Ag:DF 9 X (.Dict [] [] pos) (eC (.dict [(.none,.none)])):=PE.imp NP fun σ H Q gh=>by
 obtain⟨P,ρ,d,hP,rs,ef,k⟩:=gh
 cases ef
 refine fun q hq=>k (.ref q) (upd H q (.dT 0 [])) [q] (Ext.new hq) (fS.mpr ⟨by simp,.nil⟩) (fun a m=>?_) (bE (.inl ⟨[],q,(0,[]),rfl,rfl,eB,rfl,fun kd m=>by simp at m,Abz.mpr rfl⟩):_ \/ Afb _ _ _ _ _ _ \/ _)
 rw[dB.mp m]
 exact⟨hq,_,eB⟩
theorem Dd {prog:bC}{w:aW}(d:aB)(hd:(d == gW)=false) :
  MeetsIn prog w (Builtin.«dict.__len__» ⟨[.ref d],[]⟩) (fun _ R s=>∃ xs,s.heap.DictOfH (mC prog w) d xs/\R (.ok (.ret (.int xs.length s.toks))) { s with toks:=s.toks+1 }):=
 .of_wp fun A R s gh=>by
  obtain⟨xs,hm,h⟩:=gh
  obtain⟨o,es,ep,ho,hc,hdat,hes,_,_⟩:=hm
  show aO _ _ (dictSize d >>= _) _ _ s
  unfold dictSize
  refine aK (aK (wX ho hdat (aZ ?_)))
  refine aK (wpAny_pendingCount_other hd (wpAny_ret_mkInt ?_))
  have:=size_of_entries hes
  rw[Nat.add_zero,this]
  exact h
theorem WD {prog:bC}{w:aW}{A:bT}{E:aE->aG->Prop}{s:aG}{d:aB}{xs:List TE3}{Q:aE->aG->Prop}(hd:(d == gW)=false)(hm:s.heap.DictOfH (mC prog w) d xs)(hz:(xs.length:Int)<2 ^ 63)(h : ∀ t s',s' = { s with toks:=s.toks+1+1 }->Q (.int xs.length t) s') :
  aO (aP prog w) A (call (.builtin "len") [.ref d]) Q E s:=by
 refine VT kind_len plain_len entry_len (args_len1 _) ?_
 unfold Builtin.«len»
 refine aK (aZ ?_)
 refine aK (AJ hm.typeIs F.slot_dict_len (call_meetsIn F.slot_dict_len hm.typeIs F.entry_dict_len (F.args_dict_len_1 _) (Dd d hd) ⟨xs,hm,?_⟩))
 refine aK (iG (aZ ?_))
 refine aK (wpAny_letGo ?_)
 rw[if_neg (by omega)]
 rw[if_neg (by omega)]
 exact aK (wpAny_mkInt (aZ ⟨_,rfl,h _ _ rfl⟩))
theorem vQ:Ac8 X (.builtin "len") (fun xs H Q=>∃ a ep ts,xs=[V.ref a]/\H a=some (.dT ep ts)/\Q (.int ts.length) H):=by
 intro pins s σ H xs us Q I r h
 obtain⟨a,ep,ts,rfl,ha,q⟩:=h
 obtain⟨u,rfl,ru⟩:=vals1 r
 cases ru
 obtain⟨z,hd,ys,kt,dd⟩:=HE I.hok ha
 have e:=nT kt
 refine WD hd dd (by rw[← e]; rw[tN] at z; omega) fun t s' es=>?_
 subst es
 exact⟨.int ts.length,H,I.tok _,⟨t,by rw[e]⟩,q⟩
noncomputable def lD:List aA->Option aA
 | [.dict ((.none,.none)::kds)]=>some (.int kds.length)
 | _=>none
theorem vX {K:aH}:CallD K 0 (fun xs H Q=>∃ a ep ts,xs=[V.ref a]/\H a=some (.dT ep ts)/\Q (.int ts.length) H) lD:=fun P H xs ds d Q hP r e k=>by
 unfold lD at e
 split at e
 ·cases e
  obtain⟨v,rfl,r'⟩:=fV r
  obtain⟨a,ts,rfl,ha,rr⟩:=(oU).mp r'
  exact⟨a,ts.1,ts.2,rfl,Aax _ _ ha,k.zero Ext.refl (Aao.mpr (by rw[rr.length]))⟩
 ·cases e
end
noncomputable def iO (c:aD):aA->Option (aA×aA)
 | .dict [(.none,.str c'),(.none,.tuple [.str a,W]),(.none,.tuple [.str b,D])]=>if c'=c/\a = "wide" /\ b = "held" then some (W,D) else none
 | _=>none
theorem vJ {c:aD}{d:aA}{p:aA×aA}(h:iO c d=some p):d=bK c p.1 p.2:=by
 unfold iO at h
 split at h
 ·obtain⟨⟨rfl,rfl,rfl⟩,rfl⟩:=cT h
  rfl
 ·cases h
theorem vM (c:aD)(W D:aA):iO c (bK c W D)=some (W,D):=by simp[iO,bK]
noncomputable def mQ (c:aD)(d:aA):Option aA:=(iO c d).map (·.1)
noncomputable def dX (c:aD)(d:aA):Option aA:=(iO c d).map (·.2)
structure InsC (K:aH)(c:aD):Prop where
 ex : ∃ C,cX K c=some (.ref C)/\Cls K C/\Ajy K C "wide" /\ Ajy K C "held"
theorem lZ {K:aH}{c:aD}{C C':aB}(h:cX K c=some (.ref C))(h':cX K c=some (.ref C')):C'=C:=by
 rw[h] at h'
 injection h' with h'
 injection h' with h'
 exact h'.symm
theorem OV (w q:V):iI ("wide" : aD) [(("wide" : aD),w),("held",q)]=some w:=by simp[iI]
theorem zJ (w q:V):iI ("held" : aD) [(("wide" : aD),w),("held",q)]=some q:=by
 have:(("held" : aD) == ("wide" : aD))=false:=by decide +kernel
 simp[iI,this]
section
variable {X:Cx}{e o:aS}{es:List aS}{f fo:EF}{fa:AF}{c m:aD}{pos apos:bL}{k n:Nat}{ps:List aD}{F:FX}
theorem DM (T:InsC X.K c)(h:DE X e f)(hb:pE e "wide" X.env (bI e X.env)=bI e X.env:=by rfl):DE X (.Attribute e "wide" pos) (eUn (mQ c) f):=
 PE.imp (rV h hb) fun σ H Q gh=>by
  obtain⟨P,ρ,d,hP,rs,ef,k⟩:=gh
  obtain⟨d1,e1,ef⟩:=XBs ef
  refine⟨P,ρ,d1,hP,rs,e1,cG fun v H1 x1 r1=>?_⟩
  obtain⟨p,ep,rfl⟩:=tX.mp ef
  rw[vJ ep] at r1
  obtain⟨C,dx,a,w,q,rfl,hc,ha,h1,h2⟩:=zD r1
  obtain⟨C',c1,c2,c3,c4⟩:=T.ex
  obtain rfl:=lZ c1 hc
  exact⟨a,_,dx,_,w,rfl,Aax _ _ ha,c2,c3,OV w q,k.zero x1 h1⟩
theorem mT (T:InsC X.K c)(h:DE X e f)(hb:pE e "held" X.env (bI e X.env)=bI e X.env:=by rfl):DE X (.Attribute e "held" pos) (eUn (dX c) f):=
 PE.imp (rV h hb) fun σ H Q gh=>by
  obtain⟨P,ρ,d,hP,rs,ef,k⟩:=gh
  obtain⟨d1,e1,ef⟩:=XBs ef
  refine⟨P,ρ,d1,hP,rs,e1,cG fun v H1 x1 r1=>?_⟩
  obtain⟨p,ep,rfl⟩:=tX.mp ef
  rw[vJ ep] at r1
  obtain⟨C,dx,a,w,q,rfl,hc,ha,h1,h2⟩:=zD r1
  obtain⟨C',c1,c2,c3,c4⟩:=T.ex
  obtain rfl:=lZ c1 hc
  exact⟨a,_,dx,_,q,rfl,Aax _ _ ha,c2,c4,zJ w q,k.zero x1 h2⟩
theorem pM {ce:aS}(h:CallAt X ce n F fa):DF n X ce (aR (F none) fa):=fun pins s σ H Q I gh=>by
 obtain⟨P,ρ,d,hP,rs,ef,k⟩:=gh
 obtain⟨ds,e1,ef⟩:=XBs ef
 exact h I hP rs e1 ef k fun H1 s1 v s' I1 x1 hc=>by
  obtain⟨_,_,_,_,_,_,_,_,_,_,_,_,_,_,⟨c',z,_⟩,_⟩:=hc
  cases z
theorem uN {ce:aS}{H0:Hp}{P0:aB->Prop}{z:Option aD}(m:Md)(hz : ∀ c,z=some c->XOk X H0 c)(h:CallAt X ce n F fa):PE X ce (tE X.K H0 P0 n m (aR (F z) fa)):=by
 cases z with
 | none=>exact ev m (pM h)
 | some c=>
  intro pins s σ H Q I hq
  obtain⟨B0,ρ0,fp,d0,S,_,_⟩:=id hq
  obtain⟨P,ρ,d,hP,rs,ef,k⟩:=xX m σ H Q hq
  obtain⟨ds,e1,ef⟩:=XBs ef
  exact h I hP rs e1 ef k fun H1 s1 v s' I1 x1 hc=>(hz c rfl).pass pins σ H1 s1 v s' I1 (hc.imp fun cls H' ⟨⟨c',z1,z2⟩,z3⟩=>by
   cases z1
   exact⟨z2,S.ext.trans (x1.trans z3)⟩)
theorem TB {fa':aB}{fd:dS}{pins:List (aB×aY)}{σ:St}{H1:Hp}{s1:aG}{us:List aE}{vs:List V}{P:aB->Prop}{ds:List aA}{d:aA}{z:Option aD}{Q:VK}(Fk:FnOk X.prog X.w X.K X.mg X.base (CXR X.base X.prog X.w) k fa' fd ps (spX X.K n F))(hr:Room k X.A)(hb:Binds X.K fd ps [])
  (I1:Inv X pins σ H1 s1) (r:Vals vs us) (hP:Hid P H1) (rd:Aar X.K (hid H1 P) ds vs) (ef:F z ds=some d) (k':Res X.K P n d H1 Q)
  (hx : ∀ v s',CXR X.base X.prog X.w X.stack H1 s1 (fun cls _ H'=>(∃ c,z=some c/\cX X.K c=some cls)/\Ext H1 H') v s'->X.xe v s'):aO (aP X.prog X.w) X.A (call (.ref fa') us) (EP X pins σ Q) X.xe s1:=by
 have q:spX X.K n F vs H1 Q (fun cls _ H'=>(∃ c,z=some c/\cX X.K c=some cls)/\Ext H1 H'):=⟨P,ds,d,z,hP,rd,ef,k',fun c hc cls H' e2 x2=>⟨⟨c,hc,e2⟩,x2⟩⟩
 have hl:us.length=ps.length:=by rw[← r.length]; exact Fk.len _ _ _ _ q
 have hbs:rK s1 fd ⟨us,[]⟩ (ps.zip us):=by
  have:=hb s1 us I1.kIn (by simpa using hl)
  simpa using this
 refine wpAny_call (qX (Fk.run X.A X.stack s1 H1 ⟨us,[]⟩ us vs Q _ hr I1.env0 hbs r q) fun r s' hq=>?_)
 cases r with
 | error e=>exact hx e s' hq
 | ok fl=>
  cases fl with
  | ret u=>exact I1.after hq
  | next=>exact jB hq
  | brk=>exact jB hq
  | cont=>exact jB hq
structure MethX (P:bC)(w:aW)(K:aH)(mg:aD->Option aE)(base:aQ)(c m:aD)(k:Nat)(ps:List aD)(sp:Sp):Prop where
 ex : ∃ C f fd,cX K c=some (.ref C)/\Cls K C/\Meth K C m f/\FnOk P w K mg base (CXR base P w) k f fd ps sp/\Binds K fd ps []
noncomputable def eF (c:aD)(fo:EF)(fa:AF):AF:=fun ρ=>(fo ρ).bind fun d=>if (iO c d).isSome=true then(fa ρ).bind fun ds=>some (d::ds) else none
theorem QH {ρ:List (Option aA)}{ds:List aA}(h:eF c fo fa ρ=some ds) : ∃ W D ds',fo ρ=some (bK c W D)/\fa ρ=some ds'/\ds=bK c W D::ds':=by
 obtain⟨d,e1,h⟩:=XBs h
 by_cases q:(iO c d).isSome=true
 ·rw[if_pos q] at h
  obtain⟨ds',e2,h⟩:=XBs h
  cases h
  obtain⟨p,ep⟩:=xH.mp q
  have:=vJ ep
  subst this
  exact⟨_,_,ds',e1,e2,rfl⟩
 ·rw[if_neg q] at h; cases h
theorem jF {pl:Sem Bool}(M:MethX X.prog X.w X.K X.mg X.base c m k ps (spX X.K n F))(hr:Room k X.A)(ho:DE X o fo)(ha:DA X (e::es) fa)(hlk : ∀ w q:V,iI m [(("wide" : aD),w),("held",q)]=none:=by intro _ _; rfl)
  (hst:bD (e::es) X.env=(false,bI e X.env)::bD es X.env:=by rfl) (hpl:(eM pos (bD es X.env)).any (·.1)=false:=by rfl)
  (ht:bI (.Call (.Attribute o m apos) (e::es) [] pos) X.env=(do
   let ov ← bI o X.env
   nM apos.atName
   let (f,first) ← kB [ov] (wZ ov m pl)
   callWith pos f first (eM pos (bD (e::es) X.env)) (tT pos (tP [] X.env))):=by rfl):CallAt X (.Call (.Attribute o m apos) (e::es) [] pos) n F (eF c fo fa):=by
 intro pins σ H s z Q P ρ ds d I hP rs e1 ef k' hx
 obtain⟨C,f,fd,hc,cl,me,Fk,hb⟩:=M.ex
 obtain⟨W,D,ds',e0,e1',rfl⟩:=QH e1
 refine UN (pl:=pl) (thn (ho pins s σ H (fun v H1=>Ext H H1/\Aa6 X.K (hid H1 P) (bK c W D) v) I ⟨P,ρ,_,hP,rs,e0,cG fun v H1 x1 r1=>⟨x1,r1⟩⟩) fun u s1 ⟨x,H1,I1,rx,x1,r1⟩=>?_) ht
 obtain⟨C',dx,a,w,q,rfl,hc',ha',h1,h2⟩:=zD r1
 obtain rfl:=lZ hc hc'
 obtain rfl:u=cZ a:=rx
 refine FU I1 (Aax _ _ ha') cl me (hlk w q) ?_
 refine IJ (first:=[.ref a]) (h₀:=X.base) I.ok.mod.kin me.kp (thn (ha pos pins s1 σ H1 (fun vs H2=>Ext H1 H2/\Aar X.K (hid H2 P) ds' vs) I1 ⟨P,ρ,ds',hP.ext x1,rs.ext (bO x1),e1',fun vs H2 x2 r2=>⟨x2,r2⟩⟩) fun us s2 ⟨vs,H2,I2,r,x2,r2⟩=>⟨I2.kIn,?_⟩) hst hpl
 exact TB (us:=.ref a::us) (vs:=.ref a::vs) Fk hr hb I2 (.cons rfl r) (hP.ext (x1.trans x2)) (Aad.mpr ⟨_,_,rfl,r1.ext (bO x2),r2⟩) ef (k'.mono (x1.trans x2)) fun v s' hc=>hx H2 s2 v s' I2 (x1.trans x2) hc
theorem Oy {pl:Sem Bool}(M:MethX X.prog X.w X.K X.mg X.base c m k ps (spX X.K n F))(hr:Room k X.A)(ho:DE X o fo)(hlk : ∀ w q:V,iI m [(("wide" : aD),w),("held",q)]=none:=by intro _ _; rfl)
  (ht:bI (.Call (.Attribute o m apos) [] [] pos) X.env=(do
   let ov ← bI o X.env
   nM apos.atName
   let (f,first) ← kB [ov] (wZ ov m pl)
   callWith pos f first (eM pos (bD [] X.env)) (tT pos (tP [] X.env))):=by rfl):CallAt X (.Call (.Attribute o m apos) [] [] pos) n F (eF c fo aL):=by
 intro pins σ H s z Q P ρ ds d I hP rs e1 ef k' hx
 obtain⟨C,f,fd,hc,cl,me,Fk,hb⟩:=M.ex
 obtain⟨W,D,ds',e0,e1',rfl⟩:=QH e1
 cases e1'
 refine UN (pl:=pl) (thn (ho pins s σ H (fun v H1=>Ext H H1/\Aa6 X.K (hid H1 P) (bK c W D) v) I ⟨P,ρ,_,hP,rs,e0,cG fun v H1 x1 r1=>⟨x1,r1⟩⟩) fun u s1 ⟨x,H1,I1,rx,x1,r1⟩=>?_) ht
 obtain⟨C',dx,a,w,q,rfl,hc',ha',h1,h2⟩:=zD r1
 obtain rfl:=lZ hc hc'
 obtain rfl:u=cZ a:=rx
 refine FU I1 (Aax _ _ ha') cl me (hlk w q) ?_
 exact PySem.W.callWith_K0 (first:=[.ref a]) I1.kIn me.kp (TB (us:=[.ref a]) (vs:=[.ref a]) Fk hr hb I1 (.cons rfl .nil) (hP.ext x1) (Aad.mpr ⟨_,_,rfl,r1,Aan.mpr rfl⟩) ef (k'.mono x1) fun v s' hc=>hx H1 s1 v s' I1 x1 hc)
noncomputable def CS (K:aH)(c:aD)(F:FX):Sp:=fun vs H Q E=>∃ x dx C v1 P d1 d z,vs=[.ref x,v1]/\H x=some (.ins C dx [])/\cX K c=some (.ref C)/\Hid P H/\Aa6 K (hid H P) d1 v1/\F z [d1]=some d /\
 (∀ H' Fr,(∀ b o,b≠x->H b=some o->H' b=some o)->Fr.Nodup->(∀ a∈Fr,(a=x \/ H a=none) /\ ∃ o,H' a=some o)->Aec K (hid H' (orL P Fr)) H' 9 d (.ref x) Fr->Q .non H') /\ ∀ c',z=some c' -> ∀ cls H',cX K c'=some cls->Ext H H'->E cls none H'
structure MakeX (P:bC)(w:aW)(K:aH)(mg:aD->Option aE)(base:aQ)(c:aD)(k:Nat)(ps:List aD)(F:FX):Prop where
 ex : ∃ C f fd,cX K c=some (.ref C)/\Mk K C f/\FnOk P w K mg base (CXR base P w) k f fd ps (CS K c F)/\Binds K fd ps []/\mg c=some (.ref C)
 one : ∀ z ds d,F z ds=some d -> ∃ d1,ds=[d1]
theorem Ls {p:bL}(D:MakeX X.prog X.w X.K X.mg X.base c k ps F)(hr:Room (k+1) X.A)(hg:Gl X c)(ha:DA X (e::es) fa)(hdb:(c == ("__debug__" : aD))=false:=by decide)(he:bD (e::es) X.env=(false,bI e X.env)::bD es X.env:=by rfl)
  (hpl:(eM pos (bD es X.env)).any (·.1)=false:=by rfl):CallAt X (.Call (.Name c p) (e::es) [] pos) 9 F fa:=by
 intro pins σ H s z Q P ρ ds d I hP rs e1 ef k' hx
 obtain⟨C,f,fd,hc,M,Fk,hb,hm⟩:=D.ex
 obtain⟨d1,rfl⟩:=D.one _ _ _ ef
 refine IA (sG I hg hm ?_ hdb)
 refine IJ (h₀:=X.base) I.ok.mod.kin M.kp (thn (ha pos pins s σ H (fun vs H1=>Ext H H1/\Aar X.K (hid H1 P) [d1] vs) I ⟨P,ρ,_,hP,rs,e1,fun vs H1 x1 r1=>⟨x1,r1⟩⟩) fun us s1 ⟨vs,H1,I1,r,x1,r1⟩=>⟨I1.kIn,?_⟩) he hpl
 obtain⟨v1,rfl,r3⟩:=fV r1
 obtain⟨u1,rfl,ru⟩:=vals1 r
 have fx:H1 (s1.heap.objs.size+1)=none:=I1.hok.fresh (AW _)
 have fdx:H1 s1.heap.objs.size=none:=I1.hok.fresh (bX _)
 have I2:=Inv.made (C:=C) I1
 have x2:Ext H1 (upd (upd H1 s1.heap.objs.size (.own (s1.heap.objs.size+1))) (s1.heap.objs.size+1) (.ins C s1.heap.objs.size [])):=fun b o q=>by
  rw[bN (gK q fx),bN (gK q fdx)]
  exact q
 have hq:CS X.K c F [.ref (s1.heap.objs.size+1),v1] (upd (upd H1 s1.heap.objs.size (.own (s1.heap.objs.size+1))) (s1.heap.objs.size+1) (.ins C s1.heap.objs.size [])) (fun v H2=>v = .non/\Q (.ref (s1.heap.objs.size+1)) H2)
   (fun cls _ H'=>(∃ c,z=some c/\cX X.K c=some cls)/\Ext (upd (upd H1 s1.heap.objs.size (.own (s1.heap.objs.size+1))) (s1.heap.objs.size+1) (.ins C s1.heap.objs.size [])) H'):=by
  refine⟨_,_,C,v1,P,d1,d,z,rfl,eB,hc,hP.ext (x1.trans x2),r3.ext (bO x2),ef,fun H' Fr kp nd fr ro=>⟨rfl,?_⟩,fun c' hc' cls H' e2 x3=>⟨⟨c',hc',e2⟩,x3⟩⟩
  refine k' _ H' Fr (fun b o q=>?_) nd (fun a m=>⟨?_,(fr a m).2⟩) ro
  ·exact kp b o (gK (x1 _ _ q) fx) (x2 _ _ (x1 _ _ q))
  ·rcases(fr a m).1 with rfl | q
   ·exact x1.none fx
   ·exact x1.none (x2.none q)
 have r2:Vals [V.ref (s1.heap.objs.size+1),v1] [cZ (s1.heap.objs.size+1),u1]:=.cons rfl (.cons ru .nil)
 have hl:[cZ (s1.heap.objs.size+1),u1].length=ps.length:=by
  have e:=r2.length
  rw[Fk.len _ _ _ _ hq] at e
  exact e.symm
 have hbs:rK { s1 with heap:=(s1.heap.push mJ).push (nR C s1.heap.objs.size) } fd ⟨[cZ (s1.heap.objs.size+1),u1],[]⟩ (ps.zip [cZ (s1.heap.objs.size+1),u1]):=by
  have:=hb { s1 with heap:=(s1.heap.push mJ).push (nR C s1.heap.objs.size) } [cZ (s1.heap.objs.size+1),u1] I2.kIn (by simpa using hl)
  simpa using this
 refine wpAny_call (Ov (f:=f) I1.kIn M.makes M.init (beq_iff_eq.mp M.fn) (qX (Fk.run _ X.stack _ _ ⟨[cZ (s1.heap.objs.size+1),u1],[]⟩ [cZ (s1.heap.objs.size+1),u1] _ _ _ (hr.make C [u1] [])
  (I2.env0.make C [u1] []) hbs r2 hq) fun r s' hq'=>?_))
 cases r with
 | error e=>exact hx _ _ e s' I2 (x1.trans x2) hq'
 | ok fl=>
  cases fl with
  | ret u=>
   obtain⟨v,H',I3,rv,ev,q3⟩:=I2.after hq'
   subst ev
   exact⟨rv,⟨V.ref (s1.heap.objs.size+1),H',I3,rfl,q3⟩⟩
  | next=>exact jB hq'
  | brk=>exact jB hq'
  | cont=>exact jB hq'
end
def leS (a b:aD):Prop:=a.cps.toList≤b.cps.toList
theorem Bo {a b c:aD}(h1:leS a b)(h2:leS b c):leS a c:=List.le_trans h1 h2
theorem Nj {a b:aD}(h1:leS a b)(h2:leS b a):a=b:=by
 have e:=List.le_antisymm h1 h2
 obtain⟨x⟩:=a
 obtain⟨y⟩:=b
 have e':x.toList=y.toList:=e
 rw[JF.mp e']
theorem QZ : ∀ {p:aD} {l:List aD},risingS p l=true->(∀ x∈l,leS p x)/\l.Pairwise leS
 | p,[],_=>⟨fun x m=>by simp at m,.nil⟩
 | p,x::r,h=>by
  have h':=h
  obtain⟨h1,h2⟩:=lN.mp h'
  rw[ltCps_eq] at h1
  have l1:leS p x:=by
   have:decide (x.cps.toList<p.cps.toList)=false:=by simpa using h1
   exact List.not_lt.mp (of_decide_eq_false this)
  obtain⟨a1,a2⟩:=QZ h2
  refine⟨fun y m=>?_,.cons a1 a2⟩
  rcases cJ.mp m with rfl | m
  ·exact l1
  ·exact Bo l1 (a1 y m)
theorem Fb : ∀ {l:List aD},sortedS l=true->l.Pairwise leS
 | [],_=>.nil
 | x::r,h=>by
  obtain⟨a1,a2⟩:=QZ h
  exact .cons a1 a2
noncomputable def HJ (ss:List aD):List aD:=open Classical in if h : ∃ js:List aD,js.Perm ss/\js.Pairwise leS then h.choose else ss
theorem Cj {ss js:List aD}(hp:js.Perm ss)(hr:js.Pairwise leS):js=HJ ss:=by
 have h : ∃ js:List aD,js.Perm ss/\js.Pairwise leS:=⟨js,hp,hr⟩
 unfold HJ
 rw[dif_pos h]
 exact Pi (fun a b _ _ h1 h2=>Nj h1 h2) hr h.choose_spec.2 (hp.trans h.choose_spec.1.symm)
section
variable {X:Cx}
theorem KL : ∀ {ns:List aD} {vs:List aE},Vals (ns.map V.str) vs->StrsAre vs ns
 | [],_,.nil=>.nil
 | n::ns,_,.cons ⟨t,e⟩ r=>by
  subst e
  exact .cons n t (KL r)
theorem KO : ∀ {ns:List aD} {vs:List aE},StrsAre vs ns->Vals (ns.map V.str) vs
 | _,_,.nil=>.nil
 | _,_,.cons n t h=>.cons ⟨t,rfl⟩ (KO h)
noncomputable def yA:List aA->Option (List aD)
 | []=>some []
 | .str i::r=>(yA r).bind fun is=>some (i::is)
 | _::_=>none
theorem ML : ∀ {ds:List aA} {is:List aD},yA ds=some is->ds=is.map dH
 | [],is,e=>by cases e; rfl
 | .str i::ds,is,e=>by
  obtain⟨is',e1,e2⟩:=XBs (show((yA ds).bind fun is=>some (i::is))=some is from e)
  cases e2
  rw[ML e1]
  rfl
 | .none::_,_,e=>by cases e
 | .bool _::_,_,e=>by cases e
 | .int _::_,_,e=>by cases e
 | .list _::_,_,e=>by cases e
 | .tuple _::_,_,e=>by cases e
 | .dict _::_,_,e=>by cases e
theorem RQ {K:aH}{H:Hp} : ∀ {is:List aD} {ys:List V},Aar K H (is.map dH) ys->ys=is.map V.str /\ ∀ i∈is,dE (.str i)=true
 | [],ys,r=>⟨Aan.mp r,fun i m=>by simp at m⟩
 | i::is,ys,r=>by
  obtain⟨v,t,rfl,r1,r2⟩:=Aad.mp r
  obtain⟨e1,c1⟩:=Aaq.mp r1
  obtain⟨e2,c2⟩:=RQ r2
  refine⟨by rw[e1,e2]; rfl,fun j m=>?_⟩
  rcases cJ.mp m with rfl | m
  ·exact c1
  ·exact c2 j m
theorem QQ {K:aH}{H:Hp} : ∀ {is:List aD},(∀ i∈is,dE (.str i)=true)->Aar K H (is.map dH) (is.map V.str)
 | [],_=>Aan.mpr rfl
 | i::is,h=>Aad.mpr ⟨_,_,rfl,Aaq.mpr ⟨rfl,h i bY⟩,QQ fun j m=>h j (cA _ m)⟩
variable {x:aD}{k n0:Nat}{ps:List aD}{F:List aA->Option aA}{p pos:bL}
end
open PySem PySem.SetTable
def VX (xs:Array Nat):Prop:=∀ a b u v:Nat,a<b->xs[a]?=some u->xs[b]?=some v->u<v
noncomputable def adv (mask:Nat)(p:Probe):Probe:=if p.more > 0 then { p with j:=p.j+1,more:=p.more - 1 } else
 { p with j:=(leap mask p.i p.perturb).1,more:=runEnd mask (leap mask p.i p.perturb).1 - (leap mask p.i p.perturb).1,i:=(leap mask p.i p.perturb).1,perturb:=(leap mask p.i p.perturb).2 }
noncomputable def pN (mask:Nat)(p:Probe):Nat->Probe
 | 0=>p
 | n+1=>adv mask (pN mask p n)
noncomputable def blk (mask i per:Nat):Probe:={ j:=i,more:=runEnd mask i - i,i,perturb:=per,dummy:=none }
noncomputable def lp (mask:Nat)(s:Nat×Nat):Nat->Nat×Nat
 | 0=>s
 | m+1=>leap mask (lp mask s m).1 (lp mask s m).2
def Bm (mask:Nat):Prop:=mask=7 \/ mask=31 \/ mask=127 \/ mask=511 \/ mask=2047 \/ mask=8191
noncomputable def rd (mask:Nat)(h:Int)(n:Nat):Probe:=pN mask (blk mask (bits h%(mask+1)) (bits h)) n
def WH (t:xD)(j:Nat):Prop:=∃ i:Nat,t.place[i]?=some j
structure Good (t:xD)(es:Array (Int×aE)):Prop where
 small:Bm t.mask
 nod:t.dummies = #[]
 ris:VX t.place
 len:t.place.size=es.size
 inb : ∀ i j:Nat,t.place[i]?=some j->j≤t.mask
 room:es.size≤t.mask
 reach : ∀ (i j:Nat) (e:Int×aE),t.place[i]?=some j->es[i]?=some e -> ∃ n,(rd t.mask e.1 n).j=j /\ ∀ m<n,WH t (rd t.mask e.1 m).j
structure Own (mask:Nat)(hs:List Int)(ow:Array (Option Nat)):Prop where
 size:ow.size=mask+1
 lt : ∀ j i:Nat,ow[j]?=some (some i)->i<hs.length
 inj : ∀ j j' i:Nat,ow[j]?=some (some i)->ow[j']?=some (some i)->j=j'
 all : ∀ i<hs.length,∃ j:Nat,ow[j]?=some (some i)
 reach : ∀ (j i:Nat) (h:Int),ow[j]?=some (some i)->hs[i]?=some h -> ∃ n,(rd mask h n).j=j /\ ∀ m<n,∃ i':Nat,ow[(rd mask h m).j]?=some (some i')
theorem Mz {ow:Array (Option Nat)}{j:Nat}(hj:j<ow.size):ow[j]?=some none \/ ∃ i,ow[j]?=some (some i):=by
 rw[Pm hj]
 cases ow[j] with
 | none=>exact .inl rfl
 | some i=>exact .inr ⟨i,rfl⟩
theorem Own.free {mask:Nat}{hs:List Int}{ow:Array (Option Nat)}(O:Own mask hs ow)(hl:hs.length≤mask) : ∃ e,e≤mask/\ow[e]?=some none:=by
 apply Pl
 intro hn
 have hall : ∀ j≤mask,∃ i:Nat,ow[j]?=some (some i):=fun j hj=>by
  rcases Mz (ow:=ow) (j:=j) (by rw[O.size]; omega) with c | c
  ·exact absurd ⟨j,hj,c⟩ hn
  ·exact c
 have hnd:((dF (mask+1)).map fun j=>((ow[j]?).join).getD 0).Nodup:=by
  unfold List.Nodup
  rw[tY]
  refine List.Pairwise.imp_of_mem ?_ List.pairwise_lt_range
  intro a b ha hb hab e
  obtain⟨i,ei⟩:=hall a (by have:=kJ.mp ha; omega)
  obtain⟨i',ei'⟩:=hall b (by have:=kJ.mp hb; omega)
  rw[ei,ei'] at e
  have:i=i':=by simpa using e
  subst this
  have:=O.inj a b i ei ei'
  omega
 have:=VP hnd (fun v m=>by
  obtain⟨j,hj,rfl⟩:=cL.mp m
  obtain⟨i,ei⟩:=hall j (by have:=kJ.mp hj; omega)
  rw[ei]
  exact kJ.mpr (O.lt j i ei))
 simp at this
 omega
structure Fine (t:xD)(es:Array (Int×aE)):Prop where
 good:Good t es
 few:es.size*5<t.mask*3/\es.size≤4914
theorem Fine.fits {t:xD}{es:Array (Int×aE)}(F:Fine t es):t.fits es.size=true:=by
 have h1:=F.good.len
 have h2:=F.good.nod
 have h3:=F.good.room
 simp[SetTable.fits,SetTable.fill,h1,h2,h3]
open PySem PySem.Spec PyProof.Rows PySem.SetTable
noncomputable def JY (w:aW):Bool:=w.params.followText "set-order"
noncomputable abbrev Arm (led:Bool):aY:={ cls:=.type "set",dict:=none,data:=.set #[] 0 (.fresh 0 0 led) }
theorem SN {α β:Type}{R:α->β->Prop} : ∀ {as:List α} {bs:List β},dI R as bs -> ∀ {i:Nat} {a:α},as[i]?=some a -> ∃ b,bs[i]?=some b/\R a b
 | _,_,.nil,i,a,h=>by simp at h
 | _,_,.cons h t,0,a,e=>⟨_,rfl,by simp at e; exact e ▸ h⟩
 | _,_,.cons h t,i+1,a,e=>SN t (by simpa using e)
theorem LW {α β:Type}{R:α->β->Prop} : ∀ {as:List α} {bs:List β},dI R as bs -> ∀ {i:Nat} {b:β},bs[i]?=some b -> ∃ a,as[i]?=some a/\R a b
 | _,_,.nil,i,a,h=>by simp at h
 | _,_,.cons h t,0,a,e=>⟨_,rfl,by simp at e; exact e ▸ h⟩
 | _,_,.cons h t,i+1,a,e=>LW t (by simpa using e)
section
variable {prog:bC}{w:aW}{B:List aA->aB->Prop}
def ElT (w:aW)(B:List aA->aB->Prop)(h:aQ)(e:Int×aE)(k:List aA):Prop:=∃ b,e.2 = .ref b/\e.1=oF w (.tuple k)/\Aju h k b/\B k b
structure SetAt (w:aW)(B:List aA->aB->Prop)(h:aQ)(a:aB)(o:aY)(es:Array (Int×aE))(ep:Nat)(t:xD)(ks:List (List aA)):Prop where
 get:h.get? a=some o
 exact:o.ExactSet
 data:o.data = .set es ep t
 fine:Fine t es
 led:t.led = !JY w
 els:dI (ElT w B h) es.toList ks
 nod:ks.Nodup
end
section
variable {prog:bC}{w:aW}{B:List aA->aB->Prop}
theorem SS {α β:Type}{R R':α->β->Prop}(f : ∀ a b,R a b->R' a b) : ∀ {as:List α} {bs:List β},dI R as bs->dI R' as bs
 | _,_,.nil=>.nil
 | _,_,.cons h t=>.cons (f _ _ h) (SS f t)
def SetT (w:aW)(B:List aA->aB->Prop)(h:aQ)(a:aB)(ks:List (List aA)):Prop:=∃ o es ep t ks',SetAt w B h a o es ep t ks'/\ks'.Perm ks
end
section
variable {prog:bC}{w:aW}{B:List aA->aB->Prop}
theorem SetT.len {h:aQ}{a:aB}{ks:List (List aA)}(S:SetT w B h a ks) : ∃ o es ep t,h.get? a=some o/\o.ExactSet/\o.data = .set es ep t/\t.fits es.size=true/\es.size=ks.length:=by
 obtain⟨o,es,ep,t,ks',Z,p⟩:=S
 refine⟨o,es,ep,t,Z.get,Z.exact,Z.data,Z.fine.fits,?_⟩
 have:=nT Z.els
 rw[mP] at this
 rw[this,p.length_eq]
theorem SetT.keep {h h':aQ}{a:aB}{ks:List (List aA)}(S:SetT w B h a ks)(k1 : ∀ o,h.get? a=some o->h'.get? a=some o)(k2 : ∀ b o vs n,h.get? b=some o->o.cls = .type "tuple" -> o.data = .seq vs n->h'.get? b=some o):SetT w B h' a ks:=by
 obtain⟨o,es,ep,t,ks',Z,p⟩:=S
 exact⟨o,es,ep,t,ks',⟨k1 o Z.get,Z.exact,Z.data,Z.fine,Z.led,SS (fun e k ⟨b,q1,q2,q3,q4⟩=>⟨b,q1,q2,q3.keep k2,q4⟩) Z.els,Z.nod⟩,p⟩
end
noncomputable abbrev isO (a:aB)(o:aY):HO:=.ext fun h=>h.get? a=some o
noncomputable instance memK (k:aN)(acc:List aN):Decidable (k∈acc):=decidable_of_iff (acc.any (fun x=>decide (x=k))=true) (by simp[List.any_eq_true])
noncomputable def fZ (acc:List aN)(k:aN):List aN:=if k∈acc then acc else acc++[k]
noncomputable def eZ (ks:List aN):List aN:=ks.foldl fZ []
theorem Dn (ks:List aN):(eZ ks).length≤ks.length:=by
 have go : ∀ (l acc:List aN),(l.foldl fZ acc).length≤acc.length+l.length:=by
  intro l
  induction l with
  | nil=>intro acc; simp
  | cons x r ih=>
   intro acc
   have h2:(fZ acc x).length≤acc.length+1:=by unfold fZ; split <;> simp
   have:=ih (fZ acc x)
   simp only[AZ,eE]
   omega
 have:=go ks []
 simpa [eZ] using this
def Avi (prog:bC)(w:aW)(h:aQ)(a:aB)(ks:List aN):Prop:=h.SetOf (eA prog w) a (fun k=>decide (k∈ks)) ks.length
section
variable {prog:bC}{w:aW}{A:bT}{E:aE->aG->Prop}{s:aG}
theorem Oi {h:aQ}{a:aB}{led:Bool}(e:h.get? a=some (Arm led)):Avi prog w h a []:=
 ⟨_,#[],0,_,e,⟨rfl,rfl,rfl⟩,rfl,fun e he=>by simp at he,fun k=>by simp,by decide,by rfl,rfl⟩
theorem Avi.keep {h h':aQ}{a:aB}{ks:List aN}(S:Avi prog w h a ks)(k : ∀ o,h.get? a=some o->h'.get? a=some o):Avi prog w h' a ks:=by
 obtain⟨o,es,ep,t,ho,rest⟩:=S
 exact⟨o,es,ep,t,k o ho,rest⟩
theorem Avi.congr {h:aQ}{a:aB}{S:aN->Bool}{n:Nat}{ks:List aN}(x:h.SetOf (eA prog w) a S n)(e1 : ∀ k,S k=decide (k∈ks))(e2:n=ks.length):Avi prog w h a ks:=by
 have:S=fun k=>decide (k∈ks):=funext e1
 subst this
 subst e2
 exact x
theorem Cc {R:nO->aG->Prop}{I:aB}{fp wr:List aB}{G:Array uD->Array uD->Prop}{n:Nat}{P:Nat->aE->Prop}{St:Nat->aG->Prop}
  (W:WalksS prog w A.in1 I fp wr G n P St) (S:aB) (hSf:S∉fp) (kss:List aN) (hn:n+1<AK) (hP : ∀ j v,P j v -> ∃ q,kss[j]?=some q/\(eA prog w).is q v=true/\v.scannable=true) :
  ∀ (k i:Nat) (s:aG),n - i=k->i≤n->St i s->Avi prog w s.heap S (eZ (kss.take i)) ->
   (∀ s',Moved (S::wr) G s s'->Avi prog w s'.heap S (eZ (kss.take n))->R (.ok (.ret .none)) s') ->
   iW (aP prog w) A (.builtin "set.update.loop" ⟨[.ref S,.ref I],[]⟩) R s:=by
 have hSw:S∉wr:=fun z=>hSf (W.sub _ z)
 have more : ∀ b∈wr,b∈S::wr:=fun b z=>cA _ z
 intro k
 induction k with
 | zero=>
  intro i s hk hi hst hS hR
  obtain rfl:i=n:=by omega
  refine qY F.entry_set_update_loop ?_
  rw[xS VS _]
  refine aK (W.done s _ _ hst fun s' hm=>?_)
  exact aZ (hR s' (hm.mono more) (hS.keep fun o q=>hm.heap S o hSw q))
 | succ k ih=>
  intro i s hk hi hst hS hR
  have hlt:i<n:=by omega
  refine qY F.entry_set_update_loop ?_
  rw[xS VS _]
  refine aK (W.item i s _ _ hlt hst fun v s' hPi hst' hm=>?_)
  obtain⟨q,hq,his,hsc⟩:=hP i v hPi
  have hS':=hS.keep fun o z=>hm.heap S o hSw z
  have hstep:eZ (kss.take (i+1))=fZ (eZ (kss.take i)) q:=by
   rw[List.take_add_one,hq]
   simp[eZ,List.foldl_append]
  have hlen:(eZ (kss.take i)).length≤i:=jM (Dn _) (by rw[pH]; omega)
  refine aK (iG ?_)
  unfold setAdd
  refine iG (aK ((eA prog w).pyHash his ?_))
  refine wpAny_setAddHashed_of his hsc hS' (by omega) fun h' sb S2=>?_
  have S3:Avi prog w h' S (eZ (kss.take (i+1))):=by
   rw[hstep]
   refine Avi.congr S2 (fun k'=>?_) ?_
   ·unfold fZ
    by_cases m:q∈eZ (kss.take i)
    ·rw[if_pos m]
     by_cases c:k'=q
     ·subst c; simp[m]
     ·simp[c]
    ·rw[if_neg m]
     simp
   ·unfold fZ
    by_cases m:q∈eZ (kss.take i)
    ·simp[m]
    ·simp[m]
  refine aZ ⟨AM VS _,ih (i+1) _ (by omega) hlt (W.frame _ s' _ _ hst' (AW _) fun c hc o e=>?_) S3 fun s'' hm'' S4=>?_⟩
  ·exact(sb.2 c (fun z=>hSf (z ▸ hc))).trans e
  ·exact hR s'' (Moved.trans W.gtrans ((hm.mono more).then_heap (AW _) fun c o hc e=>(sb.2 c (fun z=>hc (z ▸ bY))).trans e) hm'') S4
set_option maxHeartbeats 4000000 in
theorem Cf {l:aB}{items:Array aE}{kss:List aN}{Q:aE->aG->Prop}(hh:A.handled=none)(hl:s.heap.IsList l items)
  (hd : ∀ (j:Nat) v,items[j]?=some v -> ∃ q,kss[j]?=some q/\(eA prog w).is q v=true/\v.scannable=true) (hlen:items.size+1<AK) (hkl:kss.length=items.size)
  (h : ∀ (h':aQ) (tk:Nat),s.toks≤tk->Avi prog w h' s.heap.objs.size (eZ kss)->(∀ b o,b<s.heap.objs.size->s.heap.get? b=some o->h'.get? b=some o)->Q (.ref s.heap.objs.size) { s with heap:=h',toks:=tk }) :
  aO (aP prog w) A (call (.type "set") [.ref l]) Q E s:=by
 obtain⟨c,tl,hmro⟩:=rG.mro
 have hmade:=rG.made
 have hsub:=rG.sub
 refine wpAny_call (codeAny_of_tree (show aO _ _ (callAny (.type "set") _) _ _ _ from ?_))
 refine aZ ⟨Code.quiet_builtin _ (by decide +kernel),qY F.entry_type_call ?_⟩
 rw[Around.under_plain (weight_type_call_type "set" [.ref l] []) rfl]
 have z1:=rG.notType
 have z2:=rG.canCreate
 have z3:=F.typeCall_set_1 (.ref l)
 repeat (any_goals (first | assumption | wp_step))
 refine qX (code_set_new_1 (.ref l) (E:=E) (Q₁:=fun u s₁=>∃ led:Bool,u = .ref s.heap.objs.size/\s₁ = { s with heap:=s.heap.push (Arm led) }) fun led=>⟨led,rfl,rfl⟩) fun r s₁ hr=>?_
 match r,hr with
 | .error e,hr=>exact hr
 | .ok (.ret u),hr=>
  obtain⟨led,rfl,rfl⟩:=hr
  have gS:(s.heap.push (Arm led)).get? s.heap.objs.size=some (Arm led):=eY _ rfl
  have hT:Shared.TypeIs { s with heap:=s.heap.push (Arm led) } (.ref s.heap.objs.size) "set":=⟨_,gS,rfl⟩
  have y1:=rG.init.lookup
  have y2:=rG.init.bind (.ref s.heap.objs.size)
  repeat (any_goals (first | assumption | wp_step))
  refine qX (UH (R:=wants (fun r s₂=>r = .none /\ ∃ h' tk,s.toks≤tk/\s₂ = { s with heap:=h',toks:=tk }/\Avi prog w h' s.heap.objs.size (eZ kss)/\(∀ b o,b<s.heap.objs.size->s.heap.get? b=some o->h'.get? b=some o)) E) rG.init.plain F.entry_set_init (check_set_init_1 hT ?_)) fun r₂ s₂ hr₂=>?_
  ·obtain⟨ol,gl,cl,nl,dl⟩:=hl
   obtain⟨ocls,odict,odata,oslots⟩:=ol
   simp only at cl dl
   subst cl
   subst dl
   have gl':(s.heap.push (Arm led)).get? l=some { cls:=.type "list",dict:=odict,data:=.seq items nl,slots:=oslots }:=cN _ gl
   have x1:=F.sub_list_set
   have x2:=F.sub_list_frozenset
   have x3:(kE "list" == kE "dict")=false:=by decide
   have L1:(s.heap.push (Arm led)).IsList l items:=⟨_,gl',rfl,nl,rfl⟩
   unfold Builtin.«set.__init__» noKeywords Builtin.Frozenset.updateFrom
   generalize hPI:pyIter=PI
   wp_walk
   subst hPI
   refine HY L1 (aK (wpAny_runValue ?_))
   have lS:l<s.heap.objs.size:=cD gl
   have hI:(s.heap.push (Arm led)).objs.size=s.heap.objs.size+1:=JA _ _
   have nI:l≠(s.heap.push (Arm led)).objs.size:=by rw[hI]; exact dA (IQ lS)
   have nS:s.heap.objs.size∉[(s.heap.push (Arm led)).objs.size,l]:=by
    intro z
    rw[hI] at z
    rcases cJ.mp z with z | z
    ·exact absurd z (dA (Nat.lt_succ_self _))
    ·exact absurd (dB.mp z) (rC lS)
   have gI:((s.heap.push (Arm led)).push { cls:=.type "list_iterator",data:=.fields #[.ref l,.int 0 0] }).get? s.heap.objs.size=some (Arm led):=cN _ gS
   refine Cc (w:=w) ((Walks.list (by simp[hh]) _ l nI items).toS) s.heap.objs.size nS kss hlen hd (items.size - 0) 0 _ rfl (fH _) ⟨⟨_,eY _ rfl,rfl,rfl⟩,L1.push _⟩ (Oi gI) fun s' hm S'=>?_
   ·obtain⟨h',g',d',tk',os'⟩:=s'
    obtain rfl:g'=s.gens:=hm.gens
    obtain rfl:d'=s.drawn:=hm.drawn
    obtain rfl:os'=s.os:=hm.os
    show aO _ _ _ _ _ _
    refine aZ ?_
    show aO _ _ (ret fX) _ _ _
    refine aZ ⟨rfl,h',tk',hm.toks,rfl,by rw[← List.take_length (l:=kss),hkl]; exact S',fun b o hb e=>?_⟩
    refine hm.heap b o (fun z=>?_) (cN _ (cN _ e))
    rw[hI] at z
    rcases cJ.mp z with z | z
    ·exact absurd z (dA hb)
    ·exact absurd (dB.mp z) (dA (IQ hb))
  ·match r₂,hr₂ with
   | .error e,hr₂=>exact hr₂
   | .ok (.ret v),hr₂=>
    obtain⟨rfl,h',tk,ht,rfl,S',hk'⟩:=hr₂
    repeat (any_goals (first | assumption | wp_step))
    exact h _ _ ht S' hk'
end
def JZ (prog:bC)(w:aW)(o:aY)(ks:List aN):Prop:=∃ es ep t,o.ExactSet/\o.data = .set es ep t/\ElemsOf (eA prog w) es.toList/\(∀ k,k∈ks ↔ ∃ e∈es.toList,(eA prog w).is k e.2=true)/\es.size<AK/\t.fits es.size=true/\es.size=ks.length
section
variable {X:Cx}
theorem Ed (hc:X.calm=true):Ac8 X (.type "set") (fun xs H Q=>∃ p ks,xs=[.ref p]/\SqL X.K H p (ks.map kV)/\ks.length≤4000 /\ ∀ a o,H a=none->JZ X.prog X.w o (eZ ks)->Q (.ref a) (upd H a (isO a o))):=by
 intro pins s σ H xs us Q I r h
 obtain⟨p,ks,rfl,hp,hl,q⟩:=h
 obtain⟨u,rfl,ru⟩:=vals1 r
 cases ru
 obtain⟨its,rv,pl,_⟩:=I.list hp
 have e1:=rv.length
 rw[cP] at e1
 refine Cf (I.ok.hd hc) pl.isList (fun j v ev=>?_) (by rw[dM]; unfold AK; omega) (by rw[dM]; omega) fun h' tk ht S' hk=>?_
 ·have ev':its[j]?=some v:=by simpa using ev
  obtain⟨y,hy,ry⟩:=LW rv ev'
  rw[gZ] at hy
  obtain⟨k,hk,rfl⟩:=tX.mp hy
  refine⟨k,hk,rP ry,?_⟩
  cases k with
  | inl i=>obtain⟨t,rfl⟩:=ry; rfl
  | inr z=>obtain⟨t,rfl⟩:=ry; rfl
 ·obtain⟨o,es,ep,t,ho,hex,hd,hel,hmem,hb,hf,hn⟩:=S'
  have I':=I.laid (t':=tk) (h':=h') (o:=isO s.heap.objs.size o) (fun b u e=>hk b u (cD e) e) (bX _) (show Acs X.prog X.w _ _ _ (.ext _) from⟨ho,⟨o,ho⟩,fun _ _ e k=>k _ e⟩)
  exact⟨.ref s.heap.objs.size,_,I',rfl,q _ o I.fresh ⟨es,ep,t,hex,hd,hel,fun k=>by rw[← hmem k]; simp,hb,hf,hn⟩⟩
theorem Ec:Ac8 X (.builtin "len") (fun xs H Q=>∃ a o ks,xs=[.ref a]/\H a=some (isO a o)/\JZ X.prog X.w o ks/\Q (.int ks.length) H):=by
 intro pins s σ H xs us Q I r h
 obtain⟨a,o,ks,rfl,ha,⟨es,ep,t,hx,hd,_,_,hb,hf,hz⟩,q⟩:=h
 obtain⟨u,rfl,ru⟩:=vals1 r
 cases ru
 obtain⟨g,_,_⟩:=(show Acs X.prog X.w H s.heap a (.ext _) from I.hok a _ ha)
 exact call_len_set g hx hd hf (by unfold AK at hb; omega) ⟨.int ks.length,H,I.tok _,⟨s.toks+1,by rw[hz]⟩,q⟩
noncomputable def qO:List aA->Option (List aN)
 | []=>some []
 | d::r=>(cU d).bind fun k=>(qO r).bind fun ks=>some (k::ks)
theorem QE {K:aH}{H:Hp} : ∀ {ds:List aA} {ks:List aN} {ys:List V},qO ds=some ks->Aar K H ds ys->ys=ks.map kV
 | [],ks,ys,e,r=>by cases e; exact Aan.mp r
 | d::ds,ks,ys,e,r=>by
  obtain⟨k,e1,e⟩:=XBs e
  obtain⟨ks',e2,e⟩:=XBs e
  cases e
  obtain⟨v,t,rfl,r1,r2⟩:=Aad.mp r
  rw[zK e1 r1,QE e2 r2]
  rfl
noncomputable def ND:List aA->Option aA
 | [.list ds]=>(qO ds).bind fun ks=>if ks.length≤4000 then some (.int (eZ ks).length) else none
 | _=>none
theorem Eu {e:aS}{fe:EF}{p1 p2 pos1 pos2:bL}(hc:X.calm=true)(g1:Gl X "len")(m1:X.mg "len" = none)(g2:Gl X "set")(m2:X.mg "set" = none)(he:DE X e fe)
  (hs1:bD [Expr.Call (.Name "set" p2) [e] [] pos2] X.env=[(false,bI (Expr.Call (.Name "set" p2) [e] [] pos2) X.env)]:=by rfl) (hs2:bD [e] X.env=[(false,bI e X.env)]:=by rfl) :
  DE X (.Call (.Name "len" p1) [.Call (.Name "set" p2) [e] [] pos2] [] pos1) (aR ND (aI fe aL)):=by
 have h1:PE X (.Call (.Name "set" p2) [e] [] pos2) _:=PM (Ed hc) g2 m2 rfl (fJ he jE hs2) (by decide) (by decide) hs2 rfl
 have h2:PE X (.Call (.Name "len" p1) [.Call (.Name "set" p2) [e] [] pos2] [] pos1) _:=vP Ec g1 m1 rfl (fJ h1 jE hs1) (by decide) (by decide) hs1 rfl
 refine PE.imp h2 fun σ H Q gh=>?_
 obtain⟨P,ρ,d,hP,rs,ef,k⟩:=gh
 obtain⟨ds0,e0,ef⟩:=XBs ef
 obtain⟨d1,e1,e0⟩:=XBs e0
 have e0:[d1]=ds0:=by simpa [aL] using e0
 subst e0
 cases d1 with
 | list ds=>
  obtain⟨ks,e2,ef⟩:=XBs (show((qO ds).bind fun ks=>if ks.length≤4000 then some (bA (eZ ks).length) else none)=some d from ef)
  obtain⟨hl,rfl⟩:=cT ef
  refine⟨P,ρ,.list ds,hP,rs,e1,cG fun v H1 x1 r1=>?_⟩
  obtain⟨q,ys,rfl,hq,rr⟩:=Abf.mp r1
  obtain rfl:=QE e2 rr
  exact⟨q,ks,rfl,Aax.sqL hq,hl,fun a o hn S=>⟨a,o,eZ ks,rfl,eB,S,k.zero (x1.trans (Ext.new hn)) (Aao.mpr rfl)⟩⟩
 | _=>cases ef
end
section
variable {prog:bC}{w:aW}
def ElI (prog:bC)(w:aW)(e:Int×aE)(n:Int):Prop:=e.1=(intKind prog w).hash n /\ ∃ t,e.2 = .int n t
structure IntsAt (prog:bC)(w:aW)(h:aQ)(a:aB)(o:aY)(es:Array (Int×aE))(ep:Nat)(t:xD)(ns:List Int):Prop where
 get:h.get? a=some o
 exact:o.ExactSet
 data:o.data = .set es ep t
 fine:Fine t es
 led:t.led = !JY w
 plain:t.plain=true
 els:dI (ElI prog w) es.toList ns
 nod:ns.Nodup
def Bcu (prog:bC)(w:aW)(h:aQ)(a:aB)(ns:List Int):Prop:=∃ o es ep t ns',IntsAt prog w h a o es ep t ns'/\ns'.Perm ns
theorem Bcu.keep {h h':aQ}{a:aB}{ns:List Int}(S:Bcu prog w h a ns)(k : ∀ o,h.get? a=some o->h'.get? a=some o):Bcu prog w h' a ns:=by
 obtain⟨o,es,ep,t,ns',S,p⟩:=S
 exact⟨o,es,ep,t,ns',⟨k o S.get,S.exact,S.data,S.fine,S.led,S.plain,S.els,S.nod⟩,p⟩
end
open PySem PySem.Spec PySem.W PyProof.Rows PySem.SetTable
theorem ES {α:Type}(xs:List α)(d:α):(dF xs.length).map (fun i=>xs.getD i d)=xs:=by
 apply List.ext_getElem
 ·simp
 ·intro i h1 h2
  simp at h1
  simp[h1]
section
variable {prog:bC}{w:aW}{A:bT}{E:aE->aG->Prop}{s:aG}
theorem Ny {h0:aQ}{a:aB}{n:Nat}{vs:List aE}{kss:List (List aA)}{P:PySem.Fin->aG->Prop}(ho:s.heap.get? a=some (kW "list" vs.toArray n))(ht:Ahc h0 vs kss)(kp : ∀ b o,h0.get? b=some o->(jI s.heap a vs).get? b=some o)(ok:okT kss=true)(h64:vs.length<64)
  (h : ∀ p:List Nat,p.Perm (dF vs.length)->p.map (fun i=>kss.getD i [])=jS kss->P (.done (.ret .none)) { s with heap:=sortedHeap s.heap a vs (jN (p.map fun i=>vs.getD i fX)) }) :
  aO (aP prog w) A (Builtin.«list.sort» ⟨[.ref a],[]⟩) P E s:=by
 have ln:=nT ht
 by_cases h2:vs.length<2
 ·refine Nx ho h2 ?_
  have:=h (dF vs.length) (List.Perm.refl _) (by
   rw[ln,ES kss]
   refine PB ok (List.Perm.refl _) ?_
   match kss,ln with
   | [],_=>exact .nil
   | [k],_=>simp
   | _::_::_,ln=>simp at ln; omega)
  rw[ES vs] at this
  exact this
 ·have hs:sameAll kss=true/\(kss.all fun k=>(lV k).isSome)=true:=by
   have h2' : ¬ kss.length<2:=by omega
   have:(sameAll kss&&kss.all fun k=>(lV k).isSome)=true:=by simpa [okT,h2'] using ok
   exact lN.mp this
  obtain⟨k0,m0⟩ : ∃ k0,k0∈kss:=by
   cases hk:kss with
   | nil=>rw[hk] at ln; exact absurd ln (by simp; intro e; rw[e] at h2; simp at h2)
   | cons k r=>exact⟨k,bY⟩
  obtain⟨T,hT⟩:=xH.mp (iA.mp hs.2 k0 m0)
  have sm : ∀ k∈kss,∀ k'∈kss,gR k k'=true:=fun k m k' m'=>iA.mp (iA.mp hs.1 k m) k' m'
  have ht':=ht.keep kp
  refine Jz (κ:=tuples' (kE T != kE "tuple")) (ZK kss) ho (by omega) h64 (fun R q=>?_) (fun i j C hi hj q=>?_) fun p hp ha=>?_
  ·obtain⟨fs,f1,f2,f3⟩:=PU (M:=aP prog w) ht' fun k m=>(same_kind (sm k m k0 m0)).trans hT
   exact kat_kind f1 (by omega) f3 (by rcases Lm hT with rfl | rfl <;> decide) q
  ·obtain⟨b,e1,⟨_,_,as,r1⟩,m1⟩:=ht'.get i hi
   obtain⟨b',e2,⟨_,_,as',r2⟩,m2⟩:=ht'.get j hj
   rw[e1,e2]
   obtain⟨_,o,xs,n,z,ho,_,hd,hr⟩:=sP r1
   cases z
   obtain⟨_,o',xs',n',z,ho',_,hd',hr'⟩:=sP r2
   cases z
   have hsm:=sm _ m1 _ m2
   have l1:=FM hr
   have l2:=FM hr'
   have ll:=FL hsm
   have:decide (xs.size<xs'.size)=false:=decide_eq_false (by simp only[mP] at l1 l2; omega)
   refine kat_lt (s:={ s with heap:=jI s.heap a vs }) ho hd ho' hd' ?_
   rw[this]
   exact CQ _ _ 0 hsm hr hr' q
  ·have hp':p.toList.Perm (dF vs.length):=by simpa using Array.perm_iff_toList_perm.mp hp
   have pl:p.toList.length=vs.length:=by rw[hp'.length_eq,List.length_range]
   refine h p.toList hp' (PB ok ?_ ?_)
   ·have:=hp'.map (fun i=>kss.getD i [])
    rw[ln,ES kss] at this
    exact this
   ·rw[tY,List.pairwise_iff_getElem]
    intro i j hi hj hij
    refine Ai2.mpr ?_
    have:=ha i j (IR hij) (by omega)
    have e1:at' p i=p.toList[i]:=by simp at hi; simp[at',hi]
    have e2:at' p j=p.toList[j]:=by simp at hj; simp[at',hj]
    rw[e1,e2] at this
    exact of_decide_eq_false this
theorem MO {α β:Type}{R:α->β->Prop}{as:List α}{bs:List β}(h:dI R as bs)(x:α)(y:β) : ∀ p:List Nat,(∀ i∈p,i<as.length)->dI R (p.map fun i=>as.getD i x) (p.map fun i=>bs.getD i y)
 | [],_=>.nil
 | i::p,hi=>by
  refine .cons ?_ (MO h x y p fun j m=>hi j (cA _ m))
  have hlt:=hi i bY
  obtain⟨b,hb,r⟩:=SN h (lC hlt)
  have e1:as.getD i x=as[i]:=by simp[hlt]
  have e2:bs.getD i y=b:=by simp[hb]
  show R (as.getD i x) (bs.getD i y)
  rw[e1,e2]
  exact r
end
theorem Nd {a:aB}{ep:Nat}{kvs:List (aN×V)}{g:TG}{tb:TS}{D:Ends}{σ:St}{H:Hp}(Pv:Nat->St->Hp->Prop)(h0:Pv 0 σ H)(hl : ∀ i σ H,i≤kvs.length->Pv i σ H->H a=some (.dK ep kvs))
  (hs : ∀ i kv σ H,kvs[i]?=some kv->Pv i σ H->g (kV kv.1) σ H fun σ2 H2=>tb { D with nx:=Pv (i+1),ct:=Pv (i+1),bk:=D.nx } σ2 H2) (hd : ∀ σ H,Pv kvs.length σ H->D.nx σ H) :
  ∃ W:Nat->Nat->St->Hp->Prop,(∃ m,W 0 m σ H) /\ ∀ i m σ H,W i m σ H ->
   ((uG a ep kvs.length).stop i H/\D.nx σ H) \/ ((uG a ep kvs.length).go i H /\ ∃ N:St->Hp->Prop,(∀ σ' H',N σ' H' -> ∃ m',m'<m/\W (i+1) m' σ' H') /\ ∀ x H',(uG a ep kvs.length).yld i H x H'->g x σ H' fun σ2 H2=>tb { D with nx:=N,ct:=N,bk:=D.nx } σ2 H2):=by
 refine⟨fun i m σ H=>m=kvs.length - i/\i≤kvs.length/\Pv i σ H,⟨kvs.length,by simp,fH _,h0⟩,?_⟩
 rintro i m σ H ⟨rfl,hi,p⟩
 have q:=hl i σ H hi p
 by_cases hlt:i<kvs.length
 ·refine .inr ⟨⟨kvs,kvs[i],q,rfl,by simp[hlt]⟩,Pv (i+1),fun σ' H' p'=>⟨kvs.length - (i+1),by omega,rfl,hlt,p'⟩,fun x H' y=>?_⟩
  obtain⟨rfl,y⟩:=y
  obtain⟨kv,h1,rfl⟩:=y kvs q
  exact hs i kv σ _ h1 p
 ·have e:i=kvs.length:=by omega
  subst e
  exact .inl ⟨⟨kvs,q,rfl,bX _⟩,hd σ H p⟩
section
variable {X:Cx}
theorem Gy (hc:X.calm=true):Ac8 X (.builtin "sorted") (fun xs H Q=>∃ a ep kvs,∃ ns:List aD,xs=[.ref a]/\H a=some (.dK ep kvs)/\(kvs.map fun kv=>kV kv.1)=ns.map V.str/\ns.length<64 /\ ∀ (l:aB) (ns':List aD),H l=none->ns'.Perm ns->ns'.Pairwise leS->Q (.ref l) (upd H l (.lst (ns'.map V.str)))):=by
 intro pins s σ H xs us Q I r h
 obtain⟨a,ep1,kvs,ns,rfl,ha,hk,hl,q⟩:=h
 obtain⟨u,rfl,ru⟩:=vals1 r
 cases ru
 obtain⟨z,nm,es,ep,D,rv,el⟩:=Jh I ha
 have hh:=I.ok.hd hc
 refine VT kind_sorted plain_sorted entry_sorted (args_sorted1 _) ?_
 unfold Builtin.«sorted»
 have hkl:kvs.length=ns.length:=by simpa using congrArg xK hk
 refine aK (aZ (aK (RK (by simp[hh]) nm D (by omega) fun s' acc hkp hg hd hos hacc=>aK (HZ ?_ (by
  have:=hacc.1
  rw[mP,this]
  omega)))))
 obtain⟨h',g',d',tk',os'⟩:=s'
 have e1:=hg
 have e2:=hd
 have e3:=hos
 subst e1 e2 e3
 rw[← OM hacc,hk] at rv
 have hS:=KL rv
 have hlen:acc.toList.length<64:=by
  have:=hacc.1
  rw[mP,this]
  omega
 generalize acc.toList=vs at rv hS hlen
 have hoL:(h'.push (kW "list" vs.toArray 0)).get? h'.objs.size=some (kW "list" vs.toArray 0):=eY _ rfl
 refine aK (iG (qT slot_list_sort ⟨_,hoL,rfl⟩ entry_list_sort (list_sort_treeK strKind_oneLt hoL hS.keysOf (fun v₁ v₂ rest e=>keyKind_strs (by rw[← e]; exact hS)) hlen fun st' a1 a2=>⟨_,rfl,?_⟩) (args_list_sort _)))
 refine aZ ⟨_,rfl,?_⟩
 obtain⟨ss',h1,h2,h3⟩:=sorted_out_str hS a1 a2
 obtain⟨e,he⟩:=sortedHeap_at hoL
 have I1:Inv X pins σ H { s with heap:=h',toks:=tk' }:=I.kept (t':=tk') hkp
 refine⟨.ref h'.objs.size,_,I1.laid (t':=tk') (a:=h'.objs.size) (o:=.lst (ss'.map V.str)) (fun b ob eb=>?_) (bX _) ⟨by rw[cP,h2.length_eq]; omega,_,e,KO h1,he⟩,rfl,q _ ss' I1.fresh h2 (Fb h3)⟩
 have hb:=cD (show h'.get? b=some ob from eb)
 rw[sortedHeap_old (dA hb) (by rw[size_push']; exact IQ hb),Heap.get?_push_ne _ _ _ (dA hb)]
 exact eb
noncomputable def DP:List aA->Option aA
 | [.dict kds]=>(yA (kds.map (·.1))).bind fun is=>if (plK kds&&kds.all fun kd=>dE kd.1)=true/\is.length<64 then some (.list ((HJ is).map dH)) else none
 | _=>none
theorem Gu {K:aH}:CallD K 1 (fun xs H Q=>∃ a ep kvs,∃ ns:List aD,xs=[.ref a]/\H a=some (.dK ep kvs)/\(kvs.map fun kv=>kV kv.1)=ns.map V.str/\ns.length<64 /\ ∀ (l:aB) (ns':List aD),H l=none->ns'.Perm ns->ns'.Pairwise leS->Q (.ref l) (upd H l (.lst (ns'.map V.str)))) DP:=fun P H xs ds d Q hP r e k=>by
 unfold DP at e
 split at e
 ·obtain⟨is,e1,e2⟩:=XBs e
  obtain⟨⟨hl,hn⟩,rfl⟩:=cT e2
  obtain⟨pk,hl⟩:=lN.mp hl
  obtain⟨v,rfl,r'⟩:=fV r
  obtain⟨a,kvs,rfl,hq,rr⟩:=(yW pk).mp r'
  have rk:=PY rr fun kd m=>iA.mp hl kd m
  rw[ML e1] at rk
  obtain⟨ek,hc⟩:=RQ rk
  refine⟨a,kvs.1,kvs.2,is,rfl,Aax _ _ hq,ek,hn,fun l ns' hf hp hr=>?_⟩
  have hc' : ∀ i∈ns',dE (.str i)=true:=fun i m=>hc i (hp.mem_iff.mp m)
  obtain rfl:=Cj hp hr
  exact k.lst hP hf (QQ hc')
 ·cases e
theorem SA (hc:X.calm=true):Ac8 X (.builtin "sorted") (fun xs H Q=>∃ a ep,∃ kvs:List (List aA×V),xs=[.ref a]/\H a=some (.dT ep kvs)/\okT (kvs.map (·.1))=true/\kvs.length<64 /\ ∀ (l:aB) (as:List aB),H l=none->dI (fun(k:List aA) (b:aB)=>Ajf H k b) (jS (kvs.map (·.1))) as->Q (.ref l) (upd H l (.lst (as.map V.ref)))):=by
 intro pins s σ H xs us Q I r h
 obtain⟨a,ep,kvs,rfl,ha,ok,hl,q⟩:=h
 obtain⟨u,rfl,ru⟩:=vals1 r
 cases ru
 obtain⟨z,nm,ys,kt,o,es,e1,e2,e3,e4,_⟩:=(show Acs X.prog X.w H s.heap a (.dT ep kvs) from I.hok a _ ha)
 have el:es.size=kvs.length:=by
  have:=congrArg xK e4
  rw[cP,← nT kt] at this
  simpa using this
 have hp:dI (fun(p:List aA×V) (b:aB)=>Ajf H p.1 b) kvs (ys.map fun y=>y.2.1):=Ap kt
 have rv:Vals ((ys.map fun y=>y.2.1).map V.ref) (es.toList.map (·.key)):=by
  rw[e4]
  exact OX ys
 have hh:=I.ok.hd hc
 generalize(ys.map fun y=>y.2.1)=as at hp rv
 refine VT kind_sorted plain_sorted entry_sorted (args_sorted1 _) ?_
 unfold Builtin.«sorted»
 refine aK (aZ (aK (RK (by simp[hh]) nm ⟨o,e1,e2,e3⟩ (by omega) fun s' acc hkp hg hd hos hacc=>aK (HZ ?_ (by
  have:=hacc.1
  rw[mP,this]
  omega)))))
 obtain⟨h',g',d',tk',os'⟩:=s'
 have e1:=hg
 have e2:=hd
 have e3:=hos
 subst e1 e2 e3
 rw[← OM hacc] at rv
 have hlen:acc.toList.length<64:=by
  have:=hacc.1
  rw[mP,this]
  omega
 generalize acc.toList=vs at rv hlen
 have rf:SC H (as.map V.ref) (kvs.map (·.1)):=by
  clear rv ha ok hl q z kt el
  induction hp with
  | nil=>exact .nil
  | cons h t ih=>exact .cons ⟨_,rfl,h⟩ ih
 have tv:=LQ I.hok rf rv
 have hoL:(h'.push (kW "list" vs.toArray 0)).get? h'.objs.size=some (kW "list" vs.toArray 0):=eY _ rfl
 refine aK (iG (qT slot_list_sort ⟨_,hoL,rfl⟩ entry_list_sort (Ny hoL tv (fun b ob eb=>?_) ok hlen fun p hp' hs=>⟨_,rfl,?_⟩) (args_list_sort _)))
 ·have hb:=cD (hkp b ob eb)
  exact Jl b ob (dA hb) (cN _ (hkp b ob eb))
 refine aZ ⟨_,rfl,?_⟩
 obtain⟨e,he⟩:=sortedHeap_at hoL
 have I1:Inv X pins σ H { s with heap:=h',toks:=tk' }:=I.kept (t':=tk') hkp
 have hv:vs.length=as.length:=by simpa using rv.length.symm
 have hi : ∀ i∈p,i<as.length:=fun i m=>by
  have:=kJ.mp (hp'.mem_iff.mp m)
  omega
 have pk:=MO rf (V.ref 0) [] p (by simpa using hi)
 have pv:Vals (p.map fun i=>(as.map V.ref).getD i (V.ref 0)) (p.map fun i=>vs.getD i fX):=by
  have : ∀ q:List Nat,(∀ i∈q,i<as.length)->Vals (q.map fun i=>(as.map V.ref).getD i (V.ref 0)) (q.map fun i=>vs.getD i fX):=fun q=>by
   induction q with
   | nil=>exact fun _=>.nil
   | cons i q ih=>
    intro h
    refine .cons ?_ (ih fun j m=>h j (cA _ m))
    have hi:=h i bY
    show RelV ((as.map V.ref).getD i (V.ref 0)) (vs.getD i fX)
    obtain⟨u,g1,g2⟩:=Vals.get (i:=i) (x:=.ref as[i]) rv (by simp[hi])
    have:(as.map V.ref).getD i (V.ref 0) = .ref as[i]:=by simp[List.getD,hi]
    rw[this]
    have:vs.getD i fX=u:=by simp[List.getD,g1]
    rw[this]
    exact g2
  exact this p hi
 rw[hs] at pk
 have em:(p.map fun i=>(as.map V.ref).getD i (V.ref 0))=(p.map fun i=>as.getD i 0).map V.ref:=by
  rw[gN]
  refine tZ fun i m=>?_
  simp[List.getD,hi i m]
 rw[em] at pk pv
 have pk2:dI (fun(k:List aA) (b:aB)=>Ajf H k b) (jS (kvs.map (·.1))) (p.map fun i=>as.getD i 0):=by
  generalize(p.map fun i=>as.getD i 0)=bs at pk
  generalize jS (kvs.map (·.1))=kss at pk
  clear pv em he hs
  induction bs generalizing kss with
  | nil=>cases pk; exact .nil
  | cons b bs ih=>
   cases pk with
   | cons h t=>
    obtain⟨b',e',h⟩:=h
    cases e'
    exact .cons h (ih _ t)
 have hz:((p.map fun i=>as.getD i 0).map V.ref).length≤sizeLine:=by
  rw[cP,cP,hp'.length_eq,List.length_range,tN]
  omega
 refine⟨.ref h'.objs.size,_,I1.laid (t':=tk') (a:=h'.objs.size) (o:=.lst ((p.map fun i=>as.getD i 0).map V.ref)) (fun b ob eb=>?_) (bX _) ⟨hz,_,e,pv,he⟩,rfl,q _ _ I1.fresh pk2⟩
 have hb:=cD (show h'.get? b=some ob from eb)
 rw[sortedHeap_old (dA hb) (by rw[size_push']; exact IQ hb),Heap.get?_push_ne _ _ _ (dA hb)]
 exact eb
noncomputable def vE:List aA->Option aA
 | [.dict ((.none,.none)::kds)]=>(kL (kds.map (·.1))).bind fun kss=>if okT kss=true/\kss.length<64 then some (.list ((jS kss).map gY)) else none
 | _=>none
theorem sH {K:aH}{H:Hp} : ∀ {kds:List (aA×aA)} {ts:List (List aA×V)},Abx K H kds ts->kds.map (·.1)=(ts.map (·.1)).map gY
 | [],ts,r=>by rw[Abz.mp r]; rfl
 | (k,d)::kds,ts,r=>by
  obtain⟨k',x,rr,rfl,⟨rfl,_⟩,h1,h2⟩:=Aa2.mp r
  rw[dJ,sH h2]
  rfl
theorem LF {K:aH}{H1 G:Hp}(x : ∀ c ys,H1 c=some (.tup ys)->G c=some (.tup ys)) : ∀ {kss:List (List aA)} {as:List aB},dI (fun(k:List aA) (b:aB)=>Ajf H1 k b) kss as->Aar K G (kss.map gY) (as.map V.ref)
 | _,_,.nil=>Aan.mpr rfl
 | _,_,.cons h t=>Aad.mpr ⟨_,_,rfl,(h.keep x).rep,LF x t⟩
theorem RS {K:aH}:CallD K 1 (fun xs H Q=>∃ a ep,∃ kvs:List (List aA×V),xs=[.ref a]/\H a=some (.dT ep kvs)/\okT (kvs.map (·.1))=true/\kvs.length<64 /\ ∀ (l:aB) (as:List aB),H l=none->dI (fun(k:List aA) (b:aB)=>Ajf H k b) (jS (kvs.map (·.1))) as->Q (.ref l) (upd H l (.lst (as.map V.ref)))) vE:=fun P H xs ds d Q hP r e k=>by
 unfold vE at e
 split at e
 ·obtain⟨kss,e1,e2⟩:=XBs e
  obtain⟨⟨ok,hn⟩,rfl⟩:=cT e2
  obtain⟨v,rfl,r'⟩:=fV r
  obtain⟨a,ts,rfl,hq,rr⟩:=(oU).mp r'
  have ek:=sH rr
  have ek2:=(OD e1).1
  rw[ek2] at ek
  have:ts.2.map (·.1)=kss:=by
   have inj : ∀ l l':List (List aA),l.map gY=l'.map gY->l=l':=fun l=>by
    induction l with
    | nil=>intro l' h; cases l' <;> simp at h ⊢
    | cons a l ih=>
     intro l' h
     cases l' with
     | nil=>simp at h
     | cons b l'=>
      simp only[dJ,BA,PyData.tuple.injEq] at h
      rw[h.1,ih l' h.2]
   exact(inj _ _ ek).symm
  subst this
  refine⟨a,ts.1,ts.2,rfl,Aax _ _ hq,ok,by simpa using hn,fun l as hf pr=>k.lst hP hf ?_⟩
  exact LF (fun c ys ec=>hP.tup ec) pr
 ·cases e
end
noncomputable def BL (a:aB)(ep n:Nat):It:=
 ⟨fun i H=>∃ kvs kv,H a=some (.dK ep kvs)/\kvs.length=n/\kvs[i]?=some kv,fun i H x H'=>H'=H /\ ∀ kvs,H a=some (.dK ep kvs) -> ∃ kv,kvs[i]?=some kv/\x=kv.2,fun i H=>∃ kvs,H a=some (.dK ep kvs)/\kvs.length=n/\n≤i⟩
theorem Bt {P:bC}{w:aW}{K:aH}{tg:aS}(a it:aB)(ep n:Nat):Turn P w K tg (BL a ep n) [it] it (fun i h=>h.IsValIter it a i n ep) where
 mem:=dB.mpr rfl
 obj:=fun i h ⟨o,e,_,d⟩ b hb=>by
  rw[dB.mp hb]
  exact⟨o,e,fun v z=>by rw[d] at z; cases z⟩
 keep:=fun i h h' st k=>st.at fun o e=>k it (dB.mpr rfl) o e
 item:=by
  intro X hP hw hK hc i pins s σ H E I hf st hg
  subst hP hw hK
  obtain⟨kvs,kv,ha,hn,hk⟩:=hg
  subst hn
  obtain⟨z,nm,vs,r,d⟩:=pT I.hok (.inl ha)
  have hl:kvs.length=vs.length:=r.length
  obtain⟨u,hu,r1,r2⟩:=CL r hk
  obtain⟨uk,uv⟩:=u
  rw[hl] at st
  refine wpAny_pyNext_values_item st d hu fun h' st' sb=>?_
  have I1:Inv X pins σ H { s with heap:=h' }:=I.turnM (t':=s.toks) hf fun b o nb e=>sb.extBut b o (fun q=>nb (dB.mpr q)) e
  obtain⟨o,e,c,dd⟩:=id st'
  refine⟨uv,rfl,rO (s:={ s with heap:=h' }) e c dd (by decide) ⟨kv.2,H,I1,r2,⟨rfl,fun kvs' h2=>?_⟩,by rw[hl]; exact st',fun b hb=>(hf b hb).1⟩⟩
  rw[ha] at h2
  cases h2
  exact⟨kv,hk,rfl⟩
 done:=by
  intro X hP hw hK hc i pins s σ H E I hf st hg
  subst hP hw hK
  obtain⟨kvs,ha,hn,hi⟩:=hg
  subst hn
  obtain⟨z,nm,vs,r,d⟩:=pT I.hok (.inl ha)
  have hl:kvs.length=vs.length:=r.length
  rw[hl] at st
  exact wpAny_pyNext_values_end (I.ok.hd hc) st d (by simp; omega) fun h' eb=>⟨rfl,I.turnM (t':=s.toks) hf fun b o nb e=>eb b o (fun q=>nb (dB.mpr q)) e⟩
 self:=fun _ _ _ _ _ st h=>wpAny_pyIter_valiter st h
section
variable {X:Cx}{l e tg:aS}{apos pos:bL}
noncomputable def XA (tl:TE):TI:=fun σ H R=>tl σ H fun x H1=>∃ a ep kvs,x = .ref a/\H1 a=some (.dK ep kvs)/\R (BL a ep kvs.length) H1
theorem Lp {tl:TE}(hl:PE X l tl)(hbase:pE l "values" X.env (bI l X.env)=bI l X.env:=by rfl)(hline:(apos.endLine == pos.line)=true:=by rfl):PI X tg (.Call (.Attribute l "values" apos) [] [] pos) (XA tl):=by
 intro pins s σ H R I h
 refine wpAny_Call_method hbase rfl hline F.plainAttrs_dict F.slot_dict_values F.type_dict_values (thn (hl pins s σ H _ I h) fun v s1 gh=>?_)
 obtain⟨x,H1,I1,r1,q1⟩:=gh
 obtain⟨a,ep,kvs,rfl,ha,q⟩:=q1
 cases r1
 obtain⟨z,nm,vs,r,d⟩:=pT I1.hok (.inl ha)
 obtain⟨_,_,vs2,_,dd⟩:=HH I1.hok ha
 have hn:=r.length
 refine⟨dd.typeIs,dd.mapOf.noDict,?_⟩
 refine method_meetsIn F.slot_dict_values F.entry_dict_values rfl (PySem.evalArgs_none ⟨rfl,dd.typeIs,F.args_dict_values_1 _,_,meets_dict_values _ a nm,⟨vs2,dd⟩,?_⟩)
 have d2:(s1.heap.push { cls:=.type "dict_values",data:=.fields #[.ref a] }).DictAt (eA X.prog X.w) a vs ep:=by
  obtain⟨o,es,ho,rr⟩:=d
  exact⟨o,es,cN _ ho,rr⟩
 refine wpAny_pyIter_values ⟨_,eY _ rfl,rfl,rfl⟩ d2 ?_
 have all : ∀ b o,s1.heap.get? b=some o->((s1.heap.push { cls:=.type "dict_values",data:=.fields #[.ref a] }).push { cls:=.type "dict_valueiterator",data:=.fields #[.ref a,.int 0 0,.int vs.length 0,.int ep 0] }).get? b=some o:=fun b o e=>cN _ (cN _ e)
 refine⟨_,[_],_,_,H1,rfl,I1.kept all,Bt a _ ep kvs.length,?_,fun b hb=>?_,q⟩
 ·rw[hn]
  exact⟨_,eY _ rfl,rfl,rfl⟩
 ·rw[dB.mp hb]
  have le:s1.heap.objs.size≤(s1.heap.push { cls:=.type "dict_values",data:=.fields #[.ref a] }).objs.size:=by
   rw[JA]
   omega
  exact I1.fpOk le (I1.hok.fresh le)
noncomputable def iDV (f:EF):AF:=fun ρ=>(f ρ).bind fun d=>match d with
 | .dict kds=>if plK kds=true then some (kds.map (·.2)) else none
 | _=>none
theorem Os {K:aH}{B:Hp}{a:aB}{ep:Nat}{kvs:List (aN×V)}{kds:List (aA×aA)}(h:B a=some (.dK ep kvs))(r:Abp K B kds kvs):ItD K B (BL a ep kvs.length) (kds.map (·.2)):=fun i H2 x2=>by
 have h2:=x2 _ _ h
 refine⟨fun d hd=>?_,fun e=>⟨kvs,h2,rfl,by rw[← e,cP,r.length]; exact bX _⟩⟩
 rw[gZ] at hd
 obtain⟨kd,hk,rfl⟩:=tX.mp hd
 obtain⟨kv,g1,g2,g3⟩:=NA r hk
 refine⟨⟨kvs,kv,h2,rfl,g1⟩,?_⟩
 rintro x H3 ⟨rfl,hx⟩
 obtain⟨kv',q1,rfl⟩:=hx kvs h2
 have:=eO (q1.symm.trans g1)
 subst this
 exact⟨Ext.refl,fun P2 _ xb=>g3.ext xb⟩
theorem Li {f:EF}(h:DE X l f)(hbase:pE l "values" X.env (bI l X.env)=bI l X.env:=by rfl)(hline:(apos.endLine == pos.line)=true:=by rfl):DI X tg (.Call (.Attribute l "values" apos) [] [] pos) (iDV f):=PI.imp (Lp h hbase hline) fun σ H R gh=>by
 obtain⟨P,ρ,ds,hP,rs,ef,k⟩:=gh
 obtain⟨d,e1,ef⟩:=XBs ef
 cases d with
 | dict kds=>
  obtain⟨pk,rfl⟩:=cT ef
  refine⟨P,ρ,_,hP,rs,e1,cG fun v H1 x1 r1=>?_⟩
  obtain⟨a,kvs,rfl,hq,rr⟩:=(yW pk).mp r1
  exact⟨a,kvs.1,kvs.2,rfl,Aax _ _ hq,k _ H1 x1 (Os hq rr)⟩
 | _=>cases ef
end
noncomputable def rM (kds:List (aA×aA)):List (aA×aA):=kds.map fun kd=>(kd.1,.dict [(.none,.none)])
noncomputable def uV (c x:aD)(Fa:List aA->Option aA):FX:=open Classical in fun z ds=>match ds with
 | [d]=>(Fa [d]).bind fun b=>match b with
  | .bool true=>(pZ [d]).bind fun w=>match w with
   | .dict kds=>if (∀ kd∈kds,fM kd.2=true)/\(kds.map (·.1)).Nodup/\kds.length<sizeLine then some (bK c (.dict kds) (.dict (rM kds))) else none
   | _=>none
  | .bool false=>if z=some x then some (rsD x) else none
  | _=>none
 | _=>none
theorem Ee {c x:aD}{Fa:List aA->Option aA} : ∀ z ds d,uV c x Fa z ds=some d -> ∃ d1,ds=[d1]:=fun z ds d h=>by
 unfold uV at h
 split at h
 ·exact⟨_,rfl⟩
 ·cases h
theorem Gn {c x:aD}{Fa:List aA->Option aA}{z:Option aD}{d1 d:aA}(h:uV c x Fa z [d1]=some d) :
  (Fa [d1]=some (.bool false)/\z=some x/\d=rsD x) \/ ∃ kds,Fa [d1]=some (.bool true)/\pZ [d1]=some (.dict kds)/\(∀ kd∈kds,fM kd.2=true)/\(kds.map (·.1)).Nodup/\kds.length<sizeLine/\d=bK c (.dict kds) (.dict (rM kds)):=by
 have h:((Fa [d1]).bind fun b=>_)=some d:=h
 obtain⟨b,e1,h⟩:=XBs h
 split at h
 ·obtain⟨w,e2,h⟩:=XBs h
  split at h
  ·obtain⟨⟨h1,h2,h3⟩,rfl⟩:=cT h
   exact .inr ⟨_,e1,e2,h1,h2,h3,rfl⟩
  ·cases h
 ·obtain⟨h1,rfl⟩:=cT h
  exact .inl ⟨e1,h1,rfl⟩
 ·cases h
noncomputable def hvZ (kvs:List (aN×V))(ps:List aB):List (aN×V):=List.zipWith (fun kv p=>(kv.1,V.ref p)) kvs ps
theorem NJ : ∀ {kvs:List (aN×V)} {ps:List aB} {kv:aN×V} {p:aB},kvs[ps.length]?=some kv->hvZ kvs (ps++[p])=hvZ kvs ps++[(kv.1,V.ref p)]
 | k::kvs,[],kv,p,e=>by
  cases e
  simp[hvZ]
 | k::kvs,q::ps,kv,p,e=>by
  show _::hvZ kvs (ps++[p])=_::(hvZ kvs ps++_)
  rw[NJ (kv:=kv) (by simpa using e)]
 | [],ps,kv,p,e=>by simp at e
theorem La : ∀ {kvs:List (aN×V)} {ps:List aB},ps.length≤kvs.length->(hvZ kvs ps).length=ps.length:=fun {kvs ps} h=>by
 unfold hvZ
 rw[List.length_zipWith]
 omega
theorem LX : ∀ {kvs:List (aN×V)} {ps:List aB} {e:aN×V},e∈hvZ kvs ps -> ∃ i kv,i<ps.length/\kvs[i]?=some kv/\e.1=kv.1
 | [],ps,e,m=>by simp[hvZ] at m
 | k::kvs,[],e,m=>by simp[hvZ] at m
 | k::kvs,p::ps,e,m=>by
  have m:e∈(k.1,V.ref p)::hvZ kvs ps:=m
  rcases cJ.mp m with rfl | m
  ·exact⟨0,k,by simp,rfl,rfl⟩
  ·obtain⟨i,kv,h1,h2,h3⟩:=LX m
   exact⟨i+1,kv,by simpa using h1,by simpa using h2,h3⟩
theorem PK {k:aN} : ∀ {l:List (aN×V)},(∀ e∈l,e.1≠k)->dC l k=none
 | [],_=>rfl
 | e::l,h=>by
  have h1:=h e bY
  have h2:=PK fun e m=>h e (cA _ m)
  unfold dC at h2 ⊢
  simp[gD,h1] at h2 ⊢
  first | exact h2 | simp_all
theorem Mp {kvs:List (aN×V)}{ps:List aB}{kv:aN×V}(nd:(kvs.map (·.1)).Nodup)(e:kvs[ps.length]?=some kv):dC (hvZ kvs ps) kv.1=none:=PK fun x m=>by
 obtain⟨i,kv',h1,h2,h3⟩:=LX m
 rw[h3]
 intro z
 have hl:=(fI.mp e).1
 have g1:(kvs.map (·.1))[i]?=some kv'.1:=by rw[gZ,h2]; rfl
 have g2:(kvs.map (·.1))[ps.length]?=some kv.1:=by rw[gZ,e]; rfl
 have:=(List.getElem?_inj (l:=kvs.map (·.1)) (i:=i) (j:=ps.length) (by simpa using(fI.mp h2).1) nd).mp (by rw[g1,g2,z])
 omega
theorem QA {K:aH}{H:Hp} : ∀ {kds:List (aA×aA)} {kvs:List (aN×V)},Abp K H kds kvs->kds.map (·.1)=(kvs.map (·.1)).map kD
 | [],kvs,r=>by rw[Abn.mp r]; rfl
 | (k,d)::ds,kvs,r=>by
  obtain⟨k',x,t,rfl,ek,r1,r2⟩:=Aay.mp r
  rw[dJ,QA r2,ek]
  rfl
theorem OA {K:aH}{B B2 H:Hp} : ∀ {kds:List (aA×aA)} {kvs:List (aN×V)} {ps:List aB},Abp K B2 kds kvs->ps.length=kvs.length->(∀ p∈ps,H p=some (.dT 0 []))->All3 (HeldAt K B H) (rM kds) (hvZ kvs ps) ps
 | [],kvs,ps,r,hl,hp=>by
  rw[Abn.mp r] at hl ⊢
  cases ps with
  | nil=>exact .nil
  | cons _ _=>simp at hl
 | (k,d)::kds,kvs,ps,r,hl,hp=>by
  obtain⟨k',y,t,rfl,ek,h1,h2⟩:=Aay.mp r
  cases ps with
  | nil=>simp at hl
  | cons p ps=>exact .cons ⟨ek,rfl,[],p,(0,[]),rfl,rfl,hp p bY,rfl,fun kd m=>by simp at m,Abz.mpr rfl⟩ (OA h2 (by simpa using hl) fun q m=>hp q (cA _ m))
theorem Ng {K:aH}{P0:aB->Prop}{Hw H':Hp}{c:aD}{C dx x w q:aB}{kds:List (aA×aA)}{kvs:Nat×List (aN×V)}{n:Nat}{ps:List aB}(hc:cX K c=some (.ref C))(hx:H' x=some (.ins C dx [("wide",.ref w),("held",.ref q)]))(hw:H' w=some (.dK kvs.1 kvs.2))
  (hq:H' q=some (.dK n (hvZ kvs.2 ps))) (hl:ps.length=kvs.2.length) (hp : ∀ p∈ps,H' p=some (.dT 0 [])) (fl : ∀ kd∈kds,fM kd.2=true) (rk:Abp K (hid Hw (orL P0 [w])) kds kvs.2) (kp : ∀ b o,b≠x->Hw b=some o->H' b=some o) (hn : ∀ xs,Hw x≠some (.tup xs)) :
  Aec K (hid H' (orL P0 (x::w::q::ps))) H' 9 (bK c (.dict kds) (.dict (rM kds))) (.ref x) (x::w::q::ps):=by
 refine(bE (.inr ⟨⟨c,C,dx,x,w,q,kds,rM kds,kvs,(n,hvZ kvs.2 ps),ps,rfl,rfl,hc,hx,hw,fl,?_,hq,rfl,OA rk hl hp⟩⟩):_ \/ Afb _ _ _ _ _ _ \/ RepB _ _ _ _ _ _)
 refine rk.flat (fun a xs e=>?_) fl
 obtain⟨na,e⟩:=Ab3.mp e
 have nx:a≠x:=fun z=>by rw[z] at e; exact hn xs e
 have e2:=kp a _ nx e
 refine dZ (fun z=>?_) e2
 rcases z with z | z
 ·exact na (.inl z)
 ·simp only[cJ] at z
  rcases z with z | z | z | z
  ·exact nx z
  ·rw[z,hw] at e2; cases e2
  ·rw[z,hq] at e2; cases e2
  ·rw[hp a z] at e2; cases e2
noncomputable def sOr (F G:SF):SF:=fun ρ=>(F ρ).or (G ρ)
noncomputable def gP (hds:List (aA×aA))(t:aD)(d:aA):List (aA×aA):=hds.map fun kd=>if cU kd.1=some (.inr t) then(kd.1,d) else kd
theorem Lo {hds:List (aA×aA)}{t:aD}{d:aA}(h : ∀ kd∈hds,kd.1 ≠ .str t):gP hds t d=hds:=by
 unfold gP
 refine(tZ fun kd m=>?_).trans (IY hds)
 rw[if_neg]
 ·rfl
 ·intro e
  apply h kd m
  cases q:kd.1 <;> rw[q] at e <;> simp[cU] at e
  rw[e]
theorem MW {K:aH}{B H:Hp}{t:aD}{dd:aA} : ∀ {hds:List (aA×aA)} {hvs:List (aN×V)} {ps:List aB},All3 (HeldAt K B H) hds hvs ps->cQ hds (.inr t)=some dd->(hds.map (·.1)).Nodup->ps.Nodup ->
  ∃ p,dC hvs (.inr t)=some (.ref p)/\p∈ps/\Afb K B H dd (.ref p) [p] /\ ∀ B' H' dd',Ext B B'->(∀ q∈ps,q≠p->H' q=H q)->Afb K B' H' dd' (.ref p) [p]->All3 (HeldAt K B' H') (gP hds t dd') hvs ps
 | _,_,_,.nil,e,_,_=>by cases e
 | kd::hds,kv::hvs,p::ps,.cons h t',e,nd,np=>by
  rw[dJ,fS] at nd
  rw[fS] at np
  by_cases c:kv.1 = .inr t
  ·have ck:kd.1 = .str t:=by rw[h.1,c]; rfl
   have ek:cU kd.1=some (.inr t):=by rw[ck]; rfl
   have ed:kd.2=dd:=by
    unfold cQ at e
    rw[gD,ek] at e
    simpa using e
   refine⟨p,?_,bY,by rw[← ed]; exact h.2.2,fun B' H' dd' xb kp r=>?_⟩
   ·unfold dC
    rw[gD,c]
    simp[h.2.1]
   ·have e1:gP (kd::hds) t dd'=(kd.1,dd')::gP hds t dd':=by
     unfold gP
     rw[dJ,if_pos ek]
    rw[e1,Lo fun x m z=>nd.1 (by rw[ck]; exact cL.mpr ⟨x,m,z⟩)]
    refine .cons ⟨h.1,h.2.1,r⟩ (t'.imp fun a b q m hq=>⟨hq.1,hq.2.1,hq.2.2.keep xb fun z mz=>?_⟩)
    rw[dB.mp mz]
    exact kp q (cA _ m) fun z=>np.1 (z ▸ m)
  ·have ek:cU kd.1≠some (.inr t):=by
    rw[h.1,sI]
    exact fun z=>c (eO z)
   have e':cQ hds (.inr t)=some dd:=by
    unfold cQ at e ⊢
    rw[gD] at e
    simpa [ek] using e
   obtain⟨p',h1,h2,h3,h4⟩:=MW t' e' nd.2 np.2
   refine⟨p',?_,cA _ h2,h3,fun B' H' dd' xb kp r=>?_⟩
   ·unfold dC at h1 ⊢
    rw[gD]
    simpa [c] using h1
   ·have e1:gP (kd::hds) t dd'=kd::gP hds t dd':=by
     unfold gP
     rw[dJ,if_neg ek]
    rw[e1]
    refine .cons ⟨h.1,h.2.1,h.2.2.keep xb fun z mz=>?_⟩ (h4 B' H' dd' xb (fun q m=>kp q (cA _ m)) r)
    rw[dB.mp mz]
    exact kp p bY fun z=>np.1 (z ▸ h2)
theorem RepB.at {K:aH}{B H:Hp}{c t:aD}{W:aA}{hds:List (aA×aA)}{v:V}{F:List aB}{kds:List (aA×aA)}(h:RepB K B H (bK c W (.dict hds)) v F)(nF:F.Nodup)(e:cQ hds (.inr t)=some (.dict ((.none,.none)::kds)))(nd:(hds.map (·.1)).Nodup) :
  ∃ a C dx w q p,∃ hvs:Nat×List (aN×V),∃ ts:Nat×List (List aA×V),v = .ref a/\cX K c=some (.ref C)/\H a=some (.ins C dx [("wide",.ref w),("held",.ref q)])/\H q=some (.dK hvs.1 hvs.2)/\dC hvs.2 (.inr t)=some (.ref p)/\p∈F/\H p=some (.dT ts.1 ts.2)/\(∀ kd∈kds,fM kd.2=true)/\Abx K B kds ts.2 /\
   ∀ B' H' kds',∀ ts':Nat×List (List aA×V),Ext B B'->(∀ b∈F,b≠p->H' b=H b)->H' p=some (.dT ts'.1 ts'.2)->(∀ kd∈kds',fM kd.2=true)->Abx K B' kds' ts'.2->RepB K B' H' (bK c W (.dict (gP hds t (.dict ((.none,.none)::kds'))))) v F:=by
 obtain⟨c',C,dx,a,w,q,wds,hds',kvs,hvs,ps,e1,rfl,e3,ha,hw,fl,rk,hq,rfl,h3⟩:=h.ex
 have e1':c'=c/\W = .dict wds/\hds'=hds:=by
  simp only[bK,IL,BA,rA,IK,PyData.tuple.injEq,and_true,true_and] at e1
  exact⟨e1.1.symm,e1.2.1,e1.2.2.symm⟩
 obtain⟨rfl,rfl,rfl⟩:=e1'
 have np:a∉w::q::ps/\w∉q::ps/\q∉ps/\ps.Nodup:=by
  simp only[fS] at nF
  exact⟨nF.1,nF.2.1,nF.2.2.1,nF.2.2.2⟩
 obtain⟨p,h1,h2,h4,h5⟩:=MW h3 e nd np.2.2.2
 obtain⟨kds2,p2,ts,e4,e5,hp,_,fl2,r2⟩:=h4
 cases e4
 cases e5
 refine⟨a,C,dx,w,q,p,hvs,ts,rfl,e3,ha,hq,h1,by simp[h2],hp,fl2,r2,fun B' H' kds' ts' xb kp hp' fl' r'=>?_⟩
 have ap:a≠p:=fun z=>np.1 (by rw[z]; simp[h2])
 have wp:w≠p:=fun z=>np.2.1 (by rw[z]; simp[h2])
 have qp:q≠p:=fun z=>np.2.2.1 (by rw[z]; exact h2)
 exact⟨c',C,dx,a,w,q,wds,_,kvs,hvs,ps,rfl,rfl,e3,(kp a (by simp) ap).trans ha,(kp w (by simp) wp).trans hw,fl,rk.ext xb,(kp q (by simp) qp).trans hq,rfl,h5 B' H' _ xb (fun x m nx=>kp x (by simp[m]) nx) ⟨kds',p,ts',rfl,rfl,hp',rfl,fl',r'⟩⟩
noncomputable def rR (K:aH)(G:List aA->Option (Bool×aA)):Sp:=fun vs H Q _=>∃ P F0 a us d ds r d',vs = .ref a::us/\Hid P H/\(∀ b∈F0,¬ P b)/\F0.Nodup/\RepB K (hid H (orL P F0)) H d (.ref a) F0/\Aar K (hid H (orL P F0)) ds us/\G (d::ds)=some (r,d') /\
 ∀ H',(∀ b o,b∉F0->H b=some o->H' b=some o)->RepB K (hid H' (orL P F0)) H' d' (.ref a) F0->Q (.bl r) H'
structure MethM (P:bC)(w:aW)(K:aH)(mg:aD->Option aE)(base:aQ)(c m:aD)(k:Nat)(ps:List aD)(G:List aA->Option (Bool×aA)):Prop where
 ex : ∃ C f fd,cX K c=some (.ref C)/\Cls K C/\Meth K C m f/\FnOk P w K mg base (CXR base P w) k f fd ps (rR K G)/\Binds K fd ps []
 ins : ∀ d ds q,G (d::ds)=some q -> ∃ W D,d=bK c W D
noncomputable def qN (i:Nat)(G:List aA->Option (Bool×aA))(fa:AF)(ρ:bB):Option (Bool×bB):=match ρ[i]? with
 | some (some (9,d))=>(fa (vS ρ)).bind fun ds=>(G (d::ds)).bind fun q=>some (q.1,ρ.set i (some (9,q.2)))
 | _=>none
noncomputable def JV (K:aH)(H0:Hp)(P0:aB->Prop)(i:Nat)(G:List aA->Option (Bool×aA))(fa:AF):TE:=fun σ H Q=>∃ B0 ρ fp r ρ',Sta K H0 P0 B0 ρ σ H fp/\qN i G fa ρ=some (r,ρ') /\ ∀ H' fp',Sta K H0 P0 B0 ρ' σ H' fp'->Q (.bl r) H'
theorem Sta.told {K:aH}{H0 H H' B0:Hp}{P0:aB->Prop}{ρ:bB}{σ:St}{fp:Nat->List aB}{i n:Nat}{d':aA}{v:V}(S:Sta K H0 P0 B0 ρ σ H fp)(hi:i<ρ.length)(hv:σ[i]?=some (some v))(kp : ∀ b o,b∉fp i->H b=some o->H' b=some o)(new:Aec K (L2.hid H' (Hd P0 fp)) H' n d' v (fp i)) :
  Sta K H0 P0 B0 (ρ.set i (some (n,d'))) σ H' fp:=by
 have xb:Ext (L2.hid H (Hd P0 fp)) (L2.hid H' (Hd P0 fp)):=fun b o e=>by
  obtain⟨nb,e⟩:=Ab3.mp e
  exact dZ nb (kp b o (fun m=>nb (.inr ⟨i,m⟩)) e)
 refine⟨by simp[S.len],S.nd,S.dj,fun j a m=>⟨(S.own j a m).1,?_⟩,fun b u e=>kp b u (fun m=>?_) (S.ext b u e),S.hd,S.base.trans xb,fun j n' d e=>?_⟩
 ·by_cases h:j=i
  ·subst h
   exact new.mut a m
  ·have na:a∉fp i:=fun z=>h (S.dj j i a m z)
   rcases(S.own j a m).2 with⟨xs,e⟩ | ⟨xs,e⟩
   ·exact .inl ⟨xs,kp _ _ na e⟩
   ·exact .inr ⟨xs,kp _ _ na e⟩
 ·rw[(S.own i b m).1] at e
  cases e
 ·by_cases h:j=i
  ·subst h
   rw[kK hi] at e
   cases e
   exact⟨v,hv,new⟩
  ·rw[jA (fun z=>h z.symm)] at e
   obtain⟨v',h1,h2⟩:=S.slot j n' d e
   refine⟨v',h1,h2.keep xb fun a m=>?_⟩
   have na:a∉fp i:=fun z=>h (S.dj j i a m z)
   rcases(S.own j a m).2 with⟨xs,e⟩ | ⟨xs,e⟩
   ·rw[e,kp _ _ na e]
   ·rw[e,kp _ _ na e]
section
variable {X:Cx}{H0:Hp}{P0:aB->Prop}{e:aS}{es:List aS}{fa:AF}{c m x:aD}{px pos apos:bL}{k n0 i:Nat}{ps:List aD}{G:List aA->Option (Bool×aA)}
theorem Iu {pl:Sem Bool}(i:Nat)(M:MethM X.prog X.w X.K X.mg X.base c m k ps G)(hr:Room k X.A)(ha:DA X (e::es) fa)(hlk : ∀ w q:V,iI m [(("wide" : aD),w),("held",q)]=none:=by intro _ _; rfl)
  (hN:X.N[i]?=some x:=by rfl) (hv:lO X.env.scope x:=by first | exact bH rfl | exact bE (bH rfl) | exact bE (bE rfl)) (hd:(x == ("__debug__" : aD))=false:=by decide) (hcd:(x == ("__classdict__" : aD))=false:=by decide)
  (hst:bD (e::es) X.env=(false,bI e X.env)::bD es X.env:=by rfl) (hpl:(eM pos (bD es X.env)).any (·.1)=false:=by rfl)
  (ht:bI (.Call (.Attribute (.Name x px) m apos) (e::es) [] pos) X.env=(do
   let ov ← bI (.Name x px) X.env
   nM apos.atName
   let (f,first) ← kB [ov] (wZ ov m pl)
   callWith pos f first (eM pos (bD (e::es) X.env)) (tT pos (tP [] X.env))):=by rfl):PE X (.Call (.Attribute (.Name x px) m apos) (e::es) [] pos) (JV X.K H0 P0 i G fa):=by
 obtain⟨C,f,fd,hc,cl,me,Fk,hb⟩:=M.ex
 refine PE.imp (DL (pl:=pl) (E:=fun _ _ _=>False) (oJ hN hv hd hcd) cl me Fk hr hb .nil (fun _ _ _ _ _ _ _ h=>by obtain⟨_,_,_,_,_,_,_,_,_,_,_,_,_,_,q⟩:=h; exact q.elim) ha hst hpl ht) fun σ H Q gh=>?_
 obtain⟨B0,ρ,fp,r,ρ',S,ev,kk⟩:=gh
 unfold qN at ev
 split at ev
 case h_2=>cases ev
 rename_i d es'
 obtain⟨ds,e1,ev⟩:=XBs ev
 obtain⟨q,e2,ev⟩:=XBs ev
 cases ev
 obtain⟨v,hv1,ro⟩:=S.slot i 9 d es'
 obtain⟨W,D,rfl⟩:=M.ins _ _ _ e2
 rcases(show _ \/ Afb _ _ _ _ _ _ \/ RepB _ _ _ _ _ _ from ro) with⟨z,_⟩ | ⟨_,_,_,z,_⟩ | rb
 ·cases z
 ·cases z
 obtain⟨c',C',dx,a,w,qq,wds,hds,kvs,hvs,pps,e3,rfl,e4,hia,hw,fl,rk,hq,hF,h3⟩:=id rb.ex
 have e3':c'=c:=by
  simp only[bK,IL,BA,rA,IK,and_true,true_and] at e3
  exact e3.1.symm
 subst e3'
 obtain rfl:=lZ hc e4
 refine⟨.ref a,hv1,a,dx,_,rfl,hia,hlk _ _,Hd P0 fp,vS ρ,ds,S.hid,S.viewS,e1,fun vs H2 x2 r2=>?_⟩
 show rR X.K G (.ref a::(vs++[])) H2 Q _
 rw[rE]
 have S2:=S.grow x2
 have eP:orL (fun b=>P0 b \/ ∃ j,j≠i/\b∈fp j) (fp i)=Hd P0 fp:=by
  funext b
  refine propext ⟨fun h=>?_,fun h=>?_⟩
  ·rcases h with(h | ⟨j,_,h⟩) | h
   ·exact .inl h
   ·exact .inr ⟨j,h⟩
   ·exact .inr ⟨i,h⟩
  ·rcases h with h | ⟨j,h⟩
   ·exact .inl (.inl h)
   ·by_cases q:j=i
    ·exact .inr (q ▸ h)
    ·exact .inl (.inr ⟨j,q,h⟩)
 have rb2:RepB X.K (hid H2 (Hd P0 fp)) H2 (bK c' W D) (.ref a) (fp i):=rb.keep (bO x2) fun b m=>by
  rcases(S.own i b m).2 with⟨xs,e⟩ | ⟨xs,e⟩
  ·rw[e,x2 _ _ e]
  ·rw[e,x2 _ _ e]
 refine⟨fun b=>P0 b \/ ∃ j,j≠i/\b∈fp j,fp i,a,vs,_,ds,q.1,q.2,rfl,fun b h=>S2.hid b (h.imp id fun⟨j,_,h⟩=>⟨j,h⟩),fun b m h=>?_,S.nd i,by rw[eP]; exact rb2,by rw[eP]; exact r2,e2,fun H' kp rn=>?_⟩
 ·rcases h with h | ⟨j,nj,h⟩
  ·exact S.np m h
  ·exact nj (S.dj j i b h m)
 ·rw[eP] at rn
  exact kk H' fp (S2.told (fI.mp es').1 hv1 kp (bE (.inr rn):_ \/ Afb _ _ _ _ _ _ \/ RepB _ _ _ _ _ _))
noncomputable def jP (f g:EF):EF:=fun ρ=>(f ρ).or (g ρ)
theorem oK {a:aS}{f g:EF}(h1:DE X a f)(h2:DE X a g):DE X a (jP f g):=fun pins s σ H Q I gh=>by
 obtain⟨P,ρ,d,hP,rs,ef,k⟩:=gh
 unfold jP at ef
 cases q:f ρ with
 | some d'=>
  rw[q] at ef
  cases ef
  exact h1 pins s σ H Q I ⟨P,ρ,d,hP,rs,q,k⟩
 | none=>
  rw[q] at ef
  exact h2 pins s σ H Q I ⟨P,ρ,d,hP,rs,by simpa using ef,k⟩
theorem Mn {body:List bG}{hh:ExceptHandler}{F1 F2:SF}(h1:lQ X H0 P0 n0 body hh F1)(h2:lQ X H0 P0 n0 body hh F2):lQ X H0 P0 n0 body hh (sOr F1 F2):=fun pins s σ H D I gh=>by
 obtain⟨B0,ρ,fp,o,S,ef,k⟩:=gh
 unfold sOr at ef
 cases q:F1 ρ with
 | some o'=>
  rw[q] at ef
  cases ef
  exact h1 pins s σ H D I ⟨B0,ρ,fp,o,S,q,k⟩
 | none=>
  rw[q] at ef
  exact h2 pins s σ H D I ⟨B0,ρ,fp,o,S,by simpa using ef,k⟩
theorem GU {T:aD}{CT:aE}{n:Nat}{F:FX}{G:SF}{np hpos apos:bL}{b₀:bG}{suite:List bG}{ce:aS}{j:Nat}{nn:aD}(t:TryC X c T CT)(hcall : ∀ pins E,CallAt (X.tries pins E) ce n F fa)(hN:X.N.Nodup)(hj:X.N[j]?=some nn)(hl:X.env.scope.names.lookup nn=some .local)(hG : ∀ ea,DSs (X.held ea) H0 P0 n0 (b₀::suite) G)
  (hsw:mG ce none apos.line X.env=pure false:=by rfl) :
  lQ X H0 P0 n0 [.Expr ce apos] (.ExceptHandler (some (.Name T np)) (some nn) (b₀::suite) hpos) (iL c F fa vExpr (sAs j c G)):=
 OC (W:=KN) t hcall (fun pins E te h=>qC (X:=X.tries pins E) h hsw) (fun {B0 ρ fp o D σ H d} S ef k te hq=>hq _ fun v H' tm=>by
  cases ef
  obtain⟨fp',S',_⟩:=tm
  exact k _ _ fp' S') (fun te D σ H h=>h _) (MP t.ex hN hj hl hG)
end
theorem zE {K:aH}{H:Hp}{ks:List aA}(hk:bP ks=true) : ∀ {kds:List (aA×aA)} {ts:List (List aA×V)},Abx K H kds ts -> .tuple ks∉kds.map (·.1)->cV kds ks=none
 | [],_,_,_=>rfl
 | (k,d)::kds,_,r,nin=>by
  obtain⟨k',x,rr,rfl,⟨rfl,hk'⟩,h1,h2⟩:=Aa2.mp r
  rw[zN hk' hk,if_neg (fun z=>nin (by rw[z]; simp))]
  exact zE hk h2 fun m=>nin (cA _ m)
theorem FH {K:aH}{H:Hp}{ks:List aA}{d:aA}{v:V}(hk:bP ks=true)(hd:Aa6 K H d v) : ∀ {kds:List (aA×aA)} {ts:List (List aA×V)},Abx K H kds ts->Abx K H (kds++[(.tuple ks,d)]) (ts++[(ks,v)])
 | [],ts,r=>by
  rw[Abz.mp r]
  exact Aa2.mpr ⟨ks,v,[],rfl,⟨rfl,hk⟩,hd,Abz.mpr rfl⟩
 | (k,d')::kds,_,r=>by
  obtain⟨k',x,rr,rfl,e,h1,h2⟩:=Aa2.mp r
  exact Aa2.mpr ⟨k',x,_,rfl,e,h1,FH hk hd h2⟩
theorem FI {k:List aA} : ∀ {l:List (List aA×V)},(∀ e∈l,e.1≠k)->dC l k=none
 | [],_=>rfl
 | e::l,h=>by
  have h1:=h e bY
  have h2:=FI fun e m=>h e (cA _ m)
  unfold dC at h2 ⊢
  simp[gD,h1] at h2 ⊢
  first | exact h2 | simp_all
section
variable {prog:bC}{w:aW}{A:bT}{E:aE->aG->Prop}{s:aG}{K:Type}[DecidableEq K]{knd:HeapKind prog w K}
theorem OT {k:K}{p:aB×aE} : ∀ {xs:List (K×aB×aE)} {j:Nat},(xs.map (·.1)).Nodup->xs[j]?=some (k,p)->xs.eraseIdx j=xs.filter fun x=>decide (x.1≠k)
 | [],j,_,e=>by simp at e
 | x::xs,0,nd,e=>by
  rw[dJ,fS] at nd
  cases e
  rw[List.eraseIdx_cons_zero,xO,if_neg (by simp)]
  refine(IZ.mpr fun y m=>?_).symm
  exact decide_eq_true fun z=>nd.1 (z ▸ cL.mpr ⟨y,m,rfl⟩)
 | x::xs,j+1,nd,e=>by
  rw[dJ,fS] at nd
  have e':xs[j]?=some (k,p):=by simpa using e
  have hx:x.1≠k:=fun z=>nd.1 (by rw[z]; exact cL.mpr ⟨(k,p),rD e',rfl⟩)
  rw[List.eraseIdx_cons_succ,xO,if_pos (by simp[hx]),OT nd.2 e']
theorem PX {α β:Type}(f:α->β) : ∀ (l:List α) (j:Nat),(l.eraseIdx j).map f=(l.map f).eraseIdx j
 | [],j=>by simp
 | a::l,0=>by simp
 | a::l,j+1=>by simp[PX f l j]
theorem Gf {d a:aB}{xs:List (K×aB×aE)}{k:K}{p:aB×aE}{Q:Option mM->aG->Prop}(hu:knd.room A)(hkey:knd.is s.heap k a)(hm:s.heap.DictOfH knd d xs)(hp:mI xs k=some p)
  (hQ : ∀ h',h'.DictOfH knd d (xs.filter fun x=>decide (x.1≠k))->rF d s.heap h'->Q (some (entryOfKey knd (k,p))) { s with heap:=h',toks:=s.toks+knd.draws k }) (hsz:xs.length≤sizeLine) :
  aO (aP prog w) A (Builtin.Dict.takeOut d (.ref a)) Q E s:=by
 obtain⟨o,es,ep,ho,hc,hd,he,his,hn⟩:=hm
 unfold Builtin.Dict.takeOut
 try with_reducible refine iG ?_
 refine aK (knd.pyHash hu hkey ?_)
 refine aK (wpAny_dictFind_heap (s:={ s with toks:=s.toks+knd.draws k }) hu hkey ho hd he his hn ?_ ?_)
 ·intro hno
  rw[atKey_none_of_get hno] at hp
  cases hp
 ·intro j p' hj
  rw[atKey_of_get hn hj] at hp
  cases hp
  refine aK (wX (s:={ s with toks:=s.toks+knd.draws k }) ho hd ?_)
  have he':es[j]?=some (entryOfKey knd (k,p)):=by rw[entry_at he j,hj]; rfl
  rw[he']
  refine aK (wpAny_updateDictKeys (hz:=by have e:=size_of_entries he; omega) (s:={ s with toks:=s.toks+knd.draws k }) ho hd (aZ (hQ _ ⟨_,_,ep+1,BC _ ho (Obj.isFreed_of_dict (Obj.data_mapDictKeys hd _)),
   hc.mapDictKeys _,Obj.data_mapDictKeys hd _,?_,fun x hx=>?_,?_⟩ (BD ..))))
  ·rw[← OT hn hj,PX,← he]
   obtain⟨l⟩:=es
   simp
  ·exact knd.keeps (his x (xI.mp hx).1) ho hd (BD ..)
  ·exact hn.sublist (List.filter_sublist.map _)
theorem Ey (d a:aB)(k:K):MeetsIn prog w (Builtin.«dict.pop» ⟨[.ref d,.ref a],[]⟩) (fun A R s=>knd.room A.in1 /\ ∃ xs p,s.heap.DictOfH knd d xs/\xs.length≤sizeLine/\knd.is s.heap k a/\mI xs k=some p /\
   ∀ h' tk,h'.DictOfH knd d (xs.filter fun x=>decide (x.1≠k))->rF d s.heap h'->R (.ok (.ret p.2)) { s with heap:=h',toks:=tk }):=fun A R s gh=>by
 obtain⟨hu,xs,p,hm,hsz,hkey,hp,h⟩:=gh
 obtain⟨o,es,ep,ho,hc,hd,he,his,hn⟩:=id hm
 have hes:es.isEmpty=false:=by
  cases q:es.isEmpty with
  | false=>rfl
  | true=>
   have hz:es.size=0:=by simpa using q
   rw[size_of_entries he] at hz
   have:xs=[]:=uC hz
   rw[this] at hp
   cases hp
 unfold Builtin.«dict.pop»
 refine aK ?_
 unfold Builtin.Dict.keyAndDefault
 refine aK (UC hm.typeIs ?_)
 show aO _ _ (pure (d,cZ a,none)) _ _ s
 refine aZ ?_
 have hk:(keyPart (cZ a)).isSome=false:=rfl
 simp only[hk,mO,if_false]
 refine aK (wX ho hd (aK (aZ ?_)))
 simp only[hes,mO,if_false]
 refine aK (Gf hu hkey hm hp (fun h' hm' hs'=>?_) hsz)
 simp only[Option.isNone_some,mO,if_false]
 exact aK (wpAny_letGo (aZ (h h' _ hm' hs')))
end
section
variable {X:Cx}
noncomputable def nJ (kvs:List (List aA×V))(k:List aA):List (List aA×V):=kvs.filter fun kv=>decide (kv.1≠k)
theorem KT.out {H:Hp}(k:List aA) : ∀ {kvs:List (List aA×V)} {xs:List (List aA×aB×aE)},KT H kvs xs->KT H (nJ kvs k) (xs.filter fun x=>decide (x.1≠k))
 | _,_,.nil=>.nil
 | p::_,q::_,.cons h t=>by
  unfold nJ
  rw[xO,xO]
  by_cases c:p.1=k
  ·rw[if_neg (by simp[c]),if_neg (by rw[← h.1]; simp[c])]
   exact KT.out k t
  ·rw[if_pos (by simp[c]),if_pos (by rw[← h.1]; simp[c])]
   exact .cons h (KT.out k t)
def Io:V->List V->Hp->VK->Prop:=fun x vs H Q=>∃ d ep kvs k b u,x = .ref d/\vs=[.ref b]/\H d=some (.dT ep kvs)/\Ajf H k b/\dC kvs k=some u /\ ∀ n,Q u (upd H d (.dT n (nJ kvs k)))
theorem NH (hu:X.A.units+40<cLine):MtM X "dict.pop" Io:=by
 intro pins s σ H x vs v us Q I rx rv h
 obtain⟨d,ep,kvs,k,b,u,rfl,rfl,e,eb,hu',q⟩:=h
 cases rx
 cases rv with
 | @cons _ key _ _ rk rr=>
  cases rr
  cases(show key=cZ b from rk)
  obtain⟨z,hd,xs,rel,dd⟩:=HE I.hok e
  have rl:=rel.val k
  rw[hu'] at rl
  obtain⟨w',e1,e2⟩:=rl.some_of
  obtain⟨p,ep',rfl⟩:=tX.mp e1
  refine call_meetsIn UU dd.typeIs PySem.F.entry_dict_pop (PySem.F.args_dict_pop_2 _ _) (Ey (knd:=mC X.prog X.w) d b k) ⟨wJ hu,xs,p,dd,by rw[← nT rel]; exact z,pX I.hok eb,ep',fun h' tk dd' hs=>?_⟩
  obtain⟨o,es,ep2,ho,h2,h3,h4,_,h5⟩:=dd'
  have hl:(nJ kvs k).length≤sizeLine:=jM (List.length_filter_le _ _) z
  refine⟨u,_,EH (ob:=.dT ep2 (nJ kvs k)) I (by rw[e]; exact gL) hs ⟨o,ho⟩ ⟨hl,hd,_,(rel.out k).keeps fun c ys ec=>?_,o,es,ho,h2,h3,h4,h5⟩,e2,q ep2⟩
  rw[bN (SH ec e (fun z=>nomatch z))]
  exact ec
end
theorem sN {K:aH}{H:Hp}{ks:List aA}(hk:bP ks=true) : ∀ {kds:List (aA×aA)} {ts:List (List aA×V)},Abx K H kds ts -> .tuple ks∈kds.map (·.1)->(cV kds ks).isSome=true/\(dC ts ks).isSome=true
 | [],_,_,m=>by simp at m
 | (k,d)::kds,_,r,m=>by
  obtain⟨k',x,rr,rfl,⟨rfl,hk'⟩,h1,h2⟩:=Aa2.mp r
  rw[zN hk' hk]
  by_cases e:k'=ks
  ·subst e
   refine⟨by simp,?_⟩
   unfold dC
   simp[gD]
  ·have m' : .tuple ks∈kds.map (·.1):=by
    rcases cJ.mp m with z | m
    ·exact absurd (AU z).symm e
    ·exact m
   obtain⟨g1,g2⟩:=sN hk h2 m'
   refine⟨by rw[if_neg e]; exact g1,?_⟩
   unfold dC at g2 ⊢
   simp only[gD,e,decide_false]
   exact g2
noncomputable def kO (kds:List (aA×aA))(ks:List aA):List (aA×aA):=open Classical in kds.filter fun kd=>decide (kd.1 ≠ .tuple ks)
theorem yZ {K:aH}{H:Hp}(ks:List aA) : ∀ {kds:List (aA×aA)} {ts:List (List aA×V)},Abx K H kds ts->Abx K H (kO kds ks) (nJ ts ks)
 | [],ts,r=>by
  rw[Abz.mp r]
  exact Abz.mpr rfl
 | (k,d)::kds,_,r=>by
  obtain⟨k',x,rr,rfl,⟨rfl,hk'⟩,h1,h2⟩:=Aa2.mp r
  unfold kO nJ
  rw[xO,xO]
  by_cases e:k'=ks
  ·rw[if_neg (by simp[e]),if_neg (by simp[e])]
   exact yZ ks h2
  ·rw[if_pos (by simp[e]),if_pos (by simp[e])]
   exact Aa2.mpr ⟨k',x,_,rfl,⟨rfl,hk'⟩,h1,yZ ks h2⟩
noncomputable def pV (c:aD)(Fw:FX)(g:List (aA×aA)->List aA->Option (Bool×List (aA×aA))):List aA->Option (Bool×aA):=open Classical in fun ds=>match ds with
 | [d,.str t,.tuple ks]=>(iO c d).bind fun p=>match p.2 with
  | .dict hds=>(Fw none [d,.str t,.tuple ks]).bind fun _=>(cQ hds (.inr t)).bind fun h=>match h with
   | .dict ((.none,.none)::kds)=>if bP ks=true/\cW ks≤6/\(hds.map (·.1)).Nodup then(g kds ks).bind fun q=>some (q.1,if q.1=true then bK c p.1 (.dict (gP hds t (.dict ((.none,.none)::q.2)))) else d) else none
   | _=>none
  | _=>none
 | _=>none
theorem DU {α:Type}{c:Prop}[Decidable c]{x:Option α}{y:α}(h:(if c then x else none)=some y):c/\x=some y:=by
 by_cases q:c
 ·rw[if_pos q] at h; exact⟨q,h⟩
 ·rw[if_neg q] at h; cases h
theorem qI {c:aD}{Fw:FX}{g:List (aA×aA)->List aA->Option (Bool×List (aA×aA))}{ds:List aA}{q:Bool×aA}(h:pV c Fw g ds=some q) : ∃ W hds t ks kds u,∃ p:Bool×List (aA×aA),ds=[bK c W (.dict hds),.str t,.tuple ks]/\Fw none ds=some u/\cQ hds (.inr t)=some (.dict ((.none,.none)::kds))/\bP ks=true/\cW ks≤6/\(hds.map (·.1)).Nodup/\g kds ks=some p /\
  q=(p.1,if p.1=true then bK c W (.dict (gP hds t (.dict ((.none,.none)::p.2)))) else bK c W (.dict hds)):=by
 unfold pV at h
 split at h
 ·obtain⟨p,e1,h⟩:=XBs h
  have e1:=vJ e1
  subst e1
  obtain⟨W,D⟩:=p
  dsimp only at h
  split at h
  ·obtain⟨u,e2,h⟩:=XBs h
   obtain⟨hh,e3,h⟩:=XBs h
   split at h
   ·obtain⟨cc,h⟩:=DU h
    obtain⟨p,e4,h⟩:=XBs h
    exact⟨W,_,_,_,_,u,p,rfl,e2,e3,cc.1,cc.2.1,cc.2.2,e4,(eO h).symm⟩
   ·cases h
  ·cases h
 ·cases h
theorem QL {c:aD}{Fw:FX}{g:List (aA×aA)->List aA->Option (Bool×List (aA×aA))} : ∀ d ds q,pV c Fw g (d::ds)=some q -> ∃ W D,d=bK c W D:=fun d ds q h=>by
 obtain⟨W,hds,t,ks,kds,u,p,e,_⟩:=qI h
 cases e
 exact⟨_,_,rfl⟩
noncomputable def JJ (kds:List (aA×aA))(ks:List aA):Option (Bool×List (aA×aA)):=open Classical in if .tuple ks∈kds.map (·.1) then some (false,kds) else if kds.length<60 then some (true,kds++[(.tuple ks,.bool true)]) else none
noncomputable def HF (kds:List (aA×aA))(ks:List aA):Option (Bool×List (aA×aA)):=open Classical in if .tuple ks∈kds.map (·.1) then some (true,kO kds ks) else some (false,kds)
section
variable {X:Cx}{H0:Hp}{P0:aB->Prop}{n0:Nat}{e k:aS}{f g:EF}{x y:aD}{px py pos apos spos:bL}{i j:Nat}
theorem Tmp.free {K:aH}{H B0:Hp}{ρ:bB}{σ:St}{n:Nat}{d:aA}{v:V}(t:Tmp K H0 P0 B0 ρ σ n d v H) : ∃ fp,Sta K H0 P0 B0 ρ σ H fp/\Aa6 K (L2.hid H (Hd P0 fp)) d v:=by
 obtain⟨fp,S,r⟩:=t
 have hsub : ∀ a,Hd P0 (fun j=>if j=ρ.length then [] else fp j) a->Hd P0 fp a:=fun a h=>by
  rcases h with h | ⟨j,h⟩
  ·exact .inl h
  ·by_cases hj:j=ρ.length
   ·simp only[hj,if_true] at h; simp at h
   ·simp only[hj,if_false] at h; exact .inr ⟨j,h⟩
 refine⟨fun j=>if j=ρ.length then [] else fp j,⟨S.len,fun j=>?_,fun j k a h1 h2=>?_,fun j a h1=>?_,S.ext,S.hd,S.base.trans (fP hsub),fun j n' d' e'=>?_⟩,r.share (fP hsub) fun a m o q=>dZ (fun z=>?_) q⟩
 ·by_cases hj:j=ρ.length
  ·simp only[hj,if_true]; exact .nil
  ·simp only[hj,if_false]; exact S.nd j
 ·by_cases hj:j=ρ.length
  ·simp only[hj,if_true] at h1; simp at h1
  ·by_cases hk:k=ρ.length
   ·simp only[hk,if_true] at h2; simp at h2
   ·simp only[hj,if_false] at h1; simp only[hk,if_false] at h2; exact S.dj j k a h1 h2
 ·by_cases hj:j=ρ.length
  ·simp only[hj,if_true] at h1; simp at h1
  ·simp only[hj,if_false] at h1; exact S.own j a h1
 ·have hlt:=(fI.mp e').1
  have hj:j≠ρ.length:=by omega
  obtain⟨v',h1,h2⟩:=S.slot j n' d' e'
  refine⟨v',h1,?_⟩
  simp only[hj,if_false]
  exact h2.keep (fP hsub) fun a m=>rfl
 ·rcases z with z | ⟨k,z⟩
  ·exact S.np m z
  ·by_cases hk:k=ρ.length
   ·simp only[hk,if_true] at z; simp at z
   ·simp only[hk,if_false] at z; exact hk (S.dj k _ a z m)
end
section
variable {K:aH}{H0 H B0:Hp}{P0:aB->Prop}{ρ:bB}{σ:St}{fp:Nat->List aB}{i:Nat}
abbrev R1 (K:aH)(B H:Hp):aA×aA->aN×V->List aB->Prop:=fun kd kv f=>kd.1=kD kv.1/\Aec K B H 1 kd.2 kv.2 f
end
theorem Sta.told2 {K:aH}{H0 H H' B0:Hp}{P0:aB->Prop}{ρ:bB}{σ:St}{fp:Nat->List aB}{i j n n':Nat}{d' m':aA}{v u:V}(S:Sta K H0 P0 B0 ρ σ H fp)(ij:i≠j)(hi:i<ρ.length)(hj:j<ρ.length)(hv:σ[i]?=some (some v))(hu:σ[j]?=some (some u))(kp : ∀ b o,b∉fp i->b∉fp j->H b=some o->H' b=some o)(new:Aec K (L2.hid H' (Hd P0 fp)) H' n d' v (fp i))(new2:Aec K (L2.hid H' (Hd P0 fp)) H' n' m' u (fp j)) :
  Sta K H0 P0 B0 ((ρ.set i (some (n,d'))).set j (some (n',m'))) σ H' fp:=by
 have xb:Ext (L2.hid H (Hd P0 fp)) (L2.hid H' (Hd P0 fp)):=fun b o e=>by
  obtain⟨nb,e⟩:=Ab3.mp e
  exact dZ nb (kp b o (fun m=>nb (.inr ⟨i,m⟩)) (fun m=>nb (.inr ⟨j,m⟩)) e)
 refine⟨by simp[S.len],S.nd,S.dj,fun l a m=>⟨(S.own l a m).1,?_⟩,fun b u e=>kp b u (fun m=>?_) (fun m=>?_) (S.ext b u e),S.hd,S.base.trans xb,fun l n2 d e=>?_⟩
 ·by_cases h:l=i
  ·subst h; exact new.mut a m
  by_cases h2:l=j
  ·subst h2; exact new2.mut a m
  have na:a∉fp i:=fun z=>h (S.dj l i a m z)
  have nb:a∉fp j:=fun z=>h2 (S.dj l j a m z)
  rcases(S.own l a m).2 with⟨xs,e⟩ | ⟨xs,e⟩
  ·exact .inl ⟨xs,kp _ _ na nb e⟩
  ·exact .inr ⟨xs,kp _ _ na nb e⟩
 ·rw[(S.own i b m).1] at e; cases e
 ·rw[(S.own j b m).1] at e; cases e
 ·by_cases h2:l=j
  ·subst h2
   rw[kK (by simpa using hj)] at e
   cases e
   exact⟨u,hu,new2⟩
  rw[jA (fun z=>h2 z.symm)] at e
  by_cases h:l=i
  ·subst h
   rw[kK hi] at e
   cases e
   exact⟨v,hv,new⟩
  ·rw[jA (fun z=>h z.symm)] at e
   obtain⟨v',h1,h3⟩:=S.slot l n2 d e
   refine⟨v',h1,h3.keep xb fun a m=>?_⟩
   have na:a∉fp i:=fun z=>h (S.dj l i a m z)
   have nb:a∉fp j:=fun z=>h2 (S.dj l j a m z)
   rcases(S.own l a m).2 with⟨xs,e⟩ | ⟨xs,e⟩
   ·rw[e,kp _ _ na nb e]
   ·rw[e,kp _ _ na nb e]
theorem Mx {K:aH}{B H:Hp}{n:Nat}{kds:List (aA×aA)}{v:V}{F:List aB}(h:Aec K B H n (.dict kds) v F) : ∃ p,v = .ref p:=by
 unfold Aec at h
 split at h
 ·rcases h with⟨z,_⟩ | ⟨_,p,_,_,rfl,_⟩ | h
  ·cases z
  ·exact⟨p,rfl⟩
  ·obtain⟨c',C',dx,a,w,qq,wds,hds,kvs,hvs,pps,e3,rfl,_⟩:=h.ex
   exact⟨a,rfl⟩
 ·cases n with
  | zero=>
   obtain⟨a,rfl,_⟩:=Abl.mp h.2
   exact⟨a,rfl⟩
  | succ n=>
   obtain⟨p,_,_,rfl,_⟩:=h
   exact⟨p,rfl⟩
section
variable {X:Cx}{body:List bG}{hh:ExceptHandler}{t:TS}{pos:bL}
theorem Iv (h : ∀ pins E,PSs (X.tries pins E) body t):PS X (.Try body [hh] [] [] pos) t:=fun pins s σ H D I q=>by
 refine wpAny_Try_except ?_
 refine thn (h pins _ [] s σ H D I.tries q) fun f s₁ h=>?_
 have h2:=RA I.ok h
 cases f with
 | next=>
  obtain⟨σ',H',I',q⟩:=h2
  exact jZ pins s₁ σ' H' D I' q
 | brk=>exact h2
 | cont=>exact h2
 | ret u=>exact h2
end
noncomputable def yH (K:aH)(G:List aA->Option (aA×aA)):Sp:=fun vs H Q _=>∃ P F0 a us d ds r d',vs = .ref a::us/\Hid P H/\(∀ b∈F0,¬ P b)/\F0.Nodup/\RepB K (hid H (orL P F0)) H d (.ref a) F0/\Aar K (hid H (orL P F0)) ds us/\G (d::ds)=some (r,d') /\
 ∀ H' v,(∀ b o,b∉F0->H b=some o->H' b=some o)->RepB K (hid H' (orL P F0)) H' d' (.ref a) F0->Aa6 K (hid H' (orL P F0)) r v->Q v H'
noncomputable def uS (K:aH)(n:Nat)(G:List aA->Option (Bool×aA×aA)):Sp:=fun vs H Q _=>∃ P F0 F1 a p v1 us d d1 m ds r d' m',vs = .ref a::v1 :: .ref p::us/\Hid P H/\(∀ b∈F0,¬ P b)/\(∀ b∈F1,¬ P b)/\(∀ b∈F0,b∉F1)/\F0.Nodup/\F1.Nodup /\
 RepB K (hid H (orL (orL P F1) F0)) H d (.ref a) F0/\Aec K (hid H (orL (orL P F1) F0)) H n m (.ref p) F1/\Aa6 K (hid H (orL (orL P F1) F0)) d1 v1/\Aar K (hid H (orL (orL P F1) F0)) ds us/\G (d::d1::m::ds)=some (r,d',m') /\
 ∀ H',(∀ b o,b∉F0->b∉F1->H b=some o->H' b=some o)->RepB K (hid H' (orL (orL P F1) F0)) H' d' (.ref a) F0->Aec K (hid H' (orL (orL P F1) F0)) H' n m' (.ref p) F1->Q (.bl r) H'
noncomputable def uQ (i j n:Nat)(G:List aA->Option (Bool×aA×aA))(f1:EF)(fa:AF)(ρ:bB):Option (Bool×bB):=match ρ[i]?,ρ[j]? with
 | some (some (9,d)),some (some (n',m))=>if n'=n then(f1 (vS ρ)).bind fun d1=>(fa (vS ρ)).bind fun ds=>(G (d::d1::m::ds)).bind fun q=>some (q.1,(ρ.set i (some (9,q.2.1))).set j (some (n,q.2.2))) else none
 | _,_=>none
noncomputable def SI (K:aH)(H0:Hp)(P0:aB->Prop)(i j n:Nat)(G:List aA->Option (Bool×aA×aA))(f1:EF)(fa:AF):TE:=fun σ H Q=>∃ B0 ρ fp r ρ',Sta K H0 P0 B0 ρ σ H fp/\uQ i j n G f1 fa ρ=some (r,ρ') /\ ∀ H' fp',Sta K H0 P0 B0 ρ' σ H' fp'->Q (.bl r) H'
section
variable {X:Cx}{H0:Hp}{P0:aB->Prop}{e0 e:aS}{es:List aS}{f1:EF}{fa:AF}{c x y z:aD}{px py pz pos:bL}{k n0 i j n:Nat}{ps:List aD}{G:List aA->Option (Bool×aA×aA)}
theorem LS (i j:Nat)(D:DefX X.prog X.w X.K X.mg X.base x k ps (uS X.K n G))(hr:Room k X.A)(hg:Gl X x)(hG : ∀ d d1 m ds q,G (d::d1::m::ds)=some q->(∃ W D,d=bK c W D) /\ ∃ kds,m = .dict kds)(ij:i≠j)(h1:DE X e0 f1)(ha:DA X (e::es) fa)
  (hN:X.N[i]?=some y:=by rfl) (hv:lO X.env.scope y:=by first | exact bH rfl | exact bE (bH rfl) | exact bE (bE rfl)) (hd:(y == ("__debug__" : aD))=false:=by decide) (hcd:(y == ("__classdict__" : aD))=false:=by decide)
  (hN2:X.N[j]?=some z:=by rfl) (hv2:lO X.env.scope z:=by first | exact bH rfl | exact bE (bH rfl) | exact bE (bE rfl)) (hd2:(z == ("__debug__" : aD))=false:=by decide) (hcd2:(z == ("__classdict__" : aD))=false:=by decide)
  (hdb:(x == ("__debug__" : aD))=false:=by decide) (hs1:bD (.Name y py::e0 :: .Name z pz::e::es) X.env=(false,bI (.Name y py) X.env)::bD (e0 :: .Name z pz::e::es) X.env:=by rfl) (hs3:bD (e0 :: .Name z pz::e::es) X.env=(false,bI e0 X.env)::bD (.Name z pz::e::es) X.env:=by rfl) (hs2:bD (.Name z pz::e::es) X.env=(false,bI (.Name z pz) X.env)::bD (e::es) X.env:=by rfl)
  (hpl:(eM pos (bD (e0 :: .Name z pz::e::es) X.env)).any (·.1)=false:=by rfl):PE X (.Call (.Name x px) (.Name y py::e0 :: .Name z pz::e::es) [] pos) (SI X.K H0 P0 i j n G f1 fa):=by
 refine PE.imp (LH (E:=fun _ _ _=>False) D hr hg (fun _ _ _ _ _ _ _ h=>by obtain⟨_,_,_,_,_,_,_,_,_,_,_,_,_,_,q⟩:=h; exact q.elim) (fJ (oJ hN hv hd hcd) (fJ h1 (fJ (oJ hN2 hv2 hd2 hcd2) ha hs2) hs3) hs1) hdb hs1 hpl) fun σ H Q gh=>?_
 obtain⟨B0,ρ,fp,r,ρ',S,ev,kk⟩:=gh
 unfold uQ at ev
 split at ev
 case h_2=>cases ev
 rename_i d n' m es1 es2
 obtain⟨rfl,ev⟩:=DU ev
 obtain⟨d1,e0',ev⟩:=XBs ev
 obtain⟨ds,e1,ev⟩:=XBs ev
 obtain⟨q,e2,ev⟩:=XBs ev
 cases ev
 obtain⟨v,hv1,ro⟩:=S.slot i 9 d es1
 obtain⟨u,hu1,rm⟩:=S.slot j _ m es2
 obtain⟨⟨W,D',rfl⟩,kds,rfl⟩:=hG _ _ _ _ _ e2
 rcases(show _ \/ Afb _ _ _ _ _ _ \/ RepB _ _ _ _ _ _ from ro) with⟨z,_⟩ | ⟨_,_,_,z,_⟩ | rb
 ·cases z
 ·cases z
 obtain⟨c',C',dx,a,w,qq,wds,hds,kvs,hvs,pps,e3,rfl,_⟩:=id rb.ex
 obtain⟨p,rfl⟩:=Mx rm
 refine⟨.ref a,hv1,Hd P0 fp,vS ρ,d1,S.hid,S.viewS,e0',cG fun v1 H1 x1 r1=>⟨.ref p,hu1,Hd P0 fp,vS ρ,ds,(S.grow x1).hid,(S.grow x1).viewS,e1,fun vs H2 x2' r2=>?_⟩⟩
 show uS X.K _ G (.ref a::v1 :: .ref p::(vs++[])) H2 Q _
 rw[rE]
 have x2:=x1.trans x2'
 have S2:=S.grow x2
 have eP:orL (orL (fun b=>P0 b \/ ∃ l,l≠i/\l≠j/\b∈fp l) (fp j)) (fp i)=Hd P0 fp:=by
  funext b
  refine propext ⟨fun h=>?_,fun h=>?_⟩
  ·rcases h with((h | ⟨l,_,_,h⟩) | h) | h
   ·exact .inl h
   ·exact .inr ⟨l,h⟩
   ·exact .inr ⟨j,h⟩
   ·exact .inr ⟨i,h⟩
  ·rcases h with h | ⟨l,h⟩
   ·exact .inl (.inl (.inl h))
   ·by_cases q:l=i
    ·exact .inr (q ▸ h)
    by_cases q2:l=j
    ·exact .inl (.inr (q2 ▸ h))
    ·exact .inl (.inl (.inr ⟨l,q,q2,h⟩))
 have kp2 : ∀ l,∀ b∈fp l,H2 b=H b:=fun l b m=>by
  rcases(S.own l b m).2 with⟨xs,e⟩ | ⟨xs,e⟩
  ·rw[e,x2 _ _ e]
  ·rw[e,x2 _ _ e]
 have rb2:RepB X.K (hid H2 (Hd P0 fp)) H2 _ (.ref a) (fp i):=rb.keep (bO x2) (kp2 i)
 have rm2:=rm.keep (bO x2) (kp2 j)
 refine⟨fun b=>P0 b \/ ∃ l,l≠i/\l≠j/\b∈fp l,fp i,fp j,a,p,v1,vs,_,d1,_,ds,q.1,q.2.1,q.2.2,rfl,fun b h=>S2.hid b (h.imp id fun⟨l,_,_,h⟩=>⟨l,h⟩),fun b m h=>?_,fun b m h=>?_,fun b m h=>ij (S.dj i j b m h),S.nd i,S.nd j,by rw[eP]; exact rb2,by rw[eP]; exact rm2,by rw[eP]; exact r1.ext (bO x2'),by rw[eP]; exact r2,e2,fun H' kp rn rn2=>?_⟩
 ·rcases h with h | ⟨l,nj,_,h⟩
  ·exact S.np m h
  ·exact nj (S.dj l i b h m)
 ·rcases h with h | ⟨l,_,nj,h⟩
  ·exact S.np m h
  ·exact nj (S.dj l j b h m)
 ·rw[eP] at rn rn2
  exact kk H' fp (S2.told2 ij (fI.mp es1).1 (fI.mp es2).1 hv1 hu1 kp (bE (.inr rn):_ \/ Afb _ _ _ _ _ _ \/ RepB _ _ _ _ _ _) rn2)
noncomputable def vL (i j n:Nat)(G:List aA->Option (Bool×aA×aA))(f1:EF)(fa:AF):SF:=fun ρ=>(uQ i j n G f1 fa ρ).bind fun q=>if q.1=true then some (.nx q.2) else none
theorem RC {ce:aS}{body:List bG}{p1:bL}(h:PE X ce (SI X.K H0 P0 i j n G f1 fa))(he : ∀ whole,qV ce X.env whole=(do let v ← whole; nM ce.pos; kB [v] (truthy v)):=by intro _; rfl) :
  DS X H0 P0 n0 (.If (.UnaryOp .Not ce p1) body [] pos) (vL i j n G f1 fa):=
 PS.imp (kN (CU (CN h he)) vT jZ) fun D σ H gh=>by
  obtain⟨B0,ρ,fp,o,S,ef,k⟩:=gh
  obtain⟨q,e3,ef⟩:=XBs ef
  by_cases hq:q.1=true
  case neg=>rw[if_neg hq] at ef; cases ef
  rw[if_pos hq] at ef
  cases ef
  refine⟨B0,ρ,fp,q.1,q.2,S,e3,fun H' fp' S'=>⟨q.1,rfl,?_⟩⟩
  rw[hq]
  exact iB (k σ H' fp' S')
variable {Gm:List aA->Option (Bool×aA)}
noncomputable def CB (m:Md)(t:BF)(i:Nat)(G:List aA->Option (Bool×aA))(fa:AF):SF:=fun ρ=>(bV m t ρ).bind fun b=>if b=true then(qN i G fa ρ).bind fun q=>if q.1=true then some (.nx q.2) else none else some (.nx ρ)
theorem Oz {a ce:aS}{body:List bG}{t:BF}{p1 p2:bL}(m:Md)(ht:DT X a t)(h:PE X ce (JV X.K H0 P0 i Gm fa))(he : ∀ whole,qV ce X.env whole=(do let v ← whole; nM ce.pos; kB [v] (truthy v)):=by intro _; rfl) :
  DS X H0 P0 n0 (.If (.BoolOp .And [a,.UnaryOp .Not ce p1] p2) body [] pos) (CB m t i Gm fa):=
 PS.imp (kN (PW.pt (Ig (evB (H0:=H0) (P0:=P0) m ht) (Mo (CU (CN h he))))) vT jZ) fun D σ H gh=>by
  obtain⟨B0,ρ,fp,o,S,ef,k⟩:=gh
  obtain⟨b,e1,ef⟩:=XBs ef
  refine⟨B0,ρ,fp,b,S,e1,fun H1 S1=>?_⟩
  cases b with
  | false=>
   cases ef
   exact iB (iB (k σ H1 fp S1))
  | true=>
   have ef:((qN i Gm fa ρ).bind fun q=>if q.1=true then some (Out.nx q.2) else none)=some o:=ef
   obtain⟨q,e3,ef⟩:=XBs ef
   by_cases hq:q.1=true
   case neg=>rw[if_neg hq] at ef; cases ef
   rw[if_pos hq] at ef
   cases ef
   refine jO ⟨B0,ρ,fp,q.1,q.2,S1,e3,fun H' fp' S'=>⟨q.1,rfl,?_⟩⟩
   rw[hq]
   exact iB (k σ H' fp' S')
end
section
variable {X:Cx}{H0:Hp}{P0:aB->Prop}{n0 n i j:Nat}{c T y nn:aD}{CT:aE}{F:FX}{G:SF}{fa:AF}{np hpos apos py:bL}{b₀:bG}{suite:List bG}{ce:aS}
theorem RJ (t:TryC X c T CT)(hcall : ∀ pins E,CallAt (X.tries pins E) ce n F fa)(hN:X.N.Nodup)(hi:X.N[i]?=some y)(hx:lP X.env.scope y)(hj:X.N[j]?=some nn)(hl:X.env.scope.names.lookup nn=some .local)(hG : ∀ ea,DSs (X.held ea) H0 P0 n0 (b₀::suite) G)
  (hsw:mG ce (some (.Name y py)) apos.line X.env=pure false:=by rfl) (hf:X.fn y=true \/ X.env.scope.names.lookup y=some .local:=by first | exact .inl rfl | exact .inr rfl | assumption) :
  lQ X H0 P0 n0 [.Assign [.Name y py] ce apos] (.ExceptHandler (some (.Name T np)) (some nn) (b₀::suite) hpos) (iL c F fa (BX i n) (sAs j c G)):=
 OC (W:=fun te=>xW te (uM i)) t hcall (fun pins E te h=>qA (X:=X.tries pins E) hN hi hx h hsw hf) (fun {B0 ρ fp o D σ H d} S ef k te hq=>hq _ fun v H' tm=>by
  obtain⟨hl,rfl⟩:=cT ef
  obtain⟨fp',S'⟩:=tm.set hl
  exact k _ _ fp' S') (fun te D σ H h=>h _) (MP t.ex hN hj hl hG)
end
section
variable {K:aH}{P0:aB->Prop}{F0 F1:List aB}{a p:aB}{d m1:aA}{Hx:Hp}{n:Nat}{ds:List aA}{us:List V}{Q:VK}{E:XK}
theorem NZ (hPx:Hid P0 Hx)(rmx:Aec K (hid Hx (orL (orL P0 F1) F0)) Hx n m1 (.ref p) F1):Hid (orL P0 F1) Hx:=fun b h=>by
 rcases h with h | h
 ·exact hPx b h
 ·exact rmx.mut b h
theorem QG {H':Hp}(hdj : ∀ b∈F0,b∉F1)(rmx:Aec K (hid Hx (orL (orL P0 F1) F0)) Hx n m1 (.ref p) F1)(kp : ∀ b o,b∉F0->Hx b=some o->H' b=some o):Aec K (hid H' (orL (orL P0 F1) F0)) H' n m1 (.ref p) F1:=by
 refine rmx.keep (fun b o e=>?_) fun b m=>?_
 ·obtain⟨nb,e⟩:=Ab3.mp e
  exact dZ nb (kp b o (fun m=>nb (.inr m)) e)
 ·have nb:b∉F0:=fun z=>hdj b z m
  rcases rmx.mut b m with⟨xs,q⟩ | ⟨xs,q⟩ <;> rw[q,kp _ _ nb q]
theorem Kb {G:List aA->Option (Bool×aA)}{q:Bool×aA}(hPx:Hid P0 Hx)(hF0 : ∀ b∈F0,¬ P0 b)(hdj : ∀ b∈F0,b∉F1)(nF0:F0.Nodup)(rbx:RepB K (hid Hx (orL (orL P0 F1) F0)) Hx d (.ref a) F0)(rmx:Aec K (hid Hx (orL (orL P0 F1) F0)) Hx n m1 (.ref p) F1)(rd:Aar K (hid Hx (orL (orL P0 F1) F0)) ds us)(eG:G (d::ds)=some q)
  (k : ∀ H',(∀ b o,b∉F0->Hx b=some o->H' b=some o)->RepB K (hid H' (orL (orL P0 F1) F0)) H' q.2 (.ref a) F0->Aec K (hid H' (orL (orL P0 F1) F0)) H' n m1 (.ref p) F1->Q (.bl q.1) H'):rR K G (.ref a::us) Hx Q E:=
 ⟨orL P0 F1,F0,a,us,d,ds,q.1,q.2,rfl,NZ hPx rmx,fun b m h=>h.elim (hF0 b m) (hdj b m),nF0,rbx,rd,eG,fun H' kp rb'=>k H' kp rb' (QG hdj rmx kp)⟩
theorem Np {G:List aA->Option (aA×aA)}{q:aA×aA}(hPx:Hid P0 Hx)(hF0 : ∀ b∈F0,¬ P0 b)(hdj : ∀ b∈F0,b∉F1)(nF0:F0.Nodup)(rbx:RepB K (hid Hx (orL (orL P0 F1) F0)) Hx d (.ref a) F0)(rmx:Aec K (hid Hx (orL (orL P0 F1) F0)) Hx n m1 (.ref p) F1)(rd:Aar K (hid Hx (orL (orL P0 F1) F0)) ds us)(eG:G (d::ds)=some q)
  (k : ∀ H' v,(∀ b o,b∉F0->Hx b=some o->H' b=some o)->RepB K (hid H' (orL (orL P0 F1) F0)) H' q.2 (.ref a) F0->Aec K (hid H' (orL (orL P0 F1) F0)) H' n m1 (.ref p) F1->Aa6 K (hid H' (orL (orL P0 F1) F0)) q.1 v->Q v H'):yH K G (.ref a::us) Hx Q E:=
 ⟨orL P0 F1,F0,a,us,d,ds,q.1,q.2,rfl,NZ hPx rmx,fun b m h=>h.elim (hF0 b m) (hdj b m),nF0,rbx,rd,eG,fun H' v kp rb' rv=>k H' v kp rb' (QG hdj rmx kp) rv⟩
theorem RepB.ins {B H:Hp}{c:aD}{W D:aA}{C:aB}{v:V}{F:List aB}(h:RepB K B H (bK c W D) v F)(hc:cX K c=some (.ref C)) : ∃ a dx w q,v = .ref a/\H a=some (.ins C dx [("wide",w),("held",q)]):=by
 obtain⟨c',C',dx,a',w',qq,wds,hds,kvs,hvs,pps,e3,ea,e4,hia,_⟩:=h.ex
 have e3':c'=c:=by
  simp only[bK,IL,BA,rA,IK,and_true,true_and] at e3
  exact e3.1.symm
 subst e3'
 obtain rfl:=lZ hc e4
 exact⟨a',dx,_,_,ea,hia⟩
end
theorem Kx {P:bC}{w:aW}{A:bT}{E:aE->aG->Prop}{s:aG}{l:aB}{vs:List aE}{is:List Int}{Q:aE->aG->Prop}(hh:A.handled=none)(hl:s.heap.IsList l vs.toArray)(hi:IntsAre vs is)
  (h : ∀ t h' tk,(∀ b o,s.heap.get? b=some o->h'.get? b=some o)->Q (.int is.sum t) { s with heap:=h',toks:=tk }):aO (aP P w) A (call (.builtin "sum") [.ref l]) Q E s:=by
 obtain⟨xs,e⟩:=hi.allInts.items
 have e2:is=numsOf (intItems xs).toList:=by
  rw[← e]
  exact hi.numsOf.symm
 rw[e] at hl
 refine sum_intListG hh hl fun h' tk t' hk=>?_
 have:=h t' h' tk hk
 rw[e2,nums_intItems] at this
 rw[preSum_eq,VE (by simp)]
 exact this
theorem Bd:iX "sum" = some (.builtin "sum"):=by kernel_rfl
section
variable {X:Cx}
theorem Dm (hc:X.calm=true):Ac8 X (.builtin "sum") (fun xs H Q=>∃ p,∃ is:List Int,xs=[.ref p]/\SqL X.K H p (is.map V.int)/\Q (.int is.sum) H):=by
 intro pins s σ H xs us Q I r h
 obtain⟨p,is,rfl,hp,q⟩:=h
 obtain⟨u,rfl,ru⟩:=vals1 r
 cases ru
 obtain⟨its,rv,pl,_⟩:=I.list hp
 refine Kx (I.ok.hd hc) pl.isList (KJ rv) fun t h' tk hk=>?_
 exact⟨.int is.sum,H,I.kept fun b o e=>hk b o e,⟨t,rfl⟩,q⟩
noncomputable def HI:List aA->Option aA
 | [.list ds]=>(qR ds).bind fun is=>some (.int is.sum)
 | _=>none
theorem Ei {K:aH}:CallD K 0 (fun xs H Q=>∃ p,∃ is:List Int,xs=[.ref p]/\SqL K H p (is.map V.int)/\Q (.int is.sum) H) HI:=fun P H xs ds d Q hP r e k=>by
 unfold HI at e
 split at e
 ·obtain⟨is,e1,e2⟩:=XBs e
  cases e2
  obtain rfl:=MG e1
  obtain⟨v,rfl,r'⟩:=fV r
  obtain⟨q,ys,rfl,hq,rr⟩:=Abf.mp r'
  obtain rfl:=RO rr
  exact⟨q,is,rfl,Aax.sqL hq,k.zero Ext.refl (Aao.mpr rfl)⟩
 ·cases e
end
section
variable {X:Cx}
theorem TK:OpR X (dR .Is) (fun x y H Q=>∃ a b,x = .bl a/\y = .bl b/\Q (.bl (decide (a=b))) H):=by
 intro pins s σ H x y v u Q I rx ry h
 obtain⟨a,b,rfl,rfl,q⟩:=h
 cases rx
 cases ry
 refine wpAny_is_plain rfl (uT I q ?_)
 cases a <;> cases b <;> rfl
noncomputable def BY:aA->aA->Option aA
 | .bool a,.bool b=>some (.bool (decide (a=b)))
 | _,_=>none
theorem LM {K:aH}:OpD K 0 (fun x y H Q=>∃ a b,x = .bl a/\y = .bl b/\Q (.bl (decide (a=b))) H) BY:=fun P H x y a b d Q hP ra rb e k=>by
 unfold BY at e
 split at e
 ·cases e
  exact⟨_,_,Aak.mp ra,Aak.mp rb,k.zero Ext.refl (Aak.mpr rfl)⟩
 ·cases e
end
end L2
namespace Aw
open PySem L2
noncomputable def top (i:Nat):bG:=PySem.Challenge.pw_askwithin_k11_full_tables.main.body.getD i (.Pass ⟨0,0,0,0⟩)
noncomputable abbrev GD:bG:=top 14
noncomputable abbrev Eo:List aD:=["thing"]
noncomputable abbrev sT:List aD:=["thing"]
theorem Aks:FnScope Eo sT (bQ GD):=⟨rfl,rfl,rfl,by decide +kernel,rfl,by decide +kernel,by decide +kernel⟩
noncomputable abbrev GC:bG:=top 15
noncomputable abbrev Ds:List aD:=["thing"]
noncomputable abbrev vY:List aD:=["thing"]
theorem Ak7:FnScope Ds vY (bQ GC):=⟨rfl,rfl,rfl,by decide +kernel,rfl,by decide +kernel,by decide +kernel⟩
noncomputable abbrev zG:bG:=top 16
noncomputable abbrev ON:List aD:=["thing"]
noncomputable abbrev sL:List aD:=["thing"]
theorem Ame:FnScope ON sL (bQ zG):=⟨rfl,rfl,rfl,by decide +kernel,rfl,by decide +kernel,by decide +kernel⟩
noncomputable abbrev FN:bG:=top 17
noncomputable abbrev Br:List aD:=["thing"]
noncomputable abbrev vU:List aD:=["thing"]
theorem Amc:FnScope Br vU (bQ FN):=⟨rfl,rfl,rfl,by decide +kernel,rfl,by decide +kernel,by decide +kernel⟩
noncomputable abbrev yU:bG:=top 22
noncomputable abbrev NN:List aD:=["thing"]
noncomputable abbrev vN:List aD:=["thing"]
theorem Ape:FnScope NN vN (bQ yU):=⟨rfl,rfl,rfl,by decide +kernel,rfl,by decide +kernel,by decide +kernel⟩
noncomputable abbrev FZ:bG:=top 23
noncomputable abbrev Do:List aD:=["thing"]
noncomputable abbrev vZ:List aD:=["thing"]
theorem Ak3:FnScope Do vZ (bQ FZ):=⟨rfl,rfl,rfl,by decide +kernel,rfl,by decide +kernel,by decide +kernel⟩
noncomputable abbrev wL:bG:=top 24
noncomputable abbrev GV:List aD:=["thing"]
noncomputable abbrev wM:List aD:=["thing"]
theorem Aig:FnScope GV wM (bQ wL):=⟨rfl,rfl,rfl,by decide +kernel,rfl,by decide +kernel,by decide +kernel⟩
noncomputable abbrev GZ:bG:=inClass (top 25) 0
noncomputable abbrev SB:List aD:=["self","widths","table"]
noncomputable abbrev wO:List aD:=["self","widths"]
theorem Af6:FnScope SB wO (bQ GZ):=⟨rfl,rfl,rfl,by decide +kernel,rfl,by decide +kernel,by decide +kernel⟩
noncomputable abbrev HB:bG:=inClass (top 25) 1
noncomputable abbrev Ia:List aD:=["self","table"]
noncomputable abbrev sW:List aD:=["self","table"]
theorem Ae1:FnScope Ia sW (bQ HB):=⟨rfl,rfl,rfl,by decide +kernel,rfl,by decide +kernel,by decide +kernel⟩
noncomputable abbrev GY:bG:=inClass (top 25) 2
noncomputable abbrev Hv:List aD:=["self","table","row"]
noncomputable abbrev nC:List aD:=["self","table","row"]
theorem Agc:FnScope Hv nC (bQ GY):=⟨rfl,rfl,rfl,by decide +kernel,rfl,by decide +kernel,by decide +kernel⟩
noncomputable abbrev zQ:bG:=inClass (top 25) 3
noncomputable abbrev RD:List aD:=["self","table","row"]
noncomputable abbrev lK:List aD:=["self","table","row"]
theorem Af5:FnScope RD lK (bQ zQ):=⟨rfl,rfl,rfl,by decide +kernel,rfl,by decide +kernel,by decide +kernel⟩
noncomputable abbrev zT:bG:=inClass (top 25) 4
noncomputable abbrev QW:List aD:=["self","table","row"]
noncomputable abbrev nA:List aD:=["self","table","row"]
theorem Ae2:FnScope QW nA (bQ zT):=⟨rfl,rfl,rfl,by decide +kernel,rfl,by decide +kernel,by decide +kernel⟩
noncomputable abbrev FY:bG:=inClass (top 25) 5
noncomputable abbrev Eg:List aD:=["self","table","row"]
noncomputable abbrev sS:List aD:=["self","table","row"]
theorem Als:FnScope Eg sS (bQ FY):=⟨rfl,rfl,rfl,by decide +kernel,rfl,by decide +kernel,by decide +kernel⟩
noncomputable abbrev GP:bG:=inClass (top 25) 6
noncomputable abbrev Fo:List aD:=["self","table"]
noncomputable abbrev wB:List aD:=["self","table"]
theorem Ajq:FnScope Fo wB (bQ GP):=⟨rfl,rfl,rfl,by decide +kernel,rfl,by decide +kernel,by decide +kernel⟩
noncomputable abbrev GX:bG:=inClass (top 25) 7
noncomputable abbrev Ha:List aD:=["self"]
noncomputable abbrev zV:List aD:=["self"]
theorem Ag9:FnScope Ha zV (bQ GX):=⟨rfl,rfl,rfl,by decide +kernel,rfl,by decide +kernel,by decide +kernel⟩
noncomputable abbrev zU:bG:=inClass (top 25) 9
noncomputable abbrev RL:List aD:=["self"]
noncomputable abbrev wD:List aD:=["self"]
theorem Ajx:FnScope RL wD (bQ zU):=⟨rfl,rfl,rfl,by decide +kernel,rfl,by decide +kernel,by decide +kernel⟩
noncomputable abbrev GL:bG:=top 27
noncomputable abbrev Fv:List aD:=["_law_script","_law_k","_law_number"]
noncomputable abbrev wA:List aD:=["_law_script","_law_k"]
theorem Ajp:FnScope Fv wA (bQ GL):=⟨rfl,rfl,rfl,by decide +kernel,rfl,by decide +kernel,by decide +kernel⟩
noncomputable abbrev FW:bG:=top 28
noncomputable abbrev Du:List aD:=["_law_cell_here","_law_k","_law_number"]
noncomputable abbrev qH:List aD:=["_law_cell_here","_law_k"]
theorem Ak4:FnScope Du qH (bQ FW):=⟨rfl,rfl,rfl,by decide +kernel,rfl,by decide +kernel,by decide +kernel⟩
noncomputable abbrev sU:bG:=top 29
noncomputable abbrev zW:List aD:=["_law_cell_here","_law_count","_law_signs","_law_size","_law_base","_law_at","_law_found","_law_k"]
noncomputable abbrev wK:List aD:=["_law_cell_here","_law_count"]
theorem Ahx:FnScope zW wK (bQ sU):=⟨rfl,rfl,rfl,by decide +kernel,rfl,by decide +kernel,by decide +kernel⟩
noncomputable abbrev GF:bG:=top 30
noncomputable abbrev Et:List aD:=["_law_number","_law_wide","_law_at","_law_row_here"]
noncomputable abbrev vW:List aD:=["_law_number","_law_wide","_law_at"]
theorem Aki:FnScope Et vW (bQ GF):=⟨rfl,rfl,rfl,by decide +kernel,rfl,by decide +kernel,by decide +kernel⟩
noncomputable abbrev zO:bG:=top 31
noncomputable abbrev QS:List aD:=["_law_book","_law_table","_law_row_here","_law_refusal","_law_found","error"]
noncomputable abbrev mY:List aD:=["_law_book","_law_table","_law_row_here"]
theorem Afx:FnScope QS mY (bQ zO):=⟨rfl,rfl,rfl,by decide +kernel,rfl,by decide +kernel,by decide +kernel⟩
noncomputable abbrev GW:bG:=top 32
noncomputable abbrev Hk:List aD:=["_law_cell_here","_law_row_here","_law_way","_law_at"]
noncomputable abbrev wI:List aD:=["_law_cell_here","_law_row_here"]
theorem Aha:FnScope Hk wI (bQ GW):=⟨rfl,rfl,rfl,by decide +kernel,rfl,by decide +kernel,by decide +kernel⟩
noncomputable abbrev HA:bG:=top 33
noncomputable abbrev Hr:List aD:=["_law_book","_law_table","_law_row_here","_law_way","_law_refusal","error"]
noncomputable abbrev wR:List aD:=["_law_book","_law_table","_law_row_here","_law_way"]
theorem Agk:FnScope Hr wR (bQ HA):=⟨rfl,rfl,rfl,by decide +kernel,rfl,by decide +kernel,by decide +kernel⟩
noncomputable abbrev GN:bG:=top 34
noncomputable abbrev GR:List aD:=["_law_book","_law_table","_law_model","_law_row_here","_law_way","_law_owed","_law_found"]
noncomputable abbrev wG:List aD:=["_law_book","_law_table","_law_model","_law_row_here","_law_way"]
theorem Ajw:FnScope GR wG (bQ GN):=⟨rfl,rfl,rfl,by decide +kernel,rfl,by decide +kernel,by decide +kernel⟩
noncomputable abbrev pL:bG:=top 35
noncomputable abbrev YQ:List aD:=["_law_script","_law_names_here","_law_first","_law_wide","_law_at","_law_base","_law_step","_law_book","_law_model","_law_k","_law_count","_law_cell_here","_law_number","_law_row_here"]
noncomputable abbrev SJ:List aD:=["_law_script"]
theorem A3d:FnScope YQ SJ (bQ pL):=⟨rfl,rfl,rfl,by decide +kernel,rfl,by decide +kernel,by decide +kernel⟩
structure Blt (mg:aD->Option aE):Prop where
 «isinstance» : mg "isinstance" = none
 «int» : mg "int" = none
 «bool» : mg "bool" = none
 «abs» : mg "abs" = none
 «range» : mg "range" = none
 «len» : mg "len" = none
 «str» : mg "str" = none
 «all» : mg "all" = none
 «any» : mg "any" = none
 «list» : mg "list" = none
 «tuple» : mg "tuple" = none
 «dict» : mg "dict" = none
 «set» : mg "set" = none
 «sorted» : mg "sorted" = none
 «sum» : mg "sum" = none
 «min» : mg "min" = none
 «max» : mg "max" = none
 «enumerate» : mg "enumerate" = none
 «zip» : mg "zip" = none
 «reversed» : mg "reversed" = none
 «ValueError» : mg "ValueError" = none
structure Cst (mg:aD->Option aE):Prop where
 LETTERS : ∃ t,mg "LETTERS" = some (.str "abcdefghijklmnopqrstuvwxyz" t)
 FIGURES : ∃ t,mg "FIGURES" = some (.str "0123456789" t)
 MOST_SIGNS : ∃ t,mg "MOST_SIGNS" = some (.int 12 t)
 MOST_WIDTH : ∃ t,mg "MOST_WIDTH" = some (.int 6 t)
 MOST_TABLES : ∃ t,mg "MOST_TABLES" = some (.int 12 t)
 MOST_ROWS : ∃ t,mg "MOST_ROWS" = some (.int 60 t)
structure Xcs (K:aH)(mg:aD->Option aE):Prop where
 bk:InsC K "Book"
 r_NoTable:yD K "NoTable"
 r_NoRow:yD K "NoRow"
 r_Full:yD K "Full"
 t_AskError:ExM K mg "NoRow" "AskError"
 t_NoRow:ExM K mg "NoRow" "NoRow"
 i_TooMany:IsM K mg "NoRow" "TooMany" false
 i_NoRow:IsM K mg "NoRow" "NoRow" true
 i_NoTable:IsM K mg "NoRow" "NoTable" false
 i_NoDeed:IsM K mg "NoRow" "NoDeed" false
 i_NoName:IsM K mg "NoRow" "NoName" false
 i_NoText:IsM K mg "NoRow" "NoText" false
 i_ValueError:IsV K mg "NoRow" "ValueError" "ValueError" true
 i_Full:IsM K mg "NoRow" "Full" false
 t_AskError_Full:ExM K mg "Full" "AskError"
 i_TooMany_Full:IsM K mg "Full" "TooMany" false
 i_NoRow_Full:IsM K mg "Full" "NoRow" false
 i_NoTable_Full:IsM K mg "Full" "NoTable" false
 i_NoDeed_Full:IsM K mg "Full" "NoDeed" false
 i_NoName_Full:IsM K mg "Full" "NoName" false
 i_NoText_Full:IsM K mg "Full" "NoText" false
 i_ValueError_Full:IsV K mg "Full" "ValueError" "ValueError" true
 i_Full_Full:IsM K mg "Full" "Full" true
set_option maxHeartbeats 4000000
variable {P:bC}{w:aW}{K:aH}{mg:aD->Option aE}{base:aQ}{f:aB}{fd:dS}
noncomputable def Ej:SF:=(cK 0 .s (gO (eUn (jD "int") (aF 0)) (JR (eUn (jD "bool") (aF 0)))))
noncomputable def oX:List aA->Option aA:=fnD 1 1 Ej
theorem Fg (F:Fun K "is_whole" "is_whole" GD f fd)(B:Blt mg)(C:Cst mg)(V:Xcs K mg):FnOk P w K mg base CX0 1 f fd sT (spF K 0 oX):=by
 have nd:=Aks.nd
 exact iP F Aks rfl (by decide) fun cdv A outer s H E P0 hr=>by
  have hu:=eQ hr
  have hv:=eK hr
  exact(cC (dD .s (mS (pW (T:="int") rfl B.isinstance rfl B.int PyProof.Rows.boot_int (by decide) (aJ 0)) (oI (YU (pW (T:="bool") rfl B.isinstance rfl B.bool PyProof.Rows.boot_bool (by decide) (aJ 0)))))))
noncomputable def Bx:SF:=(bF (sIf .s (bOr (fT (bOf (eUn (jD "str") (aF 0)))) (fT (bOf (kR gLe gLe (eC (.int 1)) (aR eJ (aI (aF 0) aL)) (eC (.int 12)))))) (cK 0 .s (eC (.bool false))) dW)
 (cK 0 .s (gO (eOp (gIn false) (eOp gIx (aF 0) (eC (.int 0))) (eC (.str "abcdefghijklmnopqrstuvwxyz"))) (aR qQ (aI (eLC [none] (iIt (aF 0)) (gB 0) iC (eOp (gIn false) (aF 0) (eOp cS (eC (.str "abcdefghijklmnopqrstuvwxyz")) (eC (.str "0123456789"))))) aL)))))
noncomputable def kA:List aA->Option aA:=fnD 1 1 Bx
theorem Dt (F:Fun K "is_name" "is_name" zG f fd)(B:Blt mg)(C:Cst mg)(V:Xcs K mg):FnOk P w K mg base CX0 1 f fd sL (spF K 0 kA):=by
 obtain⟨_,h_FIGURES⟩:=C.FIGURES
 obtain⟨_,h_LETTERS⟩:=C.LETTERS
 obtain⟨_,h_MOST_SIGNS⟩:=C.MOST_SIGNS
 have nd:=Ame.nd
 exact iP F Ame rfl (by decide) fun cdv A outer s H E P0 hr=>by
  have hu:=eQ hr
  have hv:=eK hr
  exact(bR (fU .s (qJ (mR (lX (iS (pW (T:="str") rfl B.isinstance rfl B.str PyProof.Rows.boot_str (by decide) (aJ 0)))) (pU (lX (NG (Atw.or sM) (Atw.or sM) rW rW aU (fK mF mE rfl B.len jK (aM (aJ 0) aX)) (sJ (i:=12) rfl h_MOST_SIGNS ⟨_,rfl⟩)))))) (cC (dD .s hJ)) fW)
   (cC (dD .s (mS (iD (oR hu) lF (dY hv (aJ 0) aU (fun _ _=>rfl)) (FE (i:="abcdefghijklmnopqrstuvwxyz") rfl h_LETTERS ⟨_,rfl⟩) (by with_unfolding_all rfl)) (oI (fK (FJ rfl) FQ rfl B.all boot_all (aM (gV (n:=1) (pP rfl (oV (N:=["sign"]) (cap:=[none]) (out:=(bQ zG).names) (XN:=ON) rfl rfl (by decide +kernel) rfl) nZ (uR (aJ 0)) (fun cl C s₀ H₀ ex=>⟨oQ (j:=0) (show(["sign"]:List aD).Nodup by decide +kernel) rfl (bH rfl),oP,(iD (oR hu) lF (aJ 0) (gG (FE (i:="abcdefghijklmnopqrstuvwxyz") rfl h_LETTERS ⟨_,rfl⟩) (FE (i:="0123456789") rfl h_FIGURES ⟨_,rfl⟩)) (by with_unfolding_all rfl))⟩))) aX)))))))
noncomputable def Bu:SF:=(cK 0 .s (gO (eUn (jD "tuple") (aF 0)) (eOp gEq (aR eJ (aI (aF 0) aL)) (eC (.int 2)))))
noncomputable def qF:List aA->Option aA:=fnD 1 1 Bu
theorem Dh (F:Fun K "is_pair" "is_pair" FN f fd)(B:Blt mg)(C:Cst mg)(V:Xcs K mg):FnOk P w K mg base CX0 1 f fd vU (spF K 0 qF):=by
 have nd:=Amc.nd
 exact iP F Amc rfl (by decide) fun cdv A outer s H E P0 hr=>by
  have hu:=eQ hr
  have hv:=eK hr
  exact(cC (dD .s (mS (pW (T:="tuple") rfl B.isinstance rfl B.tuple UZ (by decide) (aJ 0)) (oI (iD (jW hu) kQ (fK mF mE rfl B.len jK (aM (aJ 0) aX)) aU (dQ _))))))
noncomputable def Gx (z:Option aD):SF:=(cK 0 .s (aR DP (aI (eUn (mQ "Book") (aF 0)) aL)))
noncomputable def RX:FX:=fun z=>fnD 1 1 (Gx z)
theorem Ho (F:Fun K "tables" "Book.tables" GX f fd)(B:Blt mg)(C:Cst mg)(V:Xcs K mg):FnOk P w K mg base (CXR base P w) 1 f fd zV (spX K 0 RX):=by
 have nd:=Ag9.nd
 exact oM F Ag9 rfl (by decide) fun cdv A outer s H E P0 z hr hz=>by
  have hu:=eQ hr
  have hv:=eK hr
  exact(cC (dD .s (gV (n:=1) (fK (Gy rfl) Gu rfl B.sorted VA (aM (DM V.bk (aJ 0)) aX)))))
noncomputable def Fd (z:Option aD):SF:=(cK 0 .s (aR HI (aI (eLC [none] (iDV (eUn (dX "Book") (aF 0))) (gB 0) iC (aR lD (aI (aF 0) aL))) aL)))
noncomputable def wH:FX:=fun z=>fnD 1 1 (Fd z)
theorem Gh (F:Fun K "size" "Book.size" zU f fd)(B:Blt mg)(C:Cst mg)(V:Xcs K mg):FnOk P w K mg base (CXR base P w) 1 f fd wD (spX K 0 wH):=by
 have nd:=Ajx.nd
 exact oM F Ajx rfl (by decide) fun cdv A outer s H E P0 z hr hz=>by
  have hu:=eQ hr
  have hv:=eK hr
  exact(cC (dD .s (fK (Dm rfl) Ei rfl B.sum Bd (aM (gV (n:=1) (pP rfl (oV (N:=["rows"]) (cap:=[none]) (out:=(bQ zU).names) (XN:=RL) rfl rfl (by decide +kernel) rfl) nZ (Li (mT V.bk (aJ 0))) (fun cl C s₀ H₀ ex=>⟨oQ (j:=0) (show(["rows"]:List aD).Nodup by decide +kernel) rfl (bH rfl),oP,(fK vQ vX rfl B.len jK (aM (aJ 0) aX))⟩))) aX))))
noncomputable def zR:SF:=(bF (sIf .s (bOf (eOp gLt (aF 1) (aR eJ (aI (aF 0) aL)))) (cK 0 .s (eOp gIx (aF 0) (aF 1))) dW)
 (bF (cE 2 0 .s (eOp cS (eOp fD (aF 1) (eC (.int 7919))) (eC (.int 5))))
 (bF (sIf .s (bOf (eOp gGt (aR eJ (aI (aF 0) aL)) (eC (.int 0)))) (cE 2 0 .s (eOp cH (eOp cS (eOp fD (eOp gIx (aF 0) (eOp cH (eOp fD (aF 1) (eC (.int 7))) (aR eJ (aI (aF 0) aL)))) (eC (.int 48271))) (eOp fD (aF 1) (eC (.int 7919)))) (eC (.int 2147483647)))) dW)
 (cK 0 .s (eOp cH (eOp fD (aF 2) (aF 2)) (eC (.int 2147483629)))))))
noncomputable def lJ:List aA->Option aA:=fnD 2 3 zR
theorem Gg (F:Fun K "_law_cell" "_law_cell" GL f fd)(B:Blt mg)(C:Cst mg)(V:Xcs K mg):FnOk P w K mg base CX0 1 f fd wA (spF K 0 lJ):=by
 have nd:=Ajp.nd
 exact iP F Ajp rfl (by decide) fun cdv A outer s H E P0 hr=>by
  have hu:=eQ hr
  have hv:=eK hr
  exact(bR (fU .s (fG (Av5.or vR) vB (aJ 1) (fK mF mE rfl B.len jK (aM (aJ 0) aX)) (dQ _)) (cC (dD .s (dY hv (aJ 0) (aJ 1) (fun _ _=>rfl)))) fW)
   (bR (dG (i:=2) 0 .s nd rfl (by first | exact bH rfl | exact bE rfl) (gG (jT (aJ 1) aU) aU))
   (bR (fU .s (fG HL CW (fK mF mE rfl B.len jK (aM (aJ 0) aX)) aU (dQ _)) (cC (dG (i:=2) 0 .s nd rfl (by first | exact bH rfl | exact bE rfl) (fF (gG (jT (dY hv (aJ 0) (fF (jT (aJ 1) aU) (fK mF mE rfl B.len jK (aM (aJ 0) aX))) (fun _ _=>rfl)) aU) (jT (aJ 1) aU)) aU))) fW)
   (cC (dD .s (fF (jT (aJ 2) (aJ 2)) aU))))))
noncomputable def QT:SF:=(bF (cE 2 0 .s (eOp cH (eOp cS (eOp cS (eOp cS (eOp fD (eOp cH (aF 0) (eC (.int 2147483647))) (eC (.int 48271))) (eOp fD (eOp fD (aF 1) (aF 1)) (eC (.int 69621)))) (aF 1)) (eC (.int 11))) (eC (.int 2147483629))))
 (cK 0 .s (eOp cH (eOp fD (aF 2) (aF 2)) (eC (.int 2147483587)))))
noncomputable def fC:List aA->Option aA:=fnD 2 3 QT
theorem Gb (F:Fun K "_law_mix" "_law_mix" FW f fd)(B:Blt mg)(C:Cst mg)(V:Xcs K mg):FnOk P w K mg base CX0 1 f fd qH (spF K 0 fC):=by
 have nd:=Ak4.nd
 exact iP F Ak4 rfl (by decide) fun cdv A outer s H E P0 hr=>by
  have hu:=eQ hr
  have hv:=eK hr
  exact(bR (dG (i:=2) 0 .s nd rfl (by first | exact bH rfl | exact bE rfl) (fF (gG (gG (gG (jT (fF (aJ 0) aU) aU) (jT (jT (aJ 1) (aJ 1)) aU)) (aJ 1)) aU) aU))
   (cC (dD .s (fF (jT (aJ 2) (aJ 2)) aU))))
noncomputable def En:SF:=(bF (cE 3 1 .s (nK (jQ (aI (eOp oG (aF 0) (eC (.int 3))) (aI (eOp oG (eC (.int 0)) (aF 0)) (aI (eC (.int 5)) (aI (aF 0) (aI (eC (.int 0)) (aI (eOp oG (eC (.int 1)) (aF 0)) aL))))))) oN (oS (aF 1))))
 (bF (oB 3 .s (aF 0) .s (aF 2))
 (xV 3 (cK 0 .s (aR CD (aI (aF 3) aL))))))
noncomputable def qG:List aA->Option aA:=fnD 3 4 En
theorem Gc (F:Fun K "_law_row" "_law_row" GF f fd)(B:Blt mg)(C:Cst mg)(V:Xcs K mg):FnOk P w K mg base CX0 1 f fd vW (spF K 0 qG):=by
 have nd:=Aki.nd
 exact iP F Aki rfl (by decide) fun cdv A outer s H E P0 hr=>by
  have hu:=eQ hr
  have hv:=eK hr
  exact(bR (dG (i:=3) 1 .s nd rfl (by first | exact bH rfl | exact bE rfl) (CY (gV (n:=1) (rY (aM (rZ (aJ 0) aU) (aM (rZ aU (aJ 0)) (aM aU (aM (aJ 0) (aM aU (aM (rZ aU (aJ 0)) aX)))))))) sF (oO (aJ 1))))
   (bR (DY 3 .s .s (aJ 0) (aJ 2))
   (LC 3 (cC (dD .s (zM Hb Fm rfl B.tuple UZ (aM (aJ 3) aX)))))))
noncomputable def Di:SF:=(cK 0 .s (gO (aR oX (aI (aF 0) aL)) (eOp gLt (aR BQ (aI (aF 0) aL)) (eOp fD (eOp qP (eC (.int 10)) (eC (.int 60))) (eOp qP (eC (.int 10)) (eC (.int 10)))))))
noncomputable def sR:List aA->Option aA:=fnD 1 1 Di
theorem Fn (F:Fun K "is_value" "is_value" GC f fd)(B:Blt mg)(C:Cst mg)(V:Xcs K mg)(D_is_whole:Def P w K mg base "is_whole" 1 sT (spF K 0 oX)):FnOk P w K mg base CX0 2 f fd vY (spF K 0 sR):=by
 have nd:=Ak7.nd
 exact iP F Ak7 rfl (by decide) fun cdv A outer s H E P0 hr=>by
  have hu:=eQ hr
  have hv:=eK hr
  exact(cC (dD .s (mS (cY D_is_whole (hr.mono (by decide)) rfl (aM (aJ 0) aX)) (oI (iD (Av5.or vR) vB (fK Pc Aj rfl B.abs boot_abs (aM (aJ 0) aX)) (jT (vC aU aU) (vC aU aU)) (dQ _))))))
noncomputable def RB:SF:=(cK 0 .s (gO (aR oX (aI (aF 0) aL)) (kR gLe gLe (eC (.int 1)) (aF 0) (eC (.int 6)))))
noncomputable def mZ:List aA->Option aA:=fnD 1 1 RB
theorem Ge (F:Fun K "is_width" "is_width" FZ f fd)(B:Blt mg)(C:Cst mg)(V:Xcs K mg)(D_is_whole:Def P w K mg base "is_whole" 1 sT (spF K 0 oX)):FnOk P w K mg base CX0 2 f fd vZ (spF K 0 mZ):=by
 obtain⟨_,h_MOST_WIDTH⟩:=C.MOST_WIDTH
 have nd:=Ak3.nd
 exact iP F Ak3 rfl (by decide) fun cdv A outer s H E P0 hr=>by
  have hu:=eQ hr
  have hv:=eK hr
  exact(cC (dD .s (mS (cY D_is_whole (hr.mono (by decide)) rfl (aM (aJ 0) aX)) (oI (Nh (Atw.or sM) (Atw.or sM) rW rW aU (aJ 0) (sJ (i:=6) rfl h_MOST_WIDTH ⟨_,rfl⟩))))))
noncomputable def zY (z:Option aD):SF:=(sIf .s (bOr (fT (bOf (aR kA (aI (aF 1) aL)))) (bOf (eOp (gIn true) (aF 1) (eUn (mQ "Book") (aF 0))))) (uZ z "NoTable") dW)
noncomputable def pA:FX:=fun z=>fnD 2 2 (zY z)
theorem Ib (F:Fun K "want_table" "Book.want_table" HB f fd)(B:Blt mg)(C:Cst mg)(V:Xcs K mg)(D_is_name:Def P w K mg base "is_name" 1 sL (spF K 0 kA)):FnOk P w K mg base (CXR base P w) 2 f fd sW (spX K 0 pA):=by
 have nd:=Ae1.nd
 exact oM F Ae1 rfl (by decide) fun cdv A outer s H E P0 z hr hz=>by
  have hu:=eQ hr
  have hv:=eK hr
  exact(cC (fU .s (qJ (mR (lX (iS (cY D_is_name (hr.mono (by decide)) rfl (aM (aJ 1) aX)))) (pU (fG (GT hu) lF (aJ 1) (DM V.bk (aJ 0)) (by with_unfolding_all rfl))))) (cC (yX hz V.r_NoTable rfl rfl)) fW))
noncomputable def Gw:SF:=(bF (cE 2 0 .s (eC (.str "abcdefghijklmnopqrstuvwxyz0123456789")))
 (bF (cE 3 0 .s (eOp cS (eC (.int 1)) (eOp cH (aR fC (aI (aF 0) (aI (eC (.int 1)) aL))) (eC (.int 12)))))
 (bF (sIf .s (bOf (eOp gEq (eOp cH (aR fC (aI (aF 0) (aI (eC (.int 2)) aL))) (eC (.int 3))) (eC (.int 0)))) (cE 3 0 .s (eC (.int 12))) dW)
 (bF (cE 4 1 .s (eLC [none,some 2,some 0] (iR1 (aI (aF 3) aL)) (gB 0) iC (eOp gIx (aF 1) (eOp cH (aR fC (aI (aF 2) (aI (eOp cS (eC (.int 30)) (aF 0)) aL))) (eC (.int 36))))))
 (bF (oB 4 .s (eOp gIx (aF 2) (eOp cH (aR fC (aI (aF 0) (aI (eC (.int 50)) aL))) (eC (.int 26)))) .s (eC (.int 0)))
 (bF (sIf .s (bOf (eOp gEq (eOp cH (aR fC (aI (aF 0) (aI (eC (.int 2)) aL))) (eC (.int 3))) (eC (.int 0)))) (cK 1 .a (eLC [none,some 4] (iR1 (aI (aF 1) aL)) (gB 0) iC (eOp rQ (eC (.str "")) (nK (aF 1) oN (oS (eOp cS (aF 0) (eC (.int 1)))))))) dW)
 (bF (cE 5 0 .s (eOp cH (aR fC (aI (aF 0) (aI (eC (.int 3)) aL))) (aF 3)))
 (bF (cE 6 1 .s (jQ aL))
 (bF (lU .s (iR1 (aI (aF 1) aL)) (gNm 7) (bF (oB 4 .s (eOp gIx (aF 2) (eOp cH (eOp cS (aR fC (aI (aF 0) (aI (eC (.int 4)) aL))) (aF 7)) (eOp cS (eC (.int 26)) (eOp fD (eC (.int 10)) (aR sY (aI (eOp gGt (aF 5) (eC (.int 0))) aL)))))) .s (aF 5))
 (BN 6 .a (eOp rQ (eC (.str "")) (aF 4)))))
 (xV 4 (HU 6 1)))))))))))
noncomputable def sV:List aA->Option aA:=fnD 2 8 Gw
theorem He (F:Fun K "_law_names" "_law_names" sU f fd)(B:Blt mg)(C:Cst mg)(V:Xcs K mg)(D__law_mix:Def P w K mg base "_law_mix" 1 qH (spF K 0 fC)):FnOk P w K mg base CX0 2 f fd wK (spF K 1 sV):=by
 have nd:=Ahx.nd
 exact iP F Ahx rfl (by decide) fun cdv A outer s H E P0 hr=>by
  have hu:=eQ hr
  have hv:=eK hr
  exact(bR (dG (i:=2) 0 .s nd rfl (by first | exact bH rfl | exact bE rfl) kU)
   (bR (dG (i:=3) 0 .s nd rfl (by first | exact bH rfl | exact bE rfl) (gG aU (fF (cY D__law_mix (hr.mono (by decide)) rfl (aM (aJ 0) (aM aU aX))) aU)))
   (bR (fU .s (fG (jW hu) kQ (fF (cY D__law_mix (hr.mono (by decide)) rfl (aM (aJ 0) (aM aU aX))) aU) aU (dQ _)) (cC (dG (i:=3) 0 .s nd rfl (by first | exact bH rfl | exact bE rfl) aU)) fW)
   (bR (by first | exact(Oc (i:=4) .s rfl nd rfl (by first | exact bH rfl | exact bE rfl) (oV (N:=["_law_k","_law_signs","_law_cell_here"]) (cap:=[none,some 2,some 0]) (out:=(bQ sU).names) (XN:=zW) rfl rfl (by decide +kernel) rfl) nZ (CZ (vV rfl B.range (aM (aJ 3) aX))) (fun cl C s₀ H₀ ex=>⟨oQ (j:=0) (show(["_law_k","_law_signs","_law_cell_here"]:List aD).Nodup by decide +kernel) rfl (bH rfl),oP,(dY hv (aJ 1) (fF (cY D__law_mix (hr.mono (by decide)) rfl (aM (aJ 2) (aM (gG aU (aJ 0)) aX))) aU) (fun _ _=>rfl))⟩)) | exact(dG (i:=4) 1 .s nd rfl (by first | exact bH rfl | exact bE rfl) (pP rfl (oV (N:=["_law_k","_law_signs","_law_cell_here"]) (cap:=[none,some 2,some 0]) (out:=(bQ sU).names) (XN:=zW) rfl rfl (by decide +kernel) rfl) nZ (CZ (vV rfl B.range (aM (aJ 3) aX))) (fun cl C s₀ H₀ ex=>⟨oQ (j:=0) (show(["_law_k","_law_signs","_law_cell_here"]:List aD).Nodup by decide +kernel) rfl (bH rfl),oP,(dY hv (aJ 1) (fF (cY D__law_mix (hr.mono (by decide)) rfl (aM (aJ 2) (aM (gG aU (aJ 0)) aX))) aU) (fun _ _=>rfl))⟩))))
   (bR (DY 4 .s .s (dY hv (aJ 2) (fF (cY D__law_mix (hr.mono (by decide)) rfl (aM (aJ 0) (aM aU aX))) aU) (fun _ _=>rfl)) aU)
   (bR (fU .s (fG (jW hu) kQ (fF (cY D__law_mix (hr.mono (by decide)) rfl (aM (aJ 0) (aM aU aX))) aU) aU (dQ _)) (cC (dD .a (pP rfl (oV (N:=["_law_k","_law_base"]) (cap:=[none,some 4]) (out:=(bQ sU).names) (XN:=zW) rfl rfl (by decide +kernel) rfl) nZ (CZ (vV rfl B.range (aM (aJ 1) aX))) (fun cl C s₀ H₀ ex=>⟨oQ (j:=0) (show(["_law_k","_law_base"]:List aD).Nodup by decide +kernel) rfl (bH rfl),oP,(MQ kU (gV (n:=1) (CY (aJ 1) sF (oO (gG (aJ 0) aU)))))⟩)))) fW)
   (bR (dG (i:=5) 0 .s nd rfl (by first | exact bH rfl | exact bE rfl) (fF (cY D__law_mix (hr.mono (by decide)) rfl (aM (aJ 0) (aM aU aX))) (aJ 3)))
   (bR (dG (i:=6) 1 .s nd rfl (by first | exact bH rfl | exact bE rfl) (rY aX))
   (bR (LV .s PassesOwn.never rfl (vV rfl B.range (aM (aJ 1) aX)) (EJ (i:=7) nd rfl (by first | exact bH rfl | exact bE rfl)) (bR (DY 4 .s .s (dY hv (aJ 2) (fF (gG (cY D__law_mix (hr.mono (by decide)) rfl (aM (aJ 0) (aM aU aX))) (aJ 7)) (gG aU (jT aU (zM Bq Am rfl B.int PyProof.Rows.boot_int (aM (iD HL CW (aJ 5) aU (dQ _)) aX))))) (fun _ _=>rfl)) (aJ 5))
   (cC (Ai 6 .a (MQ kU (aJ 4))))))
   (LC 4 (cC (Ln 6))))))))))))
noncomputable def Hf:SF:=(bF (cE 2 0 .s (eOp cH (aR fC (aI (aF 0) (aI (eC (.int 10)) aL))) (eC (.int 5))))
 (bF (sIf .s (bOf (eOp gLt (aF 2) (eC (.int 3)))) (cK 0 .s (eOp gIx (jQ (aI (nG (aF 1) (oS (eC (.int 1))) oN) (aI (eOp oE (aF 1) (nG (aF 1) oN (oS (eC (.int 1))))) (aI (aR zZ (aI (aF 1) aL)) aL)))) (aF 2))) dW)
 (bF (cE 3 0 .s (eOp cH (aR fC (aI (aF 0) (aI (eC (.int 11)) aL))) (aR eJ (aI (aF 1) aL))))
 (cK 0 .s (eOp oE (eOp oE (nG (aF 1) oN (oS (aF 3))) (iK (aI (eOp gIx (jQ (aI (eC (.bool true)) (aI (eC (.str "5")) aL))) (eOp oG (aF 2) (eC (.int 3)))) aL))) (nG (aF 1) (oS (eOp cS (aF 3) (eC (.int 1)))) oN))))))
noncomputable def wQ:List aA->Option aA:=fnD 2 4 Hf
theorem Hn (F:Fun K "_law_no_row" "_law_no_row" GW f fd)(B:Blt mg)(C:Cst mg)(V:Xcs K mg)(D__law_mix:Def P w K mg base "_law_mix" 1 qH (spF K 0 fC)):FnOk P w K mg base CX0 2 f fd wI (spF K 0 wQ):=by
 have nd:=Aha.nd
 exact iP F Aha rfl (by decide) fun cdv A outer s H E P0 hr=>by
  have hu:=eQ hr
  have hv:=eK hr
  exact(bR (dG (i:=2) 0 .s nd rfl (by first | exact bH rfl | exact bE rfl) (fF (cY D__law_mix (hr.mono (by decide)) rfl (aM (aJ 0) (aM aU aX))) aU))
   (bR (fU .s (fG (Av5.or vR) vB (aJ 2) aU (dQ _)) (cC (dD .s (dY hv (gV (n:=1) (rY (aM (yI (aJ 1) (oO aU) sF) (aM (EA (aJ 1) (yI (aJ 1) sF (oO aU))) (aM (gV (n:=1) (zM (Gr rfl) Ez rfl B.list PyProof.Rows.boot_list (aM (aJ 1) aX))) aX))))) (aJ 2) (fun _ _=>rfl)))) fW)
   (bR (dG (i:=3) 0 .s nd rfl (by first | exact bH rfl | exact bE rfl) (fF (cY D__law_mix (hr.mono (by decide)) rfl (aM (aJ 0) (aM aU aX))) (fK mF mE rfl B.len jK (aM (aJ 1) aX))))
   (cC (dD .s (EA (EA (yI (aJ 1) sF (oO (aJ 3))) (kT (aM (dY hv (gV (n:=1) (rY (aM hJ (aM kU aX)))) (rZ (aJ 2) aU) (fun _ _=>rfl)) aX))) (yI (aJ 1) (oO (gG (aJ 3) aU)) sF)))))))
noncomputable def Nb:SF:=(bF (sIf .s (bOr (fT (bOf (eUn (jD "tuple") (aF 0)))) (fT (bOf (kR gLe gLe (eC (.int 1)) (aR eJ (aI (aF 0) aL)) (eC (.int 6)))))) (cK 0 .s (eC (.bool false))) dW)
 (cK 0 .s (aR qQ (aI (eLC [none] (iIt (aF 0)) (gB 0) iC (aR sR (aI (aF 0) aL))) aL))))
noncomputable def mB:List aA->Option aA:=fnD 1 1 Nb
theorem Cz (F:Fun K "is_row" "is_row" yU f fd)(B:Blt mg)(C:Cst mg)(V:Xcs K mg)(D_is_value:Def P w K mg base "is_value" 2 vY (spF K 0 sR)):FnOk P w K mg base CX0 3 f fd vN (spF K 0 mB):=by
 obtain⟨_,h_MOST_WIDTH⟩:=C.MOST_WIDTH
 have nd:=Ape.nd
 exact iP F Ape rfl (by decide) fun cdv A outer s H E P0 hr=>by
  have hu:=eQ hr
  have hv:=eK hr
  exact(bR (fU .s (qJ (mR (lX (iS (pW (T:="tuple") rfl B.isinstance rfl B.tuple UZ (by decide) (aJ 0)))) (pU (lX (NG (Atw.or sM) (Atw.or sM) rW rW aU (fK mF mE rfl B.len jK (aM (aJ 0) aX)) (sJ (i:=6) rfl h_MOST_WIDTH ⟨_,rfl⟩)))))) (cC (dD .s hJ)) fW)
   (cC (dD .s (fK (FJ rfl) FQ rfl B.all boot_all (aM (gV (n:=1) (pP rfl (oV (N:=["value"]) (cap:=[none]) (out:=(bQ yU).names) (XN:=NN) rfl rfl (by decide +kernel) rfl) nZ (uR (aJ 0)) (fun cl C s₀ H₀ ex=>⟨oQ (j:=0) (show(["value"]:List aD).Nodup by decide +kernel) rfl (bH rfl),oP,(cY D_is_value (hr.mono (by decide)) rfl (aM (aJ 0) aX))⟩))) aX)))))
noncomputable def Gi:SF:=(bF (sIf .s (bOr (fT (bOf (eUn (jD "list") (aF 0)))) (bOf (eOp gGt (aR eJ (aI (aF 0) aL)) (eC (.int 12))))) (cK 0 .s (eC (.bool false))) dW)
 (bF (sIf .s (fT (bOf (aR qQ (aI (eLC [none] (iIt (aF 0)) (gB 0) iC (gO (aR qF (aI (aF 0) aL)) (gO (aR kA (aI (eOp gIx (aF 0) (eC (.int 0))) aL)) (aR mZ (aI (eOp gIx (aF 0) (eC (.int 1))) aL))))) aL)))) (cK 0 .s (eC (.bool false))) dW)
 (cK 0 .s (eOp gEq (aR ND (aI (eLC [none] (iIt (aF 0)) (gB 0) iC (eOp gIx (aF 0) (eC (.int 0)))) aL)) (aR eJ (aI (aF 0) aL))))))
noncomputable def oZ:List aA->Option aA:=fnD 1 1 Gi
theorem Hg (F:Fun K "are_widths" "are_widths" wL f fd)(B:Blt mg)(C:Cst mg)(V:Xcs K mg)(D_is_name:Def P w K mg base "is_name" 1 sL (spF K 0 kA))(D_is_pair:Def P w K mg base "is_pair" 1 vU (spF K 0 qF))(D_is_width:Def P w K mg base "is_width" 2 vZ (spF K 0 mZ)):FnOk P w K mg base CX0 3 f fd wM (spF K 0 oZ):=by
 obtain⟨_,h_MOST_TABLES⟩:=C.MOST_TABLES
 have nd:=Aig.nd
 exact iP F Aig rfl (by decide) fun cdv A outer s H E P0 hr=>by
  have hu:=eQ hr
  have hv:=eK hr
  exact(bR (fU .s (qJ (mR (lX (iS (pW (T:="list") rfl B.isinstance rfl B.list PyProof.Rows.boot_list (by decide) (aJ 0)))) (pU (fG HL CW (fK mF mE rfl B.len jK (aM (aJ 0) aX)) (sJ (i:=12) rfl h_MOST_TABLES ⟨_,rfl⟩) (dQ _))))) (cC (dD .s hJ)) fW)
   (bR (fU .s (lX (iS (fK (FJ rfl) FQ rfl B.all boot_all (aM (gV (n:=1) (pP rfl (oV (N:=["pair"]) (cap:=[none]) (out:=(bQ wL).names) (XN:=GV) rfl rfl (by decide +kernel) rfl) nZ (uR (aJ 0)) (fun cl C s₀ H₀ ex=>⟨oQ (j:=0) (show(["pair"]:List aD).Nodup by decide +kernel) rfl (bH rfl),oP,(mS (cY D_is_pair (hr.mono (by decide)) rfl (aM (aJ 0) aX)) (mS (cY D_is_name (hr.mono (by decide)) rfl (aM (dY hv (aJ 0) aU (fun _ _=>rfl)) aX)) (oI (cY D_is_width (hr.mono (by decide)) rfl (aM (dY hv (aJ 0) aU (fun _ _=>rfl)) aX)))))⟩))) aX)))) (cC (dD .s hJ)) fW)
   (cC (dD .s (iD (jW hu) kQ (Eu rfl rfl B.len rfl B.set (gV (n:=1) (pP rfl (oV (N:=["pair"]) (cap:=[none]) (out:=(bQ wL).names) (XN:=GV) rfl rfl (by decide +kernel) rfl) nZ (uR (aJ 0)) (fun cl C s₀ H₀ ex=>⟨oQ (j:=0) (show(["pair"]:List aD).Nodup by decide +kernel) rfl (bH rfl),oP,(dY hv (aJ 0) aU (fun _ _=>rfl))⟩)))) (fK mF mE rfl B.len jK (aM (aJ 0) aX)) (dQ _))))))
noncomputable def Ff (z:Option aD):SF:=(bF (jX 0 .s (aR (pA z) (eF "Book" (aF 0) (aI (aF 1) aL))))
 (cK 1 .s (aR vE (aI (eOp gIx (eUn (dX "Book") (aF 0)) (aF 1)) aL))))
noncomputable def wC:FX:=fun z=>fnD 2 2 (Ff z)
theorem Gv (F:Fun K "rows" "Book.rows" GP f fd)(B:Blt mg)(C:Cst mg)(V:Xcs K mg)(D_Book_want_table:MethX P w K mg base "Book" "want_table" 2 sW (spX K 0 pA)):FnOk P w K mg base (CXR base P w) 3 f fd wB (spX K 1 wC):=by
 have nd:=Ajq.nd
 exact oM F Ajq rfl (by decide) fun cdv A outer s H E P0 z hr hz=>by
  have hu:=eQ hr
  have hv:=eK hr
  exact(bR (vK 0 .s (uN .s hz (jF D_Book_want_table (hr.mono (by decide)) (aJ 0) (aM (aJ 1) aX))))
   (cC (dD .s (fK (SA rfl) RS rfl B.sorted VA (aM (dY hv (mT V.bk (aJ 0)) (aJ 1) (fun _ _=>rfl)) aX)))))
end Aw
namespace Aw
open PySem L2
set_option maxHeartbeats 4000000
variable {P:bC}{w:aW}{K:aH}{mg:aD->Option aE}{base:aQ}{f:aB}{fd:dS}
noncomputable def sX:FX:=uV "Book" "NoTable" oZ
set_option maxHeartbeats 4000000 in
theorem Hy {P:bC}{w:aW}{K:aH}{mg:aD->Option aE}{base:aQ}{f:aB}{fd:dS}(F:Fun K "__init__" "Book.__init__" GZ f fd)(B:Blt mg)(C:Cst mg)(V:Xcs K mg)(D_are_widths:Def P w K mg base "are_widths" 3 wM (spF K 0 oZ)):FnOk P w K mg base (CXR base P w) (3+1) f fd wO (CS K "Book" sX):=by
 have nd:=Af6.nd
 refine F.okX Af6 (fun vs H Q E h=>?_) (fun cdv A outer s H vs Q E hr h=>?_)
 ·obtain⟨x,dx,C,v1,P,d1,d,z,rfl,_⟩:=h
  rfl
 ·obtain⟨x,dx,C0,v1,P0,d1,d,z,rfl,hx,hc,hP,r1,ef,kq,kx⟩:=h
  have hu:=eK hr
  obtain⟨C9,c1,cl,nW,nH⟩:=V.bk.ex
  obtain rfl:=lZ c1 hc
  refine⟨_,fQ (kN (lX (iS (cY D_are_widths (hr.mono (by decide)) rfl (aM (aJ 1) aX)))) (iF (yX (H0:=H) (P0:=P0) (n0:=0) (z:=z) (fun c hc=>LL (kx c hc)) V.r_NoTable rfl rfl)) jZ)
   (fQ (SX (pv 0) (zM (Fl rfl) Fq rfl B.dict PyProof.Rows.boot_dict (aM (aJ 1) aX)) rfl)
   (fQ (SX (pv 0) Nm rfl)
   (iF (SM PassesOwn.leaving rfl (Mq (rV (pv 0) rfl)) (EE (i:=2) nd rfl (by first | exact bH rfl | exact bE rfl)) (iF (DJ hu (rV (pv 0) rfl) (pv 2) NP rfl)))))),?_⟩
  have rs:Ais K (hid H P0) [none,some d1,none] (start SB [.ref x,v1]):=fun i d' e=>by
   match i,e with
   | 0,e=>cases e
   | 1,e=>cases e; exact⟨v1,rfl,r1⟩
   | 2,e=>cases e
   | i+3,e=>simp at e
  rcases Gn ef with⟨e1,hz,rfl⟩ | ⟨kds,e1,e2,fl,ndk,hlen,rfl⟩
  ·refine⟨P0,[none,some d1,none],true,hP,rs,?_,fun H1 x1=>?_⟩
   ·show((oZ [d1]).bind asB).bind _=_
    rw[e1]
    rfl
   refine jO ⟨hid H1 P0,[none,none,none],fun _=>[],.rt (rsD "NoTable"),⟨rfl,fun _=>.nil,fun i j a h=>by simp at h,fun i a h=>by simp at h,x1,hP,?_,fun i n d e=>?_⟩,?_,?_⟩
   ·exact fP fun a h=>h.elim id fun⟨i,h⟩=>by simp at h
   ·match i,e with
    | 0,e=>cases e
    | 1,e=>cases e
    | 2,e=>cases e
    | i+3,e=>simp at e
   ·exact if_pos hz
   ·exact fun v H' ⟨_,_,_,_,r⟩=>(CK r).elim
  ·refine⟨P0,[none,some d1,none],false,hP,rs,?_,fun H1 x1=>?_⟩
   ·show((oZ [d1]).bind asB).bind _=_
    rw[e1]
    rfl
   refine iB ⟨P0,[none,some d1,none],_,hP.ext x1,rs.ext (bO x1),(show(pZ [d1])=_ from e2),fun v Hw Fr xw nf fr ro=>?_⟩
   obtain⟨wa,kvs,Fs,rfl,hw,hF,h3⟩:=ro
   obtain⟨rk,hn⟩:=Dz h3
   rw[hn] at hF
   subst hF
   have hwx:Hw x=some (.ins C0 dx []):=xw _ _ (x1 _ _ hx)
   have nwx:wa≠x:=fun z=>by rw[z,hwx] at hw; cases hw
   refine⟨_,rfl,x,C0,dx,[],rfl,hwx,cl,nW,(by show 0<1000; decide),?_⟩
   intro q hq
   have nqx:q≠x:=fun z=>by rw[z,eB] at hq; cases hq
   have hq0:Hw q=none:=by rw[bN nqx] at hq; exact hq
   have nqw:wa≠q:=gK hw hq0
   refine⟨_,rfl,x,C0,dx,_,rfl,(by rw[bN nqx.symm]; exact eB),cl,nH,(by show 1<1000; decide),?_⟩
   have eput:gF "held" (.ref q) (gF "wide" (.ref wa) [])=([("wide",.ref wa),("held",.ref q)]:List (aD×L2.V)):=by
    have : ¬ (("wide" : aD) = "held"):=by decide +kernel
    simp[gF,this]
   rw[eput]
   have lk:kvs.2.length=kds.length:=rk.length
   have nk:(kvs.2.map (·.1)).Nodup:=by
    have:kds.map (·.1)=(kvs.2.map (·.1)).map kD:=QA rk
    rw[this] at ndk
    exact(tY.mp ndk).imp fun h z=>h (by rw[z])
   refine⟨_,rfl,x,C0,dx,_,_,rfl,eB,cl,nW,OV _ _,wa,kvs.1,kvs.2,rfl,(by rw[bN nwx,bN nqw,bN nwx]; exact hw),?_⟩
   refine Nd (fun i σ H2=>∃ v,σ=[some (.ref x),some v1,v]/\(∀ b o,b≠x->Hw b=some o->H2 b=some o)/\H2 x=some (.ins C0 dx [("wide",.ref wa),("held",.ref q)]) /\ ∃ n ps,H2 q=some (.dK n (hvZ kvs.2 ps))/\ps.length=i/\i≤kvs.2.length/\ps.Nodup /\ ∀ p∈ps,Hw p=none/\p≠q/\H2 p=some (.dT 0 []))
    ⟨none,rfl,fun b o nb e=>?_,eB,0,[],?_,rfl,fH _,.nil,fun p m=>by simp at m⟩ (fun i σ H2 _ ⟨_,_,kp,_⟩=>kp _ _ nwx hw) ?_ ?_
   ·rw[bN nb,bN (gK e hq0),bN nb]
    exact e
   ·rw[bN nqx,eB]
    simp[hvZ]
   ·rintro i kv σ H2 hk ⟨v,rfl,kp,hx2,n,ps,hq2,hpl,hil,ndp,hps⟩
    intro p hp
    have npx:p≠x:=fun z=>by rw[z,hx2] at hp; cases hp
    have npq:p≠q:=fun z=>by rw[z,hq2] at hp; cases hp
    have hl2:(hvZ kvs.2 ps).length<sizeLine:=by
     rw[La (by omega)]
     have:=(fI.mp hk).1
     omega
    refine⟨_,rfl,x,C0,dx,_,_,rfl,(by rw[bN npx.symm]; exact hx2),cl,nH,zJ _ _,_,rfl,q,_,rfl,Az4.k (k:=kv.1) (by rw[bN npq.symm]; exact hq2) hl2,fun n2=>⟨_,rfl,fun b o nb e=>?_,?_,n2,ps++[p],?_,by simp[hpl],(fI.mp hk).1,?_,fun p' m=>?_⟩⟩
    ·rw[bN (gK e hq0),bN (gK (kp b o nb e) hp)]
     exact kp b o nb e
    ·rw[bN nqx.symm,bN npx.symm]
     exact hx2
    ·rw[eB,FC _ (Mp nk (by rw[hpl]; exact hk)),NJ (by rw[hpl]; exact hk)]
    ·refine IU.mpr ⟨ndp,fS.mpr ⟨by simp,.nil⟩,fun a ma b mb=>?_⟩
     rw[dB.mp mb]
     intro z
     rw[z] at ma
     rw[(hps p ma).2.2] at hp
     cases hp
    ·rcases nU.mp m with m | m
     ·obtain⟨g1,g2,g3⟩:=hps p' m
      refine⟨g1,g2,?_⟩
      rw[bN g2,bN (gK g3 hp)]
      exact g3
     ·rw[dB.mp m]
      refine⟨?_,npq,by rw[bN npq,eB]⟩
      cases g:Hw p with
      | none=>rfl
      | some o=>rw[kp p o npx g] at hp; cases hp
   ·rintro σ H2 ⟨v,rfl,kp,hx2,n,ps,hq2,hpl,hil,ndp,hps⟩
    have hwp : ∀ p∈ps,p≠wa:=fun p m z=>by
     have:=(hps p m).1
     rw[z,hw] at this
     cases this
    have hxp : ∀ p∈ps,p≠x:=fun p m z=>by
     have:=(hps p m).1
     rw[z,hwx] at this
     cases this
    refine kq H2 (x::wa::q::ps) (fun b o nb e=>kp b o nb (xw _ _ (x1 _ _ e))) ?_ ?_ (Ng c1 hx2 (kp _ _ nwx hw) hq2 hpl (fun p m=>(hps p m).2.2) fl rk kp fun xs z=>by rw[hwx] at z; cases z)
    ·refine fS.mpr ⟨?_,fS.mpr ⟨?_,fS.mpr ⟨fun m=>(hps q m).2.1 rfl,ndp⟩⟩⟩
     ·simp only[cJ,not_or]
      exact⟨nwx.symm,nqx.symm,fun m=>hxp x m rfl⟩
     ·simp only[cJ,not_or]
      exact⟨nqw,fun m=>hwp wa m rfl⟩
    ·intro a m
     simp only[cJ] at m
     rcases m with rfl | rfl | rfl | m
     ·exact⟨.inl rfl,_,hx2⟩
     ·exact⟨.inr (x1.none (fr _ bY).1),_,kp _ _ nwx hw⟩
     ·exact⟨.inr (x1.none (xw.none hq0)),_,hq2⟩
     ·exact⟨.inr (x1.none (xw.none (hps a m).1)),_,(hps a m).2.2⟩
noncomputable def zX (z:Option aD):SF:=(bF (jX 0 .s (aR (pA z) (eF "Book" (aF 0) (aI (aF 1) aL))))
 (sIf .s (bOr (fT (bOf (aR mB (aI (aF 2) aL)))) (bOf (eOp gNe (aR eJ (aI (aF 2) aL)) (eOp gIx (eUn (mQ "Book") (aF 0)) (aF 1))))) (uZ z "NoRow") dW))
noncomputable def fN:FX:=fun z=>fnD 3 3 (zX z)
theorem Hz (F:Fun K "want_row" "Book.want_row" GY f fd)(B:Blt mg)(C:Cst mg)(V:Xcs K mg)(D_Book_want_table:MethX P w K mg base "Book" "want_table" 2 sW (spX K 0 pA))(D_is_row:Def P w K mg base "is_row" 3 vN (spF K 0 mB)):FnOk P w K mg base (CXR base P w) 4 f fd nC (spX K 0 fN):=by
 have nd:=Agc.nd
 exact oM F Agc rfl (by decide) fun cdv A outer s H E P0 z hr hz=>by
  have hu:=eQ hr
  have hv:=eK hr
  exact(bR (vK 0 .s (uN .s hz (jF D_Book_want_table (hr.mono (by decide)) (aJ 0) (aM (aJ 1) aX))))
   (cC (fU .s (qJ (mR (lX (iS (cY D_is_row (hr.mono (by decide)) rfl (aM (aJ 2) aX)))) (pU (fG (CP hu) CM (fK mF mE rfl B.len jK (aM (aJ 2) aX)) (dY hv (DM V.bk (aJ 0)) (aJ 1) (fun _ _=>rfl)) (dQ _))))) (cC (yX hz V.r_NoRow rfl rfl)) fW)))
noncomputable def GE (z:Option aD):SF:=(bF (jX 0 .s (aR (fN z) (eF "Book" (aF 0) (aI (aF 1) (aI (aF 2) aL)))))
 (bF (sIf .s (bOf (eOp (gIn false) (aF 2) (eOp gIx (eUn (dX "Book") (aF 0)) (aF 1)))) (cK 0 .s (eC (.bool false))) dW)
 (bF (sIf .s (bOf (eOp gGe (aR lD (aI (eOp gIx (eUn (dX "Book") (aF 0)) (aF 1)) aL)) (eC (.int 60)))) (uZ z "Full") dW)
 (bF sNo
 (cK 0 .s (eC (.bool true)))))))
noncomputable def lL:FX:=fun z=>fnD 3 3 (GE z)
theorem Ga (F:Fun K "put" "Book.put" zQ f fd)(B:Blt mg)(C:Cst mg)(V:Xcs K mg)(D_Book_want_row:MethX P w K mg base "Book" "want_row" 4 nC (spX K 0 fN)):FnOk P w K mg base (CXR base P w) 5 f fd lK (spX K 0 lL):=by
 obtain⟨_,h_MOST_ROWS⟩:=C.MOST_ROWS
 have nd:=Af5.nd
 exact oM F Af5 rfl (by decide) fun cdv A outer s H E P0 z hr hz=>by
  have hu:=eQ hr
  have hv:=eK hr
  exact(bR (vK 0 .s (uN .s hz (jF D_Book_want_row (hr.mono (by decide)) (aJ 0) (aM (aJ 1) (aM (aJ 2) aX)))))
   (bR (fU .s (fG (oR hu) lF (aJ 2) (dY hv (mT V.bk (aJ 0)) (aJ 1) (fun _ _=>rfl)) (by with_unfolding_all rfl)) (cC (dD .s hJ)) fW)
   (bR (fU .s (fG KD TV (fK vQ vX rfl B.len jK (aM (dY hv (mT V.bk (aJ 0)) (aJ 1) (fun _ _=>rfl)) aX)) (sJ (i:=60) rfl h_MOST_ROWS ⟨_,rfl⟩) (dQ _)) (cC (yX hz V.r_Full rfl rfl)) fW)
   (bR KH
   (cC (dD .s hJ))))))
noncomputable def mD:List aA->Option (Bool×aA):=pV "Book" fN JJ
set_option maxHeartbeats 4000000 in
theorem Fz {P:bC}{w:aW}{K:aH}{mg:aD->Option aE}{base:aQ}{f:aB}{fd:dS}(F:Fun K "put" "Book.put" zQ f fd)(B:Blt mg)(C:Cst mg)(V:Xcs K mg)(D_Book_want_row:MethX P w K mg base "Book" "want_row" 4 nC (spX K 0 fN)):FnOk P w K mg base (CXR base P w) (4+1) f fd lK (rR K mD):=by
 obtain⟨_,h_MOST_ROWS⟩:=C.MOST_ROWS
 have nd:=Af5.nd
 refine F.okX Af5 (fun vs H Q E h=>?_) (fun cdv A outer s H vs Q E hr h=>?_)
 ·obtain⟨P,F0,a,us,d,ds,r,d',rfl,_,_,_,_,rd,e,_⟩:=h
  obtain⟨W,hds,t,ks,kds,u,pq,e2,_⟩:=qI e
  cases e2
  rw[eE,rd.length]
  rfl
 ·obtain⟨P0,F0,a,us,d,ds,r,d',rfl,hP,hF,nF,rb,rd,e,kq⟩:=h
  have hu:=eQ hr
  have hv:=eK hr
  obtain⟨W,hds,t,ks,kds,u,pq,e2,ew,el,k1,k2,ndk,eg,e3⟩:=qI e
  cases e2
  obtain⟨e3a,e3b⟩:=Prod.mk.inj e3
  obtain⟨v1,us1,rfl,r1,rd⟩:=Aad.mp rd
  obtain⟨v2,us2,rfl,r2,rd⟩:=Aad.mp rd
  obtain rfl:=Aan.mp rd
  obtain⟨C9,c1,cl,nW,nH⟩:=V.bk.ex
  refine⟨_,fQ (qC (pM (jF D_Book_want_row (hr.mono (by decide)) (aJ 0) (aM (aJ 1) (aM (aJ 2) aX)))) rfl)
   (fQ (kN (fG (oR hu) lF (aJ 2) (dY hv (mT V.bk (aJ 0)) (aJ 1) (fun _ _=>rfl)) (by with_unfolding_all rfl)) (iF (lE pO)) jZ)
   (fQ (kN (fG KD TV (fK vQ vX rfl B.len jK (aM (dY hv (mT V.bk (aJ 0)) (aJ 1) (fun _ _=>rfl)) aX)) (sJ (i:=60) rfl h_MOST_ROWS ⟨_,rfl⟩) (dQ _)) vT jZ)
   (fQ (DJ hv (EG hv (rV (pv 0) rfl) (pv 1) (fun _ _=>rfl)) (pv 2) pO rfl)
   (iF (lE pO))))),?_⟩
  have sub:Ext (hid H (orL P0 F0)) (hid H P0):=fP fun b h=>.inl h
  have rs:Ais K (hid H P0) [some (bK "Book" W (.dict hds)),some (.str t),some (.tuple ks)] (start RD [.ref a,v1,v2]):=fun i d' e=>by
   match i,e with
   | 0,e=>cases e; exact⟨.ref a,rfl,rb.share sub fun b m o q=>dZ (hF b m) q⟩
   | 1,e=>cases e; exact⟨v1,rfl,r1.ext sub⟩
   | 2,e=>cases e; exact⟨v2,rfl,r2.ext sub⟩
   | i+3,e=>simp at e
  have eI:eOp gIx (eUn (dX "Book") (aF 0)) (aF 1) [some (bK "Book" W (.dict hds)),some (.str t),some (.tuple ks)]=some (.dict ((.none,.none)::kds)):=by
   show(((dX "Book") (bK "Book" W (.dict hds))).bind fun x=>gIx x (.str t))=_
   rw[show dX "Book" (bK "Book" W (.dict hds))=some (.dict hds) by unfold dX; rw[vM]; rfl]
   exact el
  have eW:aR (fN none) (eF "Book" (aF 0) (aI (aF 1) (aI (aF 2) aL))) [some (bK "Book" W (.dict hds)),some (.str t),some (.tuple ks)]=some u:=by
   show(eF "Book" (aF 0) (aI (aF 1) (aI (aF 2) aL)) [some (bK "Book" W (.dict hds)),some (.str t),some (.tuple ks)]).bind (fN none)=_
   have:eF "Book" (aF 0) (aI (aF 1) (aI (aF 2) aL)) [some (bK "Book" W (.dict hds)),some (.str t),some (.tuple ks)]=some [bK "Book" W (.dict hds),.str t,.tuple ks]:=by
    show(if (iO "Book" (bK "Book" W (.dict hds))).isSome=true then some [bK "Book" W (.dict hds),dH t,gY ks] else none)=_
    rw[vM]
    rfl
   rw[this]
   exact ew
  obtain⟨_,_,_,_,_,_,_,_,_,_,_,_,_,_,_,_,rt0,_⟩:=rb.at nF el ndk
  refine⟨P0,_,u,hP,rs,eW,cG fun _ H1 x1 _=>?_⟩
  have eIn : ∀ neg:Bool,bOf (eOp (gIn neg) (aF 2) (eOp gIx (eUn (dX "Book") (aF 0)) (aF 1))) [some (bK "Book" W (.dict hds)),some (.str t),some (.tuple ks)]=some (neg != (cV kds ks).isSome):=fun neg=>by
   show((eOp gIx (eUn (dX "Book") (aF 0)) (aF 1) [some (bK "Book" W (.dict hds)),some (.str t),some (.tuple ks)]).bind fun x=>gIn neg (.tuple ks) x).bind asB=_
   rw[eI]
   show(if (bP ks&&decide (cW ks≤6))=true then some (eX (neg != (cV kds ks).isSome)) else none).bind asB=_
   rw[k1,decide_eq_true k2]
   rfl
  have same : ∀ {H2:Hp},Ext H H2->r=false->Q (.bl false) H2:=fun {H2} x2 er=>by
   have:=kq H2 (fun b o _ q=>x2 _ _ q) (by
    rw[e3b,if_neg (by rw[← e3a,er]; decide)]
    exact rb.keep (bO x2) fun b m=>by
     rcases rb.mut b m with⟨xs,q⟩ | ⟨xs,q⟩ <;> rw[q,x2 _ _ q])
   rwa [er] at this
  by_cases hin : .tuple ks∈kds.map (·.1)
  ·have eg:some (false,kds)=some pq:=(if_pos hin).symm.trans eg
   cases eg
   refine⟨P0,_,true,hP.ext x1,rs.ext (bO x1),?_,fun H2 x2=>jO ?_⟩
   ·rw[eIn,(sN k1 rt0 hin).1]
    rfl
   ·exact same (x1.trans x2) e3a
  have nin:=hin
  have eg:(if kds.length<60 then some (true,kds++[(.tuple ks,.bool true)]) else none)=some pq:=(if_neg hin).symm.trans eg
  obtain⟨hl60,rfl⟩:=cT eg
  have nlook:=zE k1 rt0 nin
  refine⟨P0,_,false,hP.ext x1,rs.ext (bO x1),?_,fun H2 x2=>iB ?_⟩
  ·rw[eIn,nlook]
   rfl
  have x12:=x1.trans x2
  refine⟨P0,_,false,hP.ext x12,rs.ext (bO x12),?_,fun H3 x3=>iB ?_⟩
  ·show((((eOp gIx (eUn (dX "Book") (aF 0)) (aF 1) [some (bK "Book" W (.dict hds)),some (.str t),some (.tuple ks)]).bind fun d=>some [d]).bind lD).bind fun x=>gGe x (.int 60)).bind asB=_
   rw[eI]
   show some (decide ((60:Int)≤(kds.length:Int)))=_
   rw[decide_eq_false (by omega)]
  have x13:=x12.trans x3
  have rb3:RepB K (hid H3 (orL P0 F0)) H3 (bK "Book" W (.dict hds)) (.ref a) F0:=rb.keep (bO x13) fun b m=>by
   rcases rb.mut b m with⟨xs,q⟩ | ⟨xs,q⟩ <;> rw[q,x13 _ _ q]
  obtain⟨a',C',dx,wa,q,p,hvs,ts,ea,hc,ha,hq,hval,hpF,hp,fl,rt,hnew⟩:=rb3.at nF el ndk
  cases ea
  obtain rfl:=lZ c1 hc
  obtain rfl:=(Aaq.mp r1).1
  have r2':=(r2.ext (bO x13)).ext Aax
  obtain⟨b,rfl,tk⟩:=r2'.tupK k1 k2
  have lt:ts.2.length=kds.length:=by
   have:=congrArg xK (sH rt)
   simpa using this.symm
  have nv:dC ts.2 ks=none:=FI fun x m z=>nin (by
   rw[sH rt]
   exact cL.mpr ⟨x.1,cL.mpr ⟨x,m,rfl⟩,by rw[z]⟩)
  refine⟨_,rfl,a,_,dx,_,_,rfl,ha,cl,nH,zJ _ _,_,rfl,q,.ref p,rfl,(by rw[← hval]; exact Avl.k (k:=.inr t) hq),_,rfl,p,_,rfl,Az4.t hp tk (by rw[lt]; exact fL hl60 (by decide)),fun n=>?_⟩
  have e3b':d'=bK "Book" W (.dict (gP hds t (.dict ((.none,.none)::(kds++[(.tuple ks,.bool true)]))))):=e3b
  have e3a':r=true:=e3a
  subst e3b'
  subst e3a'
  refine kq _ (fun b' o nb q'=>?_) ?_
  ·rw[bN (fun z=>nb (by rw[z]; exact hpF))]
   exact x13 _ _ q'
  ·have xb:Ext (hid H3 (orL P0 F0)) (hid (upd H3 p (.dT n (putK ts.2 ks (.bl true)))) (orL P0 F0)):=fun b' o q'=>by
    obtain⟨nb,q'⟩:=Ab3.mp q'
    exact dZ nb (by rw[bN (fun z=>nb (.inr (by rw[z]; exact hpF)))]; exact q')
   refine hnew _ _ _ (n,putK ts.2 ks (.bl true)) xb (fun b' m nb=>bN nb) eB (fun kd m=>?_) ?_
   ·rcases nU.mp m with m | m
    ·exact fl kd m
    ·rw[dB.mp m]; rfl
   ·have:=FH k1 (Aak.mpr rfl:Aa6 K _ (.bool true) (.bl true)) (rt.ext xb)
    rw[← FC (.bl true) nv] at this
    exact this
noncomputable def Gd (z:Option aD):SF:=(bF (jX 0 .s (aR (fN z) (eF "Book" (aF 0) (aI (aF 1) (aI (aF 2) aL)))))
 (bF (sIf .s (bOf (eOp (gIn true) (aF 2) (eOp gIx (eUn (dX "Book") (aF 0)) (aF 1)))) (cK 0 .s (eC (.bool false))) dW)
 (bF sNo
 (cK 0 .s (eC (.bool true))))))
noncomputable def wF:FX:=fun z=>fnD 3 3 (Gd z)
theorem Gp (F:Fun K "drop" "Book.drop" zT f fd)(B:Blt mg)(C:Cst mg)(V:Xcs K mg)(D_Book_want_row:MethX P w K mg base "Book" "want_row" 4 nC (spX K 0 fN)):FnOk P w K mg base (CXR base P w) 5 f fd nA (spX K 0 wF):=by
 have nd:=Ae2.nd
 exact oM F Ae2 rfl (by decide) fun cdv A outer s H E P0 z hr hz=>by
  have hu:=eQ hr
  have hv:=eK hr
  exact(bR (vK 0 .s (uN .s hz (jF D_Book_want_row (hr.mono (by decide)) (aJ 0) (aM (aJ 1) (aM (aJ 2) aX)))))
   (bR (fU .s (fG (GT hu) lF (aJ 2) (dY hv (mT V.bk (aJ 0)) (aJ 1) (fun _ _=>rfl)) (by with_unfolding_all rfl)) (cC (dD .s hJ)) fW)
   (bR KH
   (cC (dD .s hJ)))))
noncomputable def nB:List aA->Option (Bool×aA):=pV "Book" fN HF
set_option maxHeartbeats 4000000 in
theorem Gz {P:bC}{w:aW}{K:aH}{mg:aD->Option aE}{base:aQ}{f:aB}{fd:dS}(F:Fun K "drop" "Book.drop" zT f fd)(B:Blt mg)(C:Cst mg)(V:Xcs K mg)(D_Book_want_row:MethX P w K mg base "Book" "want_row" 4 nC (spX K 0 fN)):FnOk P w K mg base (CXR base P w) (4+1) f fd nA (rR K nB):=by
 have nd:=Ae2.nd
 refine F.okX Ae2 (fun vs H Q E h=>?_) (fun cdv A outer s H vs Q E hr h=>?_)
 ·obtain⟨P,F0,a,us,d,ds,r,d',rfl,_,_,_,_,rd,e,_⟩:=h
  obtain⟨W,hds,t,ks,kds,u,pq,e2,_⟩:=qI e
  cases e2
  rw[eE,rd.length]
  rfl
 ·obtain⟨P0,F0,a,us,d,ds,r,d',rfl,hP,hF,nF,rb,rd,e,kq⟩:=h
  have hu:=eQ hr
  have hv:=eK hr
  obtain⟨W,hds,t,ks,kds,u,pq,e2,ew,el,k1,k2,ndk,eg,e3⟩:=qI e
  cases e2
  obtain⟨e3a,e3b⟩:=Prod.mk.inj e3
  obtain⟨v1,us1,rfl,r1,rd⟩:=Aad.mp rd
  obtain⟨v2,us2,rfl,r2,rd⟩:=Aad.mp rd
  obtain rfl:=Aan.mp rd
  obtain⟨C9,c1,cl,nW,nH⟩:=V.bk.ex
  refine⟨_,fQ (qC (pM (jF D_Book_want_row (hr.mono (by decide)) (aJ 0) (aM (aJ 1) (aM (aJ 2) aX)))) rfl)
   (fQ (kN (fG (GT hu) lF (aJ 2) (dY hv (mT V.bk (aJ 0)) (aJ 1) (fun _ _=>rfl)) (by with_unfolding_all rfl)) (iF (lE pO)) jZ)
   (fQ (qC (AA Pe UU PySem.F.type_dict_pop (NH hv) (EG hv (rV (pv 0) rfl) (pv 1) (fun _ _=>rfl)) (fJ (pv 2) jE)) rfl)
   (iF (lE pO)))),?_⟩
  have sub:Ext (hid H (orL P0 F0)) (hid H P0):=fP fun b h=>.inl h
  have rs:Ais K (hid H P0) [some (bK "Book" W (.dict hds)),some (.str t),some (.tuple ks)] (start QW [.ref a,v1,v2]):=fun i d' e=>by
   match i,e with
   | 0,e=>cases e; exact⟨.ref a,rfl,rb.share sub fun b m o q=>dZ (hF b m) q⟩
   | 1,e=>cases e; exact⟨v1,rfl,r1.ext sub⟩
   | 2,e=>cases e; exact⟨v2,rfl,r2.ext sub⟩
   | i+3,e=>simp at e
  have eI:eOp gIx (eUn (dX "Book") (aF 0)) (aF 1) [some (bK "Book" W (.dict hds)),some (.str t),some (.tuple ks)]=some (.dict ((.none,.none)::kds)):=by
   show(((dX "Book") (bK "Book" W (.dict hds))).bind fun x=>gIx x (.str t))=_
   rw[show dX "Book" (bK "Book" W (.dict hds))=some (.dict hds) by unfold dX; rw[vM]; rfl]
   exact el
  have eW:aR (fN none) (eF "Book" (aF 0) (aI (aF 1) (aI (aF 2) aL))) [some (bK "Book" W (.dict hds)),some (.str t),some (.tuple ks)]=some u:=by
   show(eF "Book" (aF 0) (aI (aF 1) (aI (aF 2) aL)) [some (bK "Book" W (.dict hds)),some (.str t),some (.tuple ks)]).bind (fN none)=_
   have:eF "Book" (aF 0) (aI (aF 1) (aI (aF 2) aL)) [some (bK "Book" W (.dict hds)),some (.str t),some (.tuple ks)]=some [bK "Book" W (.dict hds),.str t,.tuple ks]:=by
    show(if (iO "Book" (bK "Book" W (.dict hds))).isSome=true then some [bK "Book" W (.dict hds),dH t,gY ks] else none)=_
    rw[vM]
    rfl
   rw[this]
   exact ew
  obtain⟨_,_,_,_,_,_,_,_,_,_,_,_,_,_,_,_,rt0,_⟩:=rb.at nF el ndk
  refine⟨P0,_,u,hP,rs,eW,cG fun _ H1 x1 _=>?_⟩
  have eIn : ∀ neg:Bool,bOf (eOp (gIn neg) (aF 2) (eOp gIx (eUn (dX "Book") (aF 0)) (aF 1))) [some (bK "Book" W (.dict hds)),some (.str t),some (.tuple ks)]=some (neg != (cV kds ks).isSome):=fun neg=>by
   show((eOp gIx (eUn (dX "Book") (aF 0)) (aF 1) [some (bK "Book" W (.dict hds)),some (.str t),some (.tuple ks)]).bind fun x=>gIn neg (.tuple ks) x).bind asB=_
   rw[eI]
   show(if (bP ks&&decide (cW ks≤6))=true then some (eX (neg != (cV kds ks).isSome)) else none).bind asB=_
   rw[k1,decide_eq_true k2]
   rfl
  have same : ∀ {H2:Hp},Ext H H2->r=false->Q (.bl false) H2:=fun {H2} x2 er=>by
   have:=kq H2 (fun b o _ q=>x2 _ _ q) (by
    rw[e3b,if_neg (by rw[← e3a,er]; decide)]
    exact rb.keep (bO x2) fun b m=>by
     rcases rb.mut b m with⟨xs,q⟩ | ⟨xs,q⟩ <;> rw[q,x2 _ _ q])
   rwa [er] at this
  by_cases hin : .tuple ks∈kds.map (·.1)
  case neg=>
   have eg:some (false,kds)=some pq:=(if_neg hin).symm.trans eg
   cases eg
   refine⟨P0,_,true,hP.ext x1,rs.ext (bO x1),?_,fun H2 x2=>jO ?_⟩
   ·rw[eIn,zE k1 rt0 hin]
    rfl
   ·exact same (x1.trans x2) e3a
  have eg:some (true,kO kds ks)=some pq:=(if_pos hin).symm.trans eg
  cases eg
  refine⟨P0,_,false,hP.ext x1,rs.ext (bO x1),?_,fun H3 x2=>iB ?_⟩
  ·rw[eIn,(sN k1 rt0 hin).1]
   rfl
  have x13:=x1.trans x2
  have rb3:RepB K (hid H3 (orL P0 F0)) H3 (bK "Book" W (.dict hds)) (.ref a) F0:=rb.keep (bO x13) fun b m=>by
   rcases rb.mut b m with⟨xs,q⟩ | ⟨xs,q⟩ <;> rw[q,x13 _ _ q]
  obtain⟨a',C',dx,wa,q,p,hvs,ts,ea,hc,ha,hq,hval,hpF,hp,fl,rt,hnew⟩:=rb3.at nF el ndk
  cases ea
  obtain rfl:=lZ c1 hc
  obtain rfl:=(Aaq.mp r1).1
  have r2':=(r2.ext (bO x13)).ext Aax
  obtain⟨b,rfl,tk⟩:=r2'.tupK k1 k2
  obtain⟨uu,hu2⟩:=xH.mp (sN k1 rt hin).2
  refine⟨_,rfl,a,_,dx,_,_,rfl,ha,cl,nH,zJ _ _,_,rfl,q,.ref p,rfl,(by rw[← hval]; exact Avl.k (k:=.inr t) hq),.inr (.inr (.inl ⟨rfl,.inr ⟨_,_,hp⟩⟩)),_,rfl,p,_,_,ks,b,uu,rfl,rfl,hp,tk,hu2,fun n=>?_⟩
  have e3b':d'=bK "Book" W (.dict (gP hds t (.dict ((.none,.none)::kO kds ks)))):=e3b
  have e3a':r=true:=e3a
  subst e3b'
  subst e3a'
  refine kq _ (fun b' o nb q'=>?_) ?_
  ·rw[bN (fun z=>nb (by rw[z]; exact hpF))]
   exact x13 _ _ q'
  ·have xb:Ext (hid H3 (orL P0 F0)) (hid (upd H3 p (.dT n (nJ ts.2 ks))) (orL P0 F0)):=fun b' o q'=>by
    obtain⟨nb,q'⟩:=Ab3.mp q'
    exact dZ nb (by rw[bN (fun z=>nb (.inr (by rw[z]; exact hpF)))]; exact q')
   refine hnew _ _ _ (n,nJ ts.2 ks) xb (fun b' m nb=>bN nb) eB (fun kd m=>?_) ?_
   ·exact fl kd (xI.mp m).1
   ·exact yZ ks (rt.ext xb)
noncomputable def Dg (z:Option aD):SF:=(bF (jX 0 .s (aR (fN z) (eF "Book" (aF 0) (aI (aF 1) (aI (aF 2) aL)))))
 (cK 0 .s (eOp (gIn false) (aF 2) (eOp gIx (eUn (dX "Book") (aF 0)) (aF 1)))))
noncomputable def oY:FX:=fun z=>fnD 3 3 (Dg z)
theorem Fi (F:Fun K "has" "Book.has" FY f fd)(B:Blt mg)(C:Cst mg)(V:Xcs K mg)(D_Book_want_row:MethX P w K mg base "Book" "want_row" 4 nC (spX K 0 fN)):FnOk P w K mg base (CXR base P w) 5 f fd sS (spX K 0 oY):=by
 have nd:=Als.nd
 exact oM F Als rfl (by decide) fun cdv A outer s H E P0 z hr hz=>by
  have hu:=eQ hr
  have hv:=eK hr
  exact(bR (vK 0 .s (uN .s hz (jF D_Book_want_row (hr.mono (by decide)) (aJ 0) (aM (aJ 1) (aM (aJ 2) aX)))))
   (cC (dD .s (iD (oR hu) lF (aJ 2) (dY hv (mT V.bk (aJ 0)) (aJ 1) (fun _ _=>rfl)) (by with_unfolding_all rfl)))))
noncomputable def Dq:SF:=(bF (cE 3 0 .s (eC .none))
 (bF (cE 4 0 .s (eC .none))
 (bF (sOr (iL "NoRow" lL (eF "Book" (aF 0) (aI (aF 1) (aI (aF 2) aL))) (BX 4 0) (sAs 5 "NoRow" (cE 3 0 .s (aF 5)))) (iL "Full" lL (eF "Book" (aF 0) (aI (aF 1) (aI (aF 2) aL))) (BX 4 0) (sAs 5 "Full" (cE 3 0 .s (aF 5)))))
 (bF (sIf .s (bOf (eOp BM (aF 3) (eC .none))) (cK 0 .s (iK (aI (eC (.str "told")) (aI (eOp BY (aF 4) (eC (.bool true))) aL)))) dW)
 (bF (sIf .s (bOr (bOf (jP (eUn (eL "NoRow" false) (aF 3)) (eUn (eL "Full" false) (aF 3)))) (bOr (bOf (jP (eUn (eL "NoRow" true) (aF 3)) (eUn (eL "Full" false) (aF 3)))) (bOf (jP (eUn (eL "NoRow" false) (aF 3)) (eUn (eL "Full" false) (aF 3)))))) (cK 0 .s (iK (aI (eC (.str "other")) aL))) dW)
 (bF (sIf .s (bOr (bOf (jP (eUn (eL "NoRow" false) (aF 3)) (eUn (eL "Full" false) (aF 3)))) (bOr (bOf (jP (eUn (eL "NoRow" false) (aF 3)) (eUn (eL "Full" false) (aF 3)))) (bOf (jP (eUn (eL "NoRow" false) (aF 3)) (eUn (eL "Full" false) (aF 3)))))) (cK 0 .s (iK (aI (eC (.str "other")) aL))) dW)
 (cK 0 .s (iK (aI (eC (.str "refused")) (aI (gO (jP (eUn (eL "NoRow" false) (aF 3)) (eUn (eL "Full" true) (aF 3))) (jP (eUn (eL "NoRow" true) (aF 3)) (eUn (eL "Full" true) (aF 3)))) aL))))))))))
noncomputable def iU:List aA->Option aA:=fnD 3 6 Dq
theorem Fj (F:Fun K "_law_put" "_law_put" zO f fd)(B:Blt mg)(C:Cst mg)(V:Xcs K mg)(D_Book_put:MethX P w K mg base "Book" "put" 5 lK (spX K 0 lL)):FnOk P w K mg base CX0 6 f fd mY (spF K 0 iU):=by
 have nd:=Afx.nd
 exact iP F Afx rfl (by decide) fun cdv A outer s H E P0 hr=>by
  have hu:=eQ hr
  have hv:=eK hr
  exact(bR (dG (i:=3) 0 .s nd rfl (by first | exact bH rfl | exact bE rfl) rU)
   (bR (dG (i:=4) 0 .s nd rfl (by first | exact bH rfl | exact bE rfl) rU)
   (bR (MY (Mn (RJ (c:="NoRow") (i:=4) (wU V.t_AskError rfl rfl rfl rfl (by decide)) (fun _ _=>(jF D_Book_put (hr.mono (by decide)) (aJ 0) (aM (aJ 1) (aM (aJ 2) aX)))) nd rfl (by first | exact bH rfl | exact bE rfl) (j:=5) rfl rfl (fun _=>(cC (dG (i:=3) 0 .s nd rfl (by first | exact bH rfl | exact bE rfl) (aJ 5))))) (RJ (c:="Full") (i:=4) (wU V.t_AskError_Full rfl rfl rfl rfl (by decide)) (fun _ _=>(jF D_Book_put (hr.mono (by decide)) (aJ 0) (aM (aJ 1) (aM (aJ 2) aX)))) nd rfl (by first | exact bH rfl | exact bE rfl) (j:=5) rfl rfl (fun _=>(cC (dG (i:=3) 0 .s nd rfl (by first | exact bH rfl | exact bE rfl) (aJ 5)))))))
   (bR (fU .s (fG SV KR (aJ 3) rU (dQ _)) (cC (dD .s (kT (aM kU (aM (iD TK LM (aJ 4) hJ (dQ _)) aX))))) fW)
   (bR (fU .s (qJ (mR (iS (oK (jH rfl B.isinstance V.i_NoTable rfl (aJ 3)) (jH rfl B.isinstance V.i_NoTable_Full rfl (aJ 3)))) (mR (iS (oK (jH rfl B.isinstance V.i_NoRow rfl (aJ 3)) (jH rfl B.isinstance V.i_NoRow_Full rfl (aJ 3)))) (pU (iS (oK (jH rfl B.isinstance V.i_TooMany rfl (aJ 3)) (jH rfl B.isinstance V.i_TooMany_Full rfl (aJ 3)))))))) (cC (dD .s (kT (aM kU aX)))) fW)
   (bR (fU .s (qJ (mR (iS (oK (jH rfl B.isinstance V.i_NoText rfl (aJ 3)) (jH rfl B.isinstance V.i_NoText_Full rfl (aJ 3)))) (mR (iS (oK (jH rfl B.isinstance V.i_NoName rfl (aJ 3)) (jH rfl B.isinstance V.i_NoName_Full rfl (aJ 3)))) (pU (iS (oK (jH rfl B.isinstance V.i_NoDeed rfl (aJ 3)) (jH rfl B.isinstance V.i_NoDeed_Full rfl (aJ 3)))))))) (cC (dD .s (kT (aM kU aX)))) fW)
   (cC (dD .s (kT (aM kU (aM (mS (oK (jH rfl B.isinstance V.i_Full rfl (aJ 3)) (jH rfl B.isinstance V.i_Full_Full rfl (aJ 3))) (oI (oK (LP rfl B.isinstance V.i_ValueError rfl RY (aJ 3)) (LP rfl B.isinstance V.i_ValueError_Full rfl RY (aJ 3))))) aX)))))))))))
noncomputable def oW:List aA->Option (aA×aA):=fun ds=>(mD ds).bind fun q=>if q.1=true then some (.tuple [.str "told",.bool true],q.2) else none
set_option maxHeartbeats 4000000 in
theorem Fy {P:bC}{w:aW}{K:aH}{mg:aD->Option aE}{base:aQ}{f:aB}{fd:dS}(F:Fun K "_law_put" "_law_put" zO f fd)(B:Blt mg)(C:Cst mg)(V:Xcs K mg)(DM_Book_put:MethM P w K mg base "Book" "put" 5 lK mD):FnOk P w K mg base (CXR base P w) (5+1) f fd mY (yH K oW):=by
 have nd:=Afx.nd
 obtain⟨C1,f1,fd1,hc1,cl1,me1,Fk1,hb1⟩:=DM_Book_put.ex
 refine F.okX Afx (fun vs H Q E h=>?_) (fun cdv A outer s H vs Q E hr h=>?_)
 ·obtain⟨P,F0,a,us,d,ds,r,d',rfl,_,_,_,_,rd,e,_⟩:=h
  obtain⟨q,e,_⟩:=XBs e
  obtain⟨W,hds,t,ks,kds,u,pq,e2,_⟩:=qI e
  cases e2
  rw[eE,rd.length]
  rfl
 ·obtain⟨P0,F0,a,us,d,ds,r,d',rfl,hP,hF0,nF0,rb,rd,e,kq⟩:=h
  have hu:=eQ hr
  have hv:=eK hr
  obtain⟨q,eG,e⟩:=XBs e
  obtain⟨hq,e⟩:=cT e
  obtain⟨rfl,rfl⟩:=Prod.mk.inj e
  obtain⟨W,hds,t,ks,kds,u,pq,e2,_⟩:=qI eG
  cases e2
  obtain⟨v1,us1,rfl,r1,rd'⟩:=Aad.mp rd
  obtain⟨v2,us2,rfl,r2,rd'⟩:=Aad.mp rd'
  obtain rfl:=Aan.mp rd'
  refine⟨_,fQ (qA (i:=3) nd rfl (by first | exact bH rfl | exact bE rfl) CA)
   (fQ (qA (i:=4) nd rfl (by first | exact bH rfl | exact bE rfl) CA)
   (fQ (Iv fun pins E'=>iF (qA (i:=4) nd rfl (by first | exact bH rfl | exact bE rfl) (DL (pl:=_) (E:=fun _ _ _=>False) (pv 0) cl1 me1 Fk1 (hr.mono (by decide)) hb1 .nil (fun _ _ _ _ _ _ _ h=>by obtain⟨_,_,_,_,_,_,_,_,_,_,_,_,_,_,q⟩:=h; exact q.elim) (fJ (pv 1) (fJ (pv 2) jE)))))
   (fQ (kN (fG SV KR (aJ 3) rU (dQ _)) (iF (lE (kT (aM kU (aM (iD TK LM (aJ 4) hJ (dQ _)) aX))))) vT)
   vT))),?_⟩
  obtain⟨c',C',dx,a',w',qq,wds,hds',kvs,hvs,pps,e3,ea,e4,hia,_⟩:=id rb.ex
  cases ea
  have e3':c' = "Book":=by
   simp only[bK,IL,BA,rA,IK,and_true,true_and] at e3
   exact e3.1.symm
  subst e3'
  obtain rfl:=lZ hc1 e4
  refine⟨.ref a,rfl,a,dx,_,rfl,hia,rfl,v1,rfl,v2,rfl,P0,F0,a,[v1,v2],_,[.str t,.tuple ks],q.1,q.2,rfl,hP,hF0,nF0,rb,rd,eG,fun H' kp rb'=>?_⟩
  have hPF:Hid (orL P0 F0) H':=fun b h=>by
   rcases h with h | h
   ·rcases hP b h with⟨xs,e⟩ | ⟨xs,e⟩
    ·exact .inl ⟨xs,kp _ _ (fun m=>hF0 b m h) e⟩
    ·exact .inr ⟨xs,kp _ _ (fun m=>hF0 b m h) e⟩
   ·exact rb'.mut b h
  have rs : ∀ {H2:Hp},Ais K (hid H2 (orL P0 F0)) [none,none,none,some .none,some (.bool true)] ((((start QS [.ref a,v1,v2]).set 3 (some .non)).set 4 (some .non)).set 4 (some (.bl q.1))):=fun {H2} i d' e=>by
   match i,e with
   | 3,e=>cases e; exact⟨_,rfl,Abg.mpr rfl⟩
   | 4,e=>cases e; exact⟨_,rfl,Aak.mpr (by rw[hq])⟩
   | 0,e=>cases e
   | 1,e=>cases e
   | 2,e=>cases e
   | i+5,e=>simp at e
  refine⟨orL P0 F0,_,true,hPF,rs,rfl,fun H2 x2=>jO ?_⟩
  refine⟨orL P0 F0,_,.tuple [.str "told",.bool true],hPF.ext x2,rs,rfl,cG fun v H3 x3 rv=>?_⟩
  have x23:=x2.trans x3
  refine kq H3 v (fun b o n0 e=>x23 _ _ (kp _ _ n0 e)) (rb'.keep (bO x23) fun b m=>?_) rv
  rcases rb'.mut b m with⟨xs,q⟩ | ⟨xs,q⟩ <;> rw[q,x23 _ _ q]
noncomputable def Ht:SF:=(bF (cE 4 0 .s (eC .none))
 (bF (sIf .s (bOf (eOp gEq (aF 3) (eC (.int 0)))) (iL "NoRow" lL (eF "Book" (aF 0) (aI (aF 1) (aI (aF 2) aL))) vExpr (sAs 5 "NoRow" (cE 4 0 .s (aF 5)))) (sIf .s (bOf (eOp gEq (aF 3) (eC (.int 1)))) (iL "NoRow" wF (eF "Book" (aF 0) (aI (aF 1) (aI (aF 2) aL))) vExpr (sAs 5 "NoRow" (cE 4 0 .s (aF 5)))) (iL "NoRow" oY (eF "Book" (aF 0) (aI (aF 1) (aI (aF 2) aL))) vExpr (sAs 5 "NoRow" (cE 4 0 .s (aF 5))))))
 (cK 0 .s (eOp HK (aF 4) (eC .none)))))
noncomputable def wN:List aA->Option aA:=fnD 4 6 Ht
theorem Hq (F:Fun K "_law_refused" "_law_refused" HA f fd)(B:Blt mg)(C:Cst mg)(V:Xcs K mg)(D_Book_put:MethX P w K mg base "Book" "put" 5 lK (spX K 0 lL))(D_Book_drop:MethX P w K mg base "Book" "drop" 5 nA (spX K 0 wF))(D_Book_has:MethX P w K mg base "Book" "has" 5 sS (spX K 0 oY)):FnOk P w K mg base CX0 6 f fd wR (spF K 0 wN):=by
 have nd:=Agk.nd
 exact iP F Agk rfl (by decide) fun cdv A outer s H E P0 hr=>by
  have hu:=eQ hr
  have hv:=eK hr
  exact(bR (dG (i:=4) 0 .s nd rfl (by first | exact bH rfl | exact bE rfl) rU)
   (bR (MY (LI .s (fun _ _=>(fG (jW hu) kQ (aJ 3) aU (dQ _))) (GU (c:="NoRow") (wU V.t_NoRow rfl rfl rfl rfl (by decide)) (fun _ _=>(jF D_Book_put (hr.mono (by decide)) (aJ 0) (aM (aJ 1) (aM (aJ 2) aX)))) nd (j:=5) rfl rfl (fun _=>(cC (dG (i:=4) 0 .s nd rfl (by first | exact bH rfl | exact bE rfl) (aJ 5))))) (LI .s (fun _ _=>(fG (jW hu) kQ (aJ 3) aU (dQ _))) (GU (c:="NoRow") (wU V.t_NoRow rfl rfl rfl rfl (by decide)) (fun _ _=>(jF D_Book_drop (hr.mono (by decide)) (aJ 0) (aM (aJ 1) (aM (aJ 2) aX)))) nd (j:=5) rfl rfl (fun _=>(cC (dG (i:=4) 0 .s nd rfl (by first | exact bH rfl | exact bE rfl) (aJ 5))))) (GU (c:="NoRow") (wU V.t_NoRow rfl rfl rfl rfl (by decide)) (fun _ _=>(jF D_Book_has (hr.mono (by decide)) (aJ 0) (aM (aJ 1) (aM (aJ 2) aX)))) nd (j:=5) rfl rfl (fun _=>(cC (dG (i:=4) 0 .s nd rfl (by first | exact bH rfl | exact bE rfl) (aJ 5))))))))
   (cC (dD .s (iD Me My (aJ 4) rU (dQ _))))))
theorem WY {c a b:Prop}[Decidable c](h:c)(x:a):if c then a else b:=by rw[if_pos h]; exact x
theorem WB {c a b:Prop}[Decidable c](h : ¬ c)(x:b):if c then a else b:=by rw[if_neg h]; exact x
noncomputable def fA (s:aD)(b:Bool):aA:=.tuple [.str s,.bool b]
noncomputable def jJ:List aA->Option (Bool×aA×aA):=fun ds=>match ds with
 | [d,.str t,.dict ((.none,.none)::kds),.tuple ks,.int way]=>if (iO "Book" d).isSome=true/\bP ks=true/\cW ks≤6/\kds.length<1000 then
   if way<2 then
    if (cV kds ks).isSome=true then(iU [d,.str t,.tuple ks]).bind fun r=>(gEq r (fA "told" false)).bind fun b=>(asB b).bind fun b=>some (b,d,.dict ((.none,.none)::kds))
    else if kds.length=60 then(iU [d,.str t,.tuple ks]).bind fun r=>(gEq r (fA "refused" true)).bind fun b=>(asB b).bind fun b=>some (b,d,.dict ((.none,.none)::kds))
    else(oW [d,.str t,.tuple ks]).bind fun q=>(gEq q.1 (fA "told" true)).bind fun b=>(asB b).bind fun b=>some (b,q.2,.dict ((.none,.none)::(kds++[(.tuple ks,.bool true)])))
   else(nB [d,.str t,.tuple ks]).bind fun q=>some (q.1 == (cV kds ks).isSome,q.2,.dict ((.none,.none)::if (cV kds ks).isSome=true then kO kds ks else kds))
  else none
 | _=>none
theorem GJ {ds:List aA}{q:Bool×aA×aA}(h:jJ ds=some q) : ∃ W D t kds ks way,ds=[bK "Book" W D,.str t,.dict ((.none,.none)::kds),.tuple ks,.int way]/\bP ks=true/\cW ks≤6/\kds.length<1000 /\
  (if way<2 then
    if (cV kds ks).isSome=true then(iU [bK "Book" W D,.str t,.tuple ks]).bind fun r=>(gEq r (fA "told" false)).bind fun b=>(asB b).bind fun b=>some (b,bK "Book" W D,qZ ((.none,.none)::kds))
    else if kds.length=60 then(iU [bK "Book" W D,.str t,.tuple ks]).bind fun r=>(gEq r (fA "refused" true)).bind fun b=>(asB b).bind fun b=>some (b,bK "Book" W D,qZ ((.none,.none)::kds))
    else(oW [bK "Book" W D,.str t,.tuple ks]).bind fun q=>(gEq q.1 (fA "told" true)).bind fun b=>(asB b).bind fun b=>some (b,q.2,qZ ((.none,.none)::(kds++[(.tuple ks,.bool true)])))
   else(nB [bK "Book" W D,.str t,.tuple ks]).bind fun q=>some (q.1 == (cV kds ks).isSome,q.2,qZ ((.none,.none)::if (cV kds ks).isSome=true then kO kds ks else kds)))=some q:=by
 unfold jJ at h
 split at h
 ·obtain⟨⟨c1,c2,c3,c4⟩,h⟩:=DU h
  obtain⟨p,e⟩:=xH.mp c1
  have e:=vJ e
  subst e
  exact⟨p.1,p.2,_,_,_,_,rfl,c2,c3,c4,h⟩
 ·cases h
theorem NV : ∀ d d1 m ds q,jJ (d::d1::m::ds)=some q->(∃ W D,d=bK "Book" W D) /\ ∃ kds,m = .dict kds:=fun d d1 m ds q h=>by
 obtain⟨W,D,t,kds,ks,way,e,_⟩:=GJ h
 cases e
 exact⟨⟨_,_,rfl⟩,_,rfl⟩
set_option maxHeartbeats 8000000 in
theorem Hi {P:bC}{w:aW}{K:aH}{mg:aD->Option aE}{base:aQ}{f:aB}{fd:dS}(F:Fun K "_law_deed" "_law_deed" GN f fd)(B:Blt mg)(C:Cst mg)(V:Xcs K mg)(D__law_put:Def P w K mg base "_law_put" 6 mY (spF K 0 iU))
  (DM__law_put:DefX P w K mg base "_law_put" 6 mY (yH K oW)) (DM_Book_drop:MethM P w K mg base "Book" "drop" 5 nA nB):FnOk P w K mg base (CXR base P w) (6+1) f fd wG (uS K 9 jJ):=by
 have nd:=Ajw.nd
 obtain⟨C2,f2,fd2,hc2,cl2,me2,Fk2,hb2⟩:=DM_Book_drop.ex
 refine F.okX Ajw (fun vs H Q E h=>?_) (fun cdv A outer s H vs Q E hr h=>?_)
 ·obtain⟨P,F0,F1,a,p,v1,us,d,d1,m,ds,r,d',m',rfl,_,_,_,_,_,_,_,_,_,rd,e,_⟩:=h
  obtain⟨W,D,t,kds,ks,way,e2,_⟩:=GJ e
  cases e2
  rw[eE,eE,eE,rd.length]
  rfl
 ·obtain⟨P0,F0,F1,a,p,v1,us,d,d1,m,ds,r,d',m',rfl,hP,hF0,hF1,hdj,nF0,nF1,rb,rm,r1,rd,e,kq⟩:=h
  have hu:=eQ hr
  have hv:=eK hr
  obtain⟨W,D,t,kds,ks,way,e2,k1,k2,l1000,eg⟩:=GJ e
  cases e2
  obtain⟨v3,us3,rfl,r3,rd⟩:=Aad.mp rd
  obtain⟨v4,us4,rfl,r4,rd⟩:=Aad.mp rd
  obtain rfl:=Aan.mp rd
  obtain rfl:=(Aaq.mp r1).1
  obtain rfl:=Aao.mp r4
  refine⟨_,fQ (kN (fG (Av5.or vR) vB (aJ 4) aU (dQ _))
    (fQ (kN (fG (oR hu) lF (aJ 3) (aJ 2) (by with_unfolding_all rfl))
     (iF (lE (iD (jW hu) kQ (cY D__law_put (hr.mono (by decide)) rfl (aM (aJ 0) (aM (aJ 1) (aM (aJ 3) aX)))) (kT (aM kU (aM hJ aX))) (dQ _)))) jZ)
    (fQ (kN (fG (jW hu) kQ (fK vQ vX rfl B.len jK (aM (aJ 2) aX)) aU (dQ _))
     (iF (lE (iD (jW hu) kQ (cY D__law_put (hr.mono (by decide)) rfl (aM (aJ 0) (aM (aJ 1) (aM (aJ 3) aX)))) (kT (aM kU (aM hJ aX))) (dQ _)))) jZ)
    (fQ (DJ hv (pv 2) (pv 3) pO rfl)
    (iF (lE (LB (jW hu) (LH (E:=fun _ _ _=>False) DM__law_put (hr.mono (by decide)) rfl (fun _ _ _ _ _ _ _ h=>by obtain⟨_,_,_,_,_,_,_,_,_,_,_,_,_,_,q⟩:=h; exact q.elim) (fJ (pv 0) (fJ (pv 1) (fJ (pv 3) jE)))) (kT (aM kU (aM hJ aX))) (dQ _))))))) jZ)
   (fQ (qA (i:=5) nd rfl (by first | exact bH rfl | exact bE rfl) (iD (oR hu) lF (aJ 3) (aJ 2) (by with_unfolding_all rfl)))
   (fQ (kN (iS (aJ 5)) (iF (qC (AA Pe UU PySem.F.type_dict_pop (NH hv) (pv 2) (fJ (pv 3) jE)) rfl)) jZ)
   (fQ (qA (i:=6) nd rfl (by first | exact bH rfl | exact bE rfl) (DL (pl:=_) (E:=fun _ _ _=>False) (pv 0) cl2 me2 Fk2 (hr.mono (by decide)) hb2 .nil (fun _ _ _ _ _ _ _ h=>by obtain⟨_,_,_,_,_,_,_,_,_,_,_,_,_,_,q⟩:=h; exact q.elim) (fJ (pv 1) (fJ (pv 3) jE))))
   (iF (lE (mS (pW (T:="bool") rfl B.isinstance rfl B.bool PyProof.Rows.boot_bool (by decide) (aJ 6)) (oI (iD (jW hu) kQ (aJ 6) (aJ 5) (dQ _))))))))),?_⟩
  have sub:Ext (hid H (orL (orL P0 F1) F0)) (hid H P0):=fP fun b h=>.inl (.inl h)
  have rm9:Afb K (hid H (orL (orL P0 F1) F0)) H (.dict ((.none,.none)::kds)) (.ref p) F1:=by
   rcases(show _ \/ Afb _ _ _ _ _ _ \/ RepB _ _ _ _ _ _ from rm) with⟨z,_⟩ | h | h
   ·cases z
   ·exact h
   ·obtain⟨c',C',dx,a',w',qq,wds,hds,kvs,hvs,pps,e3,_⟩:=h.ex
    cases e3
  obtain⟨kds',p',ts,em9,ep9,hp,hF1e,fl,rt⟩:=id rm9
  cases em9
  cases ep9
  have mp:p∈F1:=by rw[hF1e]; exact bY
  have rsA : ∀ {H2:Hp},Ext H H2->Ais K (hid H2 P0) [some (bK "Book" W D),some (.str t),some (.dict ((.none,.none)::kds)),some (.tuple ks),some (.int way)] (start GR [.ref a,.str t,.ref p,v3,.int way]):=fun {H2} x i d' e=>by
   match i,e with
   | 0,e=>cases e; exact⟨.ref a,rfl,(rb.share sub fun b m o q=>dZ (hF0 b m) q).ext (bO x)⟩
   | 1,e=>cases e; exact⟨_,rfl,(r1.ext sub).ext (bO x)⟩
   | 2,e=>cases e; exact⟨.ref p,rfl,(rm9.share sub fun b m o q=>dZ (hF1 b m) q).ext (bO x)⟩
   | 3,e=>cases e; exact⟨_,rfl,(r3.ext sub).ext (bO x)⟩
   | 4,e=>cases e; exact⟨_,rfl,(r4.ext sub).ext (bO x)⟩
   | i+5,e=>simp at e
  have kpO : ∀ {H2:Hp} {b:aB},Ext H H2->(b∈F0 \/ b∈F1)->H2 b=H b:=fun {H2 b} x m=>by
   rcases m with m | m
   ·rcases rb.mut b m with⟨xs,q⟩ | ⟨xs,q⟩ <;> rw[q,x _ _ q]
   ·rcases rm.mut b m with⟨xs,q⟩ | ⟨xs,q⟩ <;> rw[q,x _ _ q]
  have rmk : ∀ {H2:Hp},Ext H H2->Aec K (hid H2 (orL (orL P0 F1) F0)) H2 9 (.dict ((.none,.none)::kds)) (.ref p) F1:=fun {H2} x=>rm.keep (bO x) fun b m=>kpO x (.inr m)
  have eIn:gIn false (.tuple ks) (.dict ((.none,.none)::kds))=some (.bool (cV kds ks).isSome):=by
   show(if (bP ks&&decide (cW ks≤6))=true then some (eX (false != (cV kds ks).isSome)) else none)=_
   rw[k1,decide_eq_true k2]
   cases(cV kds ks).isSome <;> rfl
  have keyb : ∀ {H3:Hp},Ext H H3 -> ∃ b,v3 = .ref b/\Ajf H3 ks b:=fun {H3} x=>((r3.ext (bO x)).ext Aax).tupK k1 k2
  have inKs:(cV kds ks).isSome=true ↔ .tuple ks∈kds.map (·.1):=by
   refine⟨fun h=>Pl fun n=>?_,fun h=>(sN k1 rt h).1⟩
   rw[zE k1 rt n] at h
   cases h
  have kpu : ∀ {H3:Hp} (o':HO),Ext H H3 -> ∀ b o,b∉F1->H b=some o->upd H3 p o' b=some o:=fun {H3} o' x b o nb e=>by
   rw[bN (fun z=>nb (by rw[z]; exact mp))]
   exact x _ _ e
  have xbu : ∀ {H3:Hp} (o':HO),Ext H H3->Ext (hid H (orL (orL P0 F1) F0)) (hid (upd H3 p o') (orL (orL P0 F1) F0)):=fun {H3} o' x b o e=>by
   obtain⟨nb,e⟩:=Ab3.mp e
   exact dZ nb (kpu o' x b o (fun m=>nb (.inl (.inr m))) e)
  have newT : ∀ {H3:Hp} (n:Nat) {kds2:List (aA×aA)} {ts2:List (List aA×L2.V)},Ext H H3->(∀ kd∈kds2,fM kd.2=true)->(∀ B:Hp,Ext (hid H (orL (orL P0 F1) F0)) B->Abx K B kds2 ts2)->Aec K (hid (upd H3 p (.dT n ts2)) (orL (orL P0 F1) F0)) (upd H3 p (.dT n ts2)) 9 (.dict ((.none,.none)::kds2)) (.ref p) F1:=fun {H3} n {kds2 ts2} x fl2 h=>bE (.inl ⟨kds2,p,(n,ts2),rfl,rfl,eB,hF1e,fl2,h _ (xbu _ x)⟩)
  have rbx : ∀ {Hx:Hp},(∀ b o,b∉F1->H b=some o->Hx b=some o)->RepB K (hid Hx (orL (orL P0 F1) F0)) Hx (bK "Book" W D) (.ref a) F0/\Hid P0 Hx/\Ext (hid H (orL (orL P0 F1) F0)) (hid Hx (orL (orL P0 F1) F0)):=fun {Hx} kp=>by
   have xb:Ext (hid H (orL (orL P0 F1) F0)) (hid Hx (orL (orL P0 F1) F0)):=fun b o e=>by
    obtain⟨nb,e⟩:=Ab3.mp e
    exact dZ nb (kp b o (fun m=>nb (.inl (.inr m))) e)
   refine⟨rb.keep xb fun b m=>?_,fun b h=>?_,xb⟩
   ·rcases rb.mut b m with⟨xs,q⟩ | ⟨xs,q⟩ <;> rw[q,kp _ _ (hdj b m) q]
   ·rcases hP b h with⟨xs,e⟩ | ⟨xs,e⟩
    ·exact .inl ⟨xs,kp _ _ (fun m=>hF1 b m h) e⟩
    ·exact .inr ⟨xs,kp _ _ (fun m=>hF1 b m h) e⟩
  have same : ∀ {H2:Hp} {v:L2.V},Ext H H2->Aa6 K (hid H2 P0) (.bool r) v->d'=bK "Book" W D->m' = .dict ((.none,.none)::kds)->Q v H2:=fun {H2 v} x rv ed em=>by
   subst ed
   subst em
   obtain rfl:=Aak.mp rv
   exact kq H2 (fun b o _ _ e=>x _ _ e) (rb.keep (bO x) fun b m=>kpO x (.inl m)) (rmk x)
  have eput : ∀ {u:aA} {s:aD} {b:Bool},iU [bK "Book" W D,.str t,.tuple ks]=some u->gEq u (fA s b)=some (.bool r)->eOp gEq (aR iU (aI (aF 0) (aI (aF 1) (aI (aF 3) aL)))) (iK (aI (eC (.str s)) (aI (eC (.bool b)) aL))) [some (bK "Book" W D),some (.str t),some (.dict ((.none,.none)::kds)),some (.tuple ks),some (.int way)]=some (.bool r):=fun {u s b} e1 e2=>by
   have e3:aR iU (aI (aF 0) (aI (aF 1) (aI (aF 3) aL))) [some (bK "Book" W D),some (.str t),some (.dict ((.none,.none)::kds)),some (.tuple ks),some (.int way)]=some u:=e1
   show((aR iU (aI (aF 0) (aI (aF 1) (aI (aF 3) aL))) [some (bK "Book" W D),some (.str t),some (.dict ((.none,.none)::kds)),some (.tuple ks),some (.int way)]).bind fun x=>(some (fA s b)).bind fun y=>gEq x y)=_
   rw[e3]
   exact e2
  by_cases h2:way<2
  ·rw[if_pos h2] at eg
   refine⟨P0,_,true,hP,rsA Ext.refl,?_,fun H1 x1=>jO ?_⟩
   ·show some (decide (way<2))=_
    rw[decide_eq_true h2]
   by_cases hin:(cV kds ks).isSome=true
   ·rw[if_pos hin] at eg
    obtain⟨u,e1,eg⟩:=XBs eg
    obtain⟨b,e2,eg⟩:=XBs eg
    obtain⟨b',e3,eg⟩:=XBs eg
    have:=mX e3
    subst this
    have eg:=eO eg
    simp only[rA] at eg
    obtain⟨rfl,ed,em⟩:=eg
    refine⟨P0,_,true,hP.ext x1,rsA x1,?_,fun H2 x2=>jO ?_⟩
    ·show(gIn false (.tuple ks) (.dict ((.none,.none)::kds))).bind asB=_
     rw[eIn,hin]
     rfl
    exact⟨P0,_,.bool b',hP.ext (x1.trans x2),rsA (x1.trans x2),eput e1 e2,cG fun v H3 x3 rv=>same ((x1.trans x2).trans x3) rv ed.symm em.symm⟩
   rw[if_neg hin] at eg
   refine⟨P0,_,false,hP.ext x1,rsA x1,?_,fun H2 x2=>iB ?_⟩
   ·show(gIn false (.tuple ks) (.dict ((.none,.none)::kds))).bind asB=_
    rw[eIn,Bool.eq_false_iff.mpr hin]
    rfl
   have x12:=x1.trans x2
   have e60:bOf (eOp gEq (aR lD (aI (aF 2) aL)) (eC (.int 60))) [some (bK "Book" W D),some (.str t),some (.dict ((.none,.none)::kds)),some (.tuple ks),some (.int way)]=some (decide (kds.length=60)):=by
    show(some (eX (cO (.int kds.length) (.int 60)))).bind asB=_
    have:cO (.int (kds.length:Int)) (.int 60)=decide (kds.length=60):=by
     simp only[cO]
     by_cases q:kds.length=60
     ·simp[q]
     ·rw[decide_eq_false q]
      simp
      omega
    rw[this]
    rfl
   by_cases h60:kds.length=60
   ·rw[if_pos h60] at eg
    obtain⟨u,e1,eg⟩:=XBs eg
    obtain⟨b,e2,eg⟩:=XBs eg
    obtain⟨b',e3,eg⟩:=XBs eg
    have:=mX e3
    subst this
    have eg:=eO eg
    simp only[rA] at eg
    obtain⟨rfl,ed,em⟩:=eg
    refine⟨P0,_,true,hP.ext x12,rsA x12,e60.trans (by rw[decide_eq_true h60]),fun H3 x3=>jO ?_⟩
    exact⟨P0,_,.bool b',hP.ext (x12.trans x3),rsA (x12.trans x3),eput e1 e2,cG fun v H4 x4 rv=>same ((x12.trans x3).trans x4) rv ed.symm em.symm⟩
   rw[if_neg h60] at eg
   obtain⟨q,e1,eg⟩:=XBs eg
   obtain⟨b,e2,eg⟩:=XBs eg
   obtain⟨b',e3,eg⟩:=XBs eg
   have:=mX e3
   subst this
   have eg:=eO eg
   simp only[rA] at eg
   obtain⟨rfl,rfl,rfl⟩:=eg
   refine⟨P0,_,false,hP.ext x12,rsA x12,e60.trans (by rw[decide_eq_false h60]),fun H3 x3=>iB ?_⟩
   have x13:=x12.trans x3
   obtain⟨b,rfl,tk⟩:=keyb x13
   have lt:ts.2.length=kds.length:=by
    have:=congrArg xK (sH rt)
    simpa using this.symm
   have nin : .tuple ks∉kds.map (·.1):=fun z=>hin (inKs.mpr z)
   have nv:dC ts.2 ks=none:=FI fun x m z=>nin (by
    rw[sH rt]
    exact cL.mpr ⟨x.1,cL.mpr ⟨x,m,rfl⟩,by rw[z]⟩)
   refine⟨.ref p,rfl,.ref b,rfl,p,_,rfl,Az4.t (x13 _ _ hp) tk (by rw[lt]; exact fL l1000 (by decide)),fun n=>?_⟩
   obtain⟨rb4,hP4,xb4⟩:=rbx (kpu (.dT n (putK ts.2 ks (.bl true))) x13)
   have rm4:=newT n (kds2:=kds++[(.tuple ks,.bool true)]) (ts2:=putK ts.2 ks (.bl true)) x13 (fun kd m=>by
    rcases nU.mp m with m | m
    ·exact fl kd m
    ·rw[dB.mp m]; rfl) (fun B xB=>by
    have:=FH k1 (Aak.mpr rfl:Aa6 K B (.bool true) (.bl true)) (rt.ext xB)
    rw[← FC (.bl true) nv] at this
    exact this)
   refine⟨.ref a,rfl,.str t,rfl,.ref b,rfl,?_⟩
   refine Np (ds:=[.str t,.tuple ks]) (q:=q) hP4 hF0 hdj nF0 rb4 rm4 (Aad.mpr ⟨_,_,rfl,r1.ext xb4,Aad.mpr ⟨_,_,rfl,r3.ext xb4,Aan.mpr rfl⟩⟩) e1 fun H5 v5 kp5 rb5 rm5 rv5=>?_
   have hP5:Hid (orL (orL P0 F1) F0) H5:=fun z h=>by
    rcases h with(h | h) | h
    ·rcases hP4 z h with⟨xs,e⟩ | ⟨xs,e⟩
     ·exact .inl ⟨xs,kp5 _ _ (fun m=>hF0 z m h) e⟩
     ·exact .inr ⟨xs,kp5 _ _ (fun m=>hF0 z m h) e⟩
    ·exact rm5.mut z h
    ·exact rb5.mut z h
   refine⟨orL (orL P0 F1) F0,[],fA "told" true,hP5,fun i d' e=>by simp at e,rfl,cG fun v6 H6 x6 rv6=>?_⟩
   obtain⟨hc,hval⟩:=cT e2
   have hc':dU q.1=true/\dU (fA "told" true)=true:=by simpa using hc
   have hval:cO q.1 (fA "told" true)=b':=PyData.bool.inj hval
   refine⟨q.1,fA "told" true,(rv5.ext (bO x6)).ext Aax,rv6.ext Aax,hc'.1,hc'.2,?_⟩
   rw[hval]
   have:(false != b')=b':=by cases b' <;> rfl
   rw[this]
   refine kq H6 (fun z o n0 n1 e=>x6 _ _ (kp5 _ _ n0 (kpu _ x13 _ _ n1 e))) (rb5.keep (bO x6) fun z m=>?_) (rm5.keep (bO x6) fun z m=>?_)
   ·rcases rb5.mut z m with⟨xs,q⟩ | ⟨xs,q⟩ <;> rw[q,x6 _ _ q]
   ·rcases rm5.mut z m with⟨xs,q⟩ | ⟨xs,q⟩ <;> rw[q,x6 _ _ q]
  rw[if_neg h2] at eg
  obtain⟨q,e1,eg⟩:=XBs eg
  have eg:=eO eg
  simp only[rA] at eg
  obtain⟨rfl,rfl,rfl⟩:=eg
  refine⟨P0,_,false,hP,rsA Ext.refl,?_,fun H1 x1=>iB ?_⟩
  ·show some (decide (way<2))=_
   rw[decide_eq_false h2]
  refine⟨P0,_,.bool (cV kds ks).isSome,hP.ext x1,rsA x1,eIn,cG fun v H2 x2 rv=>?_⟩
  obtain rfl:=Aak.mp rv
  have x12:=x1.trans x2
  let σ5:=(start GR [.ref a,.str t,.ref p,v3,.int way]).set 5 (some (.bl (cV kds ks).isSome))
  have fin : ∀ {Hx:Hp} {m1:aA},(∀ b o,b∉F1->H b=some o->Hx b=some o)->Aec K (hid Hx (orL (orL P0 F1) F0)) Hx 9 m1 (.ref p) F1->m1=(.dict ((.none,.none)::if (cV kds ks).isSome=true then kO kds ks else kds)) ->
    JX C2 "drop" (rR K nB) [] (fun _ _ _=>False) (uI 0) (uO (uI 1) (uO (uI 3) BJ)) σ5 Hx (fun x H1=>uM 6 x σ5 H1 fun σ H=>JI (tF K 0 (gO (eUn (jD "bool") (aF 6)) (eOp gEq (aF 6) (aF 5)))) { nx:=fun _ H'=>Q .non H',rt:=Q } σ H):=fun {Hx m1} kp rmx em=>by
   subst em
   obtain⟨rb4,hP4,xb4⟩:=rbx kp
   obtain⟨a',dx,w',qq,ea,hia⟩:=rb4.ins hc2
   cases ea
   refine⟨.ref a,rfl,a,dx,_,rfl,hia,rfl,.str t,rfl,v3,rfl,?_⟩
   refine Kb (ds:=[.str t,.tuple ks]) (q:=q) hP4 hF0 hdj nF0 rb4 rmx (Aad.mpr ⟨_,_,rfl,r1.ext xb4,Aad.mpr ⟨_,_,rfl,r3.ext xb4,Aan.mpr rfl⟩⟩) e1 fun H5 kp5 rb5 rm5=>?_
   refine⟨fun _=>False,[none,none,none,none,none,some (.bool (cV kds ks).isSome),some (.bool q.1)],.bool (q.1 == (cV kds ks).isSome),fun _ h=>h.elim,fun i d' e=>?_,?_,cG fun v6 H6 x6 rv6=>?_⟩
   ·match i,e with
    | 5,e=>cases e; exact⟨_,rfl,Aak.mpr rfl⟩
    | 6,e=>cases e; exact⟨_,rfl,Aak.mpr rfl⟩
    | 0,e=>cases e
    | 1,e=>cases e
    | 2,e=>cases e
    | 3,e=>cases e
    | 4,e=>cases e
    | i+7,e=>simp at e
   ·cases q.1 <;> cases(cV kds ks).isSome <;> rfl
   ·obtain rfl:=Aak.mp rv6
    refine kq H6 (fun z o n0 n1 e=>x6 _ _ (kp5 _ _ n0 (kp _ _ n1 e))) (rb5.keep (bO x6) fun z m=>?_) (rm5.keep (bO x6) fun z m=>?_)
    ·rcases rb5.mut z m with⟨xs,q⟩ | ⟨xs,q⟩ <;> rw[q,x6 _ _ q]
    ·rcases rm5.mut z m with⟨xs,q⟩ | ⟨xs,q⟩ <;> rw[q,x6 _ _ q]
  have rsB : ∀ {H2:Hp},Ais K (hid H2 P0) [none,none,none,none,none,some (.bool (cV kds ks).isSome)] σ5:=fun {H2} i d' e=>by
   match i,e with
   | 5,e=>cases e; exact⟨_,rfl,Aak.mpr rfl⟩
   | 0,e=>cases e
   | 1,e=>cases e
   | 2,e=>cases e
   | 3,e=>cases e
   | 4,e=>cases e
   | i+6,e=>simp at e
  refine⟨P0,_,(cV kds ks).isSome,hP.ext x12,rsB,rfl,fun H3 x3=>?_⟩
  have x13:=x12.trans x3
  by_cases hin:(cV kds ks).isSome=true
  ·obtain⟨b,rfl,tk⟩:=keyb x13
   obtain⟨uu,hu2⟩:=xH.mp (sN k1 rt (inKs.mp hin)).2
   refine WY hin ⟨.ref p,rfl,.inr (.inr (.inl ⟨rfl,.inr ⟨_,_,x13 _ _ hp⟩⟩)),_,rfl,p,_,_,ks,b,uu,rfl,rfl,x13 _ _ hp,tk,hu2,fun n=>?_⟩
   exact fin (kpu _ x13) (newT n (kds2:=kO kds ks) x13 (fun kd m=>fl kd (xI.mp m).1) fun B xB=>yZ ks (rt.ext xB)) (by rw[if_pos hin])
  ·exact WB hin (fin (fun b o _ e=>x13 _ _ e) (rmk x13) (by rw[if_neg hin]))
end Aw
namespace Aw
open PySem L2
set_option maxHeartbeats 4000000
variable {P:bC}{w:aW}{K:aH}{mg:aD->Option aE}{base:aQ}{f:aB}{fd:dS}
noncomputable def XG:SF:=(bF (cE 1 0 .s (aR sV (aI (aR lJ (aI (aF 0) (aI (eC (.int 0)) aL))) (aI (eC (.int 2)) aL))))
 (bF (cE 2 0 .s (aR lJ (aI (aF 0) (aI (eC (.int 1)) aL))))
 (bF (cE 3 0 .s (eOp cS (eC (.int 1)) (eOp cH (aR fC (aI (aF 2) (aI (eC (.int 5)) aL))) (eC (.int 6)))))
 (bF (cE 4 0 .s (eOp cH (aR fC (aI (aF 2) (aI (eC (.int 6)) aL))) (aF 3)))
 (bF (cE 5 0 .s (eOp cH (aR lJ (aI (aF 0) (aI (eC (.int 2)) aL))) (eOp qP (eC (.int 10)) (eC (.int 59)))))
 (bF (cE 6 0 .s (eOp cS (eC (.int 1)) (eOp cH (aR lJ (aI (aF 0) (aI (eC (.int 3)) aL))) (eOp qP (eC (.int 10)) (eC (.int 57))))))
 (bF (cE 7 9 .s (aR (sX none) (aI (jQ (aI (iK (aI (eOp gIx (aF 1) (eC (.int 0))) (aI (aF 3) aL))) (aI (iK (aI (eOp gIx (aF 1) (eC (.int 1))) (aI (eC (.int 1)) aL))) aL))) aL)))
 (bF (cE 8 9 .s (eC (.dict [(.none,.none)])))
 (bF (lU .s (iR1 (aI (eC (.int 60)) aL)) (gNm 9) (vL 7 8 9 jJ (eOp gIx (aF 1) (eC (.int 0))) (aI (aR qG (aI (eOp cS (aF 5) (eOp fD (aF 9) (aF 6))) (aI (aF 3) (aI (aF 4) aL)))) (aI (eC (.int 0)) aL))))
 (bF (cE 10 0 .s (eC (.int 0)))
 (bF (lU .s (iIt (eOp wW (jQ (aI (eC (.int 0)) (aI (eC (.int 9)) aL))) (nK (aF 0) (oS (eC (.int 4))) (oS (eC (.int 64)))))) (gNm 11) (bF (cE 12 0 .s (eOp cS (aF 5) (eOp fD (eOp cH (aR fC (aI (aF 11) (aI (eC (.int 7)) aL))) (eC (.int 70))) (aF 6))))
 (bF (sIf .s (bOf (eOp gEq (eOp cH (aR fC (aI (aF 11) (aI (eC (.int 8)) aL))) (eC (.int 4))) (eC (.int 0)))) (cE 12 0 .s (eOp oG (eOp oG (eC (.int 0)) (eC (.int 1))) (eOp cH (aF 11) (eOp qP (eC (.int 10)) (eC (.int 59)))))) dW)
 (bF (cE 13 0 .s (aR qG (aI (aF 12) (aI (aF 3) (aI (aF 4) aL)))))
 (bF (vL 7 8 9 jJ (eOp gIx (aF 1) (eC (.int 0))) (aI (aF 13) (aI (eOp cH (aR fC (aI (aF 11) (aI (eC (.int 9)) aL))) (eC (.int 3))) aL)))
 (bF (sIf .a (fT (bOf (aR wN (aI (aF 7) (aI (eOp gIx (aF 1) (eC (.int 0))) (aI (aR wQ (aI (aF 11) (aI (aF 13) aL))) (aI (eOp cH (aR fC (aI (aF 11) (aI (eC (.int 12)) aL))) (eC (.int 3))) aL))))))) (cK 0 .s (eC (.bool false))) dW)
 (bF (sIf .a (bOf (eOp gNe (aR (oY none) (eF "Book" (aF 7) (aI (eOp gIx (aF 1) (eC (.int 0))) (aI (aF 13) aL)))) (eOp (gIn false) (aF 13) (aF 8)))) (cK 0 .s (eC (.bool false))) dW)
 (bF (CB .s (bOf (eOp gLt (aF 10) (eC (.int 60)))) 7 mD (aI (eOp gIx (aF 1) (eC (.int 1))) (aI (iK (aI (aF 10) aL)) aL)))
 (bF (cE 10 0 .s (eOp cS (aF 10) (eC (.int 1))))
 (sIf .a (bOf (eOp gNe (aR (wH none) (eF "Book" (aF 7) aL)) (eOp cS (aR lD (aI (aF 8) aL)) (aR yB (aI (aF 10) (aI (eC (.int 60)) aL)))))) (cK 0 .s (eC (.bool false))) dW))))))))))
 (cK 0 .a (eOp gEq (aR (wC none) (eF "Book" (aF 7) (aI (eOp gIx (aF 1) (eC (.int 0))) aL))) (aR vE (aI (aF 8) aL)))))))))))))))
noncomputable def HS:List aA->Option aA:=fnD 1 14 XG
theorem ZG (F:Fun K "law" "law" pL f fd)(B:Blt mg)(C:Cst mg)(V:Xcs K mg)(D_Book_size:MethX P w K mg base "Book" "size" 1 wD (spX K 0 wH))(D__law_cell:Def P w K mg base "_law_cell" 1 wA (spF K 0 lJ))(D__law_mix:Def P w K mg base "_law_mix" 1 qH (spF K 0 fC))(D__law_row:Def P w K mg base "_law_row" 1 vW (spF K 0 qG))(D__law_names:Def P w K mg base "_law_names" 2 wK (spF K 1 sV))(D__law_no_row:Def P w K mg base "_law_no_row" 2 wI (spF K 0 wQ))(D_Book_rows:MethX P w K mg base "Book" "rows" 3 wB (spX K 1 wC))(D_Book___init__:MakeX P w K mg base "Book" 4 wO sX)(D_Book_has:MethX P w K mg base "Book" "has" 5 sS (spX K 0 oY))(D__law_refused:Def P w K mg base "_law_refused" 6 wR (spF K 0 wN))(DM_Book_put:MethM P w K mg base "Book" "put" 5 lK mD)(DM__law_deed:DefX P w K mg base "_law_deed" 7 wG (uS K 9 jJ)):FnOk P w K mg base CX0 8 f fd SJ (spF K 0 HS):=by
 have nd:=A3d.nd
 exact iP F A3d rfl (by decide) fun cdv A outer s H E P0 hr=>by
  have hu:=eQ hr
  have hv:=eK hr
  refine bR ?_ ?_
  refine dG (i:=1) 0 .s ?_ ?_ ?_ ?_ ?_ ?_
  exact nd
  rfl
  first | exact bH rfl | exact bE rfl
  refine gV (n:=1) ?_
  refine cY D__law_names (hr.mono (by decide)) rfl ?_
  refine aM ?_ ?_ ?_
  refine cY D__law_cell (hr.mono (by decide)) rfl ?_
  refine aM ?_ ?_ ?_
  exact(aJ 0)
  refine aM ?_ ?_ ?_
  exact aU
  exact aX
  rfl
  rfl
  refine aM ?_ ?_ ?_
  exact aU
  exact aX
  rfl
  rfl
  rfl
  first | exact bH rfl | exact bE rfl | assumption
  refine bR ?_ ?_
  refine dG (i:=2) 0 .s ?_ ?_ ?_ ?_ ?_ ?_
  exact nd
  rfl
  first | exact bH rfl | exact bE rfl
  refine cY D__law_cell (hr.mono (by decide)) rfl ?_
  refine aM ?_ ?_ ?_
  exact(aJ 0)
  refine aM ?_ ?_ ?_
  exact aU
  exact aX
  rfl
  rfl
  rfl
  first | exact bH rfl | exact bE rfl | assumption
  refine bR ?_ ?_
  refine dG (i:=3) 0 .s ?_ ?_ ?_ ?_ ?_ ?_
  exact nd
  rfl
  first | exact bH rfl | exact bE rfl
  refine gG aU ?_
  refine fF ?_ aU
  refine cY D__law_mix (hr.mono (by decide)) rfl ?_
  refine aM ?_ ?_ ?_
  exact(aJ 2)
  refine aM ?_ ?_ ?_
  exact aU
  exact aX
  rfl
  rfl
  rfl
  first | exact bH rfl | exact bE rfl | assumption
  refine bR ?_ ?_
  refine dG (i:=4) 0 .s ?_ ?_ ?_ ?_ ?_ ?_
  exact nd
  rfl
  first | exact bH rfl | exact bE rfl
  refine fF ?_ ?_
  refine cY D__law_mix (hr.mono (by decide)) rfl ?_
  refine aM ?_ ?_ ?_
  exact(aJ 2)
  refine aM ?_ ?_ ?_
  exact aU
  exact aX
  rfl
  rfl
  exact(aJ 3)
  rfl
  first | exact bH rfl | exact bE rfl | assumption
  refine bR ?_ ?_
  refine dG (i:=5) 0 .s ?_ ?_ ?_ ?_ ?_ ?_
  exact nd
  rfl
  first | exact bH rfl | exact bE rfl
  refine fF ?_ ?_
  refine cY D__law_cell (hr.mono (by decide)) rfl ?_
  refine aM ?_ ?_ ?_
  exact(aJ 0)
  refine aM ?_ ?_ ?_
  exact aU
  exact aX
  rfl
  rfl
  exact(vC aU aU)
  rfl
  first | exact bH rfl | exact bE rfl | assumption
  refine bR ?_ ?_
  refine dG (i:=6) 0 .s ?_ ?_ ?_ ?_ ?_ ?_
  exact nd
  rfl
  first | exact bH rfl | exact bE rfl
  refine gG aU ?_
  refine fF ?_ ?_
  refine cY D__law_cell (hr.mono (by decide)) rfl ?_
  refine aM ?_ ?_ ?_
  exact(aJ 0)
  refine aM ?_ ?_ ?_
  exact aU
  exact aX
  rfl
  rfl
  exact(vC aU aU)
  rfl
  first | exact bH rfl | exact bE rfl | assumption
  refine bR ?_ ?_
  refine dG (i:=7) 9 .s ?_ ?_ ?_ ?_ ?_ ?_
  exact nd
  rfl
  first | exact bH rfl | exact bE rfl
  exact(pM (Ls D_Book___init__ (hr.mono (by decide)) (by rfl) (aM (gV (n:=1) (rY (aM (kT (aM (dY hv (aJ 1) aU (fun _ _=>rfl)) (aM (aJ 3) aX))) (aM (kT (aM (dY hv (aJ 1) aU (fun _ _=>rfl)) (aM aU aX))) aX)))) aX)))
  rfl
  first | exact bH rfl | exact bE rfl | assumption
  refine bR ?_ ?_
  exact(dG (i:=8) 9 .s nd rfl (by first | exact bH rfl | exact bE rfl) Ag)
  refine bR ?_ ?_
  refine LV .s PassesOwn.never rfl ?_ ?_ ?_
  refine vV rfl B.range ?_
  refine aM ?_ ?_ ?_
  exact aU
  exact aX
  rfl
  exact(EJ (i:=9) nd rfl (by first | exact bH rfl | exact bE rfl))
  refine cC ?_
  exact(RC (LS 7 8 DM__law_deed (hr.mono (by decide)) rfl NV (by decide) (dY hv (aJ 1) aU (fun _ _=>rfl)) (aM (cY D__law_row (hr.mono (by decide)) rfl (aM (gG (aJ 5) (jT (aJ 9) (aJ 6))) (aM (aJ 3) (aM (aJ 4) aX)))) (aM aU aX))))
  refine bR ?_ ?_
  exact(dG (i:=10) 0 .s nd rfl (by first | exact bH rfl | exact bE rfl) aU)
  refine bR ?_ ?_
  refine YT ?_ ?_ ?_ ?_ ?_ ?_
  exact PassesOwn.never
  rfl
  refine uR ?_
  refine gV (n:=1) ?_
  refine Jb ?_ ?_
  refine gV (n:=1) ?_
  refine rY ?_
  refine aM ?_ ?_ ?_
  exact aU
  refine aM ?_ ?_ ?_
  exact aU
  exact aX
  rfl
  rfl
  refine gV (n:=1) ?_
  refine CY ?_ ?_ ?_
  exact(aJ 0)
  exact(oO aU)
  exact(oO aU)
  exact(EJ (i:=11) nd rfl (by first | exact bH rfl | exact bE rfl))
  refine bR ?_ ?_
  refine dG (i:=12) 0 .s ?_ ?_ ?_ ?_ ?_ ?_
  exact nd
  rfl
  first | exact bH rfl | exact bE rfl
  refine gG ?_ ?_
  exact(aJ 5)
  refine jT ?_ ?_
  refine fF ?_ aU
  refine cY D__law_mix (hr.mono (by decide)) rfl ?_
  refine aM ?_ ?_ ?_
  exact(aJ 11)
  refine aM ?_ ?_ ?_
  exact aU
  exact aX
  rfl
  rfl
  exact(aJ 6)
  rfl
  first | exact bH rfl | exact bE rfl | assumption
  refine bR ?_ ?_
  refine fU .s ?_ ?_ fW
  refine fG (jW hu) kQ ?_ aU (dQ _)
  refine fF ?_ aU
  refine cY D__law_mix (hr.mono (by decide)) rfl ?_
  refine aM ?_ ?_ ?_
  exact(aJ 11)
  refine aM ?_ ?_ ?_
  exact aU
  exact aX
  rfl
  rfl
  refine cC ?_
  refine dG (i:=12) 0 .s ?_ ?_ ?_ ?_ ?_ ?_
  exact nd
  rfl
  first | exact bH rfl | exact bE rfl
  refine rZ ?_ ?_
  exact(rZ aU aU)
  refine fF ?_ ?_
  exact(aJ 11)
  exact(vC aU aU)
  rfl
  first | exact bH rfl | exact bE rfl | assumption
  refine bR ?_ ?_
  refine dG (i:=13) 0 .s ?_ ?_ ?_ ?_ ?_ ?_
  exact nd
  rfl
  first | exact bH rfl | exact bE rfl
  refine cY D__law_row (hr.mono (by decide)) rfl ?_
  refine aM ?_ ?_ ?_
  exact(aJ 12)
  refine aM ?_ ?_ ?_
  exact(aJ 3)
  refine aM ?_ ?_ ?_
  exact(aJ 4)
  exact aX
  rfl
  rfl
  rfl
  rfl
  first | exact bH rfl | exact bE rfl | assumption
  refine bR ?_ ?_
  exact(RC (LS 7 8 DM__law_deed (hr.mono (by decide)) rfl NV (by decide) (dY hv (aJ 1) aU (fun _ _=>rfl)) (aM (aJ 13) (aM (fF (cY D__law_mix (hr.mono (by decide)) rfl (aM (aJ 11) (aM aU aX))) aU) aX))))
  refine bR ?_ ?_
  refine fU .a ?_ ?_ fW
  refine lX ?_
  refine iS ?_
  refine cY D__law_refused (hr.mono (by decide)) rfl ?_
  refine aM ?_ ?_ ?_
  exact(aJ 7)
  refine aM ?_ ?_ ?_
  refine dY hv ?_ aU (fun _ _=>rfl)
  exact(aJ 1)
  refine aM ?_ ?_ ?_
  refine cY D__law_no_row (hr.mono (by decide)) rfl ?_
  refine aM ?_ ?_ ?_
  exact(aJ 11)
  refine aM ?_ ?_ ?_
  exact(aJ 13)
  exact aX
  rfl
  rfl
  refine aM ?_ ?_ ?_
  refine fF ?_ aU
  refine cY D__law_mix (hr.mono (by decide)) rfl ?_
  refine aM ?_ ?_ ?_
  exact(aJ 11)
  refine aM ?_ ?_ ?_
  exact aU
  exact aX
  rfl
  rfl
  exact aX
  rfl
  rfl
  rfl
  rfl
  refine cC ?_
  exact(dD .s hJ)
  refine bR ?_ ?_
  refine fU .a ?_ ?_ fW
  refine fG (CP hu) CM ?_ ?_ (dQ _)
  exact(pM (jF D_Book_has (hr.mono (by decide)) (aJ 7) (aM (dY hv (aJ 1) aU (fun _ _=>rfl)) (aM (aJ 13) aX))))
  refine iD (oR hu) lF ?_ ?_ (by with_unfolding_all rfl)
  exact(aJ 13)
  exact(aJ 8)
  refine cC ?_
  exact(dD .s hJ)
  refine bR ?_ ?_
  refine Oz .s ?_ (Iu 7 DM_Book_put (hr.mono (by decide)) (aM (dY hv (aJ 1) aU (fun _ _=>rfl)) (aM (kT (aM (aJ 10) aX)) aX)))
  refine fG (Av5.or vR) vB ?_ aU (dQ _)
  exact(aJ 10)
  refine bR ?_ ?_
  refine dG (i:=10) 0 .s ?_ ?_ ?_ ?_ ?_ ?_
  exact nd
  rfl
  first | exact bH rfl | exact bE rfl
  refine gG ?_ aU
  exact(aJ 10)
  rfl
  first | exact bH rfl | exact bE rfl | assumption
  refine cC ?_
  refine fU .a ?_ ?_ fW
  refine fG (CP hu) CM ?_ ?_ (dQ _)
  exact(pM (Oy D_Book_size (hr.mono (by decide)) (aJ 7)))
  refine gG ?_ ?_
  refine fK vQ vX rfl B.len jK ?_
  refine aM ?_ ?_ ?_
  exact(aJ 8)
  exact aX
  rfl
  refine fK (By rfl) Bg rfl B.min PyProof.Rows.boot_min ?_
  refine aM ?_ ?_ ?_
  exact(aJ 10)
  refine aM ?_ ?_ ?_
  exact aU
  exact aX
  rfl
  rfl
  refine cC ?_
  exact(dD .s hJ)
  intro _; rfl
  refine cC ?_
  refine dD .a ?_
  refine iD (jW hu) kQ ?_ ?_ (dQ _)
  refine gV (n:=1) ?_
  exact(pM (jF D_Book_rows (hr.mono (by decide)) (aJ 7) (aM (dY hv (aJ 1) aU (fun _ _=>rfl)) aX)))
  refine gV (n:=1) ?_
  refine fK (SA rfl) RS rfl B.sorted VA ?_
  refine aM ?_ ?_ ?_
  exact(aJ 8)
  exact aX
  rfl
end Aw
namespace L2
open PySem PySem.Spec PyProof.Rows
theorem Nz {F:SF}{T:aA->bB->Option bB}(P:Nat->bB->Prop){ds:List aA}{ρ:bB}(h0:P 0 ρ)
  (step : ∀ i d ρ,ds[i]?=some d->P i ρ -> ∃ ρ1 ρ2,T d ρ=some ρ1/\(F ρ1=some (.nx ρ2) \/ F ρ1=some (.ct ρ2))/\P (i+1) ρ2) : ∃ ρ',lT F T ds ρ=some (.nx ρ')/\P ds.length ρ':=by
 have go : ∀ (rest:List aA) (i:Nat) (ρ:bB),ds.drop i=rest->i+rest.length=ds.length->P i ρ -> ∃ ρ',lT F T rest ρ=some (.nx ρ')/\P ds.length ρ':=by
  intro rest
  induction rest with
  | nil=>
   intro i ρ _ hl p
   simp at hl
   subst hl
   exact⟨ρ,rfl,p⟩
  | cons d r ih=>
   intro i ρ hd hl p
   have hi:ds[i]?=some d:=by
    have:=congrArg (·[0]?) hd
    simpa using this
   obtain⟨ρ1,ρ2,e1,e2,p2⟩:=step i d ρ hi p
   have hd2:ds.drop (i+1)=r:=by
    have:=congrArg List.tail hd
    simpa using this
   obtain⟨ρ',e3,p3⟩:=ih (i+1) ρ2 hd2 (by simp at hl; omega) p2
   refine⟨ρ',?_,p3⟩
   show((T d ρ).bind fun ρ1=>(F ρ1).bind fun o=>match o with
    | .nx ρ'=>lT F T r ρ'
    | .ct ρ'=>lT F T r ρ'
    | .bk ρ'=>some (.nx ρ')
    | .rt d=>some (.rt d))=some (.nx ρ')
   rw[e1]
   rcases e2 with e2 | e2
   ·simp only[bM,e2]; exact e3
   ·simp only[bM,e2]; exact e3
 exact go ds 0 ρ (by simp) (by simp) h0
theorem LN {T:aA->List (Option aA)->Option (List (Option aA))}{t:BF}{f:EF}{ρ:List (Option aA)}(R:aA->aA->Prop) : ∀ (ds:List aA),(∀ d∈ds,∃ ρ1 y,T d ρ=some ρ1/\t ρ1=some true/\f ρ1=some y/\R d y) ->
  ∃ ys,lcD T t f ρ ds=some ys/\dI R ds ys
 | [],_=>⟨[],rfl,.nil⟩
 | d::r,h=>by
  obtain⟨ρ1,y,e1,e2,e3,hr⟩:=h d bY
  obtain⟨ys,e4,hp⟩:=LN R r fun d' m=>h d' (cA _ m)
  refine⟨y::ys,?_,.cons hr hp⟩
  show((T d ρ).bind fun ρ1=>(t ρ1).bind fun c=>if c=true then(f ρ1).bind fun y=>(lcD T t f ρ r).bind fun ys=>some (y::ys) else lcD T t f ρ r)=some (y::ys)
  simp[e1,e2,e3,e4]
theorem MR {T:aA->List (Option aA)->Option (List (Option aA))}{t:BF}{f:EF}{ρ:List (Option aA)}(g:aA->aA) : ∀ (ds:List aA),(∀ d∈ds,∃ ρ1,T d ρ=some ρ1/\t ρ1=some true/\f ρ1=some (g d))->lcD T t f ρ ds=some (ds.map g)
 | [],_=>rfl
 | d::r,h=>by
  obtain⟨ρ1,e1,e2,e3⟩:=h d bY
  have e4:=MR g r fun d' m=>h d' (cA _ m)
  show((T d ρ).bind fun ρ1=>(t ρ1).bind fun c=>if c=true then(f ρ1).bind fun y=>(lcD T t f ρ r).bind fun ys=>some (y::ys) else lcD T t f ρ r)=some (g d::r.map g)
  simp[e1,e2,e3,e4]
theorem Paired.mem_right {α β:Type}{R:α->β->Prop} : ∀ {as:List α} {bs:List β},dI R as bs -> ∀ b∈bs,∃ a∈as,R a b:=by
 intro as bs h
 induction h with
 | nil=>exact fun b m=>by simp at m
 | cons h _ ih=>
  intro b m
  rcases cJ.mp m with rfl | m
  ·exact⟨_,bY,h⟩
  ·obtain⟨a,ha,hr⟩:=ih b m
   exact⟨a,cA _ ha,hr⟩
theorem Jc {F G:SF}{ρ ρ':bB}(h:F ρ=some (.nx ρ')):bF F G ρ=G ρ':=by
 unfold bF
 rw[h]
 rfl
theorem Iz {F G:SF}{ρ:bB}{d:aA}(h:F ρ=some (.rt d)):bF F G ρ=some (.rt d):=by
 unfold bF
 rw[h]
 rfl
theorem Kl {m:Md}{fi:AF}{T:aA->bB->Option bB}{F:SF}{ρ:bB}{ds:List aA}{o:Out}(h:aV m fi ρ=some ds)(h2:lT F T ds ρ=some o):lU m fi T F ρ=some o:=by
 unfold lU
 rw[h]
 exact h2
theorem KG {np n:Nat}{body:SF}{ds:List aA}{d:aA}(hl:ds.length=np)(h:body (ds.map (fun d=>some (0,d))++lB (n - np) none)=some (.rt d)):fnD np n body ds=some d:=by
 unfold fnD
 rw[if_pos hl,h]
 rfl
theorem Ea {α β:Type}{R:α->β->Prop}{as:List α}{bs:List β}(h:dI R as bs):bs.length=as.length:=(nT h).symm
theorem TL {β:Type}{g:β->aA}{R:β->Prop} : ∀ (ys:List aA),(∀ y∈ys,∃ c,y=g c/\R c) -> ∃ cs:List β,ys=cs.map g /\ ∀ c∈cs,R c
 | [],_=>⟨[],rfl,fun _ m=>by simp at m⟩
 | y::r,h=>by
  obtain⟨c,e,hc⟩:=h y bY
  obtain⟨cs,e2,h2⟩:=TL r fun z m=>h z (cA _ m)
  refine⟨c::cs,by rw[e,e2]; rfl,fun x m=>?_⟩
  rcases cJ.mp m with rfl | m
  ·exact hc
  ·exact h2 x m
theorem ZT {ds:List aA}{k:Nat}(h:k≤ds.length):cutD ds none (some (k:Int))=ds.take k:=by
 unfold cutD
 rw[HT.Am1,HT.Aqx]
 simp[VC h]
theorem lG {n:Nat}(h:n≤100000):n≤sizeLine:=jM h (by decide)
theorem MM {n:Nat}(h:n≤100000):n<sizeLine:=Nat.lt_of_le_of_lt h (by decide)
noncomputable def letter (c:Nat):Bool:=decide (97≤c)&&decide (c≤122)
noncomputable def figure (c:Nat):Bool:=decide (48≤c)&&decide (c≤57)
noncomputable def iR (c:Nat):Bool:=letter c||figure c
theorem Ca {c:Nat}(h:letter c=true):iR c=true:=by simp[iR,h]
theorem PD {c:Nat}(h:iR c=true):c<128:=by
 simp[iR,letter,figure] at h
 omega
def XY (cs:List Nat):Prop:=∃ c r,cs=c::r/\letter c=true/\(∀ x∈cs,iR x=true)/\cs.length≤12
noncomputable abbrev iM (cs:List Nat):aD:=⟨cs.toArray⟩
def nameS (z:aD):Prop:=XY z.cps.toList
noncomputable def cR (c:Nat):aA:=.str ⟨#[c]⟩
noncomputable def SIGNS:aD:="abcdefghijklmnopqrstuvwxyz0123456789"
theorem signs_at : ∀ j<36,∃ c,SIGNS.cps.toList[j]?=some c/\iR c=true/\(j<26->letter c=true):=by decide +kernel
theorem NB {i:Int}(h0:0≤i)(h1:i<36) : ∃ c,gIx (.str SIGNS) (.int i)=some (cR c)/\iR c=true/\(i<26->letter c=true):=by
 obtain⟨j,rfl⟩:=nX h0
 obtain⟨c,e,h2,h3⟩:=signs_at j (by omega)
 refine⟨c,?_,h2,fun h=>h3 (by omega)⟩
 show(if SIGNS.length≤sizeLine then(atI SIGNS.cps.toList (j:Int)).bind fun c=>some (dH ⟨#[c]⟩) else none)=_
 rw[if_pos (by decide +kernel),sE e]
 rfl
theorem QM : ∀ cs:List Nat,pC (cs.map cR)=some (cs.map fun c=>(⟨#[c]⟩:aD))
 | []=>rfl
 | c::r=>by
  show((pC (r.map cR)).bind fun xs=>some ((⟨#[c]⟩:aD)::xs))=_
  rw[QM r]
  rfl
theorem NI : ∀ cs:List Nat,((cs.map fun c=>(⟨#[c]⟩:aD)).map (·.length)).sum=cs.length
 | []=>rfl
 | c::r=>by
  rw[dJ,dJ,List.sum_cons,NI r,eE]
  show 1+r.length=r.length+1
  omega
theorem MN {cs:List Nat}(h:cs.length≤1000):rQ (.str "") (.list (cs.map cR))=some (.str (iM cs)):=by
 show((pC (cs.map cR)).bind fun ys=>if (ys.map (·.length)).sum+ys.length*(AQ "").length≤16777216 then some (dH (kF (AQ "") ys)) else none)=_
 rw[QM]
 simp only[bM,NI,cP]
 rw[if_pos (by
  have:(AQ "").length=0:=by decide +kernel
  rw[this]; omega)]
 have:=QP cs
 have e:(AQ "")=(⟨#[]⟩:aD):=by decide +kernel
 rw[e,this]
noncomputable def cF (c k:Int):Int:=(c%2147483647*48271+k*k*69621+k+11)%2147483629*((c%2147483647*48271+k*k*69621+k+11)%2147483629)%2147483587
theorem fE (a:Int){b:Int}(h:0<b):0≤a%b/\a%b<b:=⟨Int.emod_nonneg _ (by omega),Int.emod_lt_of_pos _ h⟩
def Goes (F:SF)(ρ:bB)(P:Out->Prop):Prop:=∃ o,F ρ=some o/\P o
variable {F G:SF}{ρ:bB}{P:Out->Prop}{m:Md}
theorem AD {ρ':bB}(h:F ρ=some (.nx ρ'))(k:P (.nx ρ')):Goes F ρ P:=⟨_,h,k⟩
theorem dP {ρ':bB}(h:F ρ=some (.nx ρ'))(k:Goes G ρ' P):Goes (bF F G) ρ P:=by
 obtain⟨o,e,p⟩:=k
 exact⟨o,by rw[Jc h]; exact e,p⟩
theorem mV (I:bB->Prop)(h:Goes F ρ fun o=>∃ ρ',o = .nx ρ'/\I ρ')(k : ∀ ρ',I ρ'->Goes G ρ' P):Goes (bF F G) ρ P:=by
 obtain⟨o,e,ρ',rfl,i⟩:=h
 exact dP e (k ρ' i)
theorem Mc {d:aA}(h:F ρ=some (.rt d))(k:P (.rt d)):Goes (bF F G) ρ P:=⟨_,Iz h,k⟩
theorem KB {t:BF}{b:Bool}(h:bV m t ρ=some b)(k:Goes (if b=true then F else G) ρ P):Goes (sIf m t F G) ρ P:=by
 obtain⟨o,e,p⟩:=k
 refine⟨o,?_,p⟩
 show((bV m t ρ).bind fun b=>if b=true then F ρ else G ρ)=some o
 rw[h]
 cases b
 ·exact e
 ·exact e
theorem kP {t:BF}(h:bV m t ρ=some true)(k:Goes F ρ P):Goes (sIf m t F G) ρ P:=KB h k
theorem SR {t:BF}(h:bV m t ρ=some false)(k:Goes G ρ P):Goes (sIf m t F G) ρ P:=KB h k
theorem hU {t:BF}(h:bV m t ρ=some false):sIf m t F dW ρ=some (.nx ρ):=by
 unfold sIf
 rw[h]
 rfl
theorem mU (h:Goes F ρ fun o=>∃ d,o = .rt d/\P o):Goes (bF F G) ρ P:=by
 obtain⟨o,e,d,rfl,p⟩:=h
 exact Mc e p
theorem MV {n:Nat}{f:EF}{d:aA}(h:f (vA ρ)=some d)(hf:hX n d=true)(k:P (.rt d)):Goes (cK n .a f) ρ P:=⟨_,by
 unfold cK eV
 simp only[h,bM,hf,Bool.true_or,if_true],k⟩
theorem gJ {n:Nat}{f:EF}{d:aA}(h:f (vS ρ)=some d)(k:P (.rt d)):Goes (cK n .s f) ρ P:=⟨_,by
 unfold cK eV
 simp only[h,bM],k⟩
theorem TQ {i n:Nat}{f:EF}{d:aA}(h:eV n m f ρ=some d)(hl:i<ρ.length)(k:P (.nx (ρ.set i (some (n,d))))):Goes (cE i n m f) ρ P:=
 ⟨_,by unfold cE; rw[h]; simp only[bM,if_pos hl],k⟩
theorem LA {i n:Nat}{f:EF}{d:aA}(h:f (vS ρ)=some d)(hl:i<ρ.length)(k:P (.nx (ρ.set i (some (n,d))))):Goes (cE i n .s f) ρ P:=TQ h hl k
theorem Jf {i:Nat}(h:Goes F (frz i ρ) P):Goes (xV i F) ρ P:=h
theorem ZZ {n:Nat}(h:n≤1000000):BV 0 (n:Int)=some ((dF n).map fun(k:Nat)=>bA k):=by
 unfold BV
 rw[if_pos (by omega)]
 simp
theorem yJ {fa:AF}{ρ:List (Option aA)}{n:Nat}(h:fa ρ=some [.int n])(hn:n≤1000000):iR1 fa ρ=some ((dF n).map fun(k:Nat)=>bA k):=by
 have e:=ZZ hn
 generalize some ((dF n).map fun(k:Nat)=>bA k)=y at e ⊢
 rw[← e]
 unfold iR1
 rw[h,bM]
theorem avS {fi:AF}{ds:List aA}(h:fi (vS ρ)=some ds):aV .s fi ρ=some ds:=h
theorem TF {fi:AF}{T:aA->bB->Option bB}{ds:List aA}(I:Nat->bB->Prop)(h:aV m fi ρ=some ds)(h0:I 0 ρ)
  (step : ∀ i d ρ,ds[i]?=some d->I i ρ -> ∃ ρ1,T d ρ=some ρ1/\Goes F ρ1 fun o=>∃ ρ2,(o = .nx ρ2 \/ o = .ct ρ2)/\I (i+1) ρ2) (k : ∀ ρ',I ds.length ρ'->P (.nx ρ')):Goes (lU m fi T F) ρ P:=by
 obtain⟨ρ',e,i⟩:=Nz I h0 fun i d ρ hd p=>by
  obtain⟨ρ1,e1,o,e2,ρ2,e3,p2⟩:=step i d ρ hd p
  refine⟨ρ1,ρ2,e1,?_,p2⟩
  rcases e3 with rfl | rfl
  ·exact .inl e2
  ·exact .inr e2
 exact⟨_,Kl h e,k ρ' i⟩
theorem MJ {fi:AF}{T:aA->bB->Option bB}{n:Nat}(I:Nat->bB->Prop)(h:aV m fi ρ=some ((dF n).map fun(k:Nat)=>bA k))(h0:I 0 ρ)
  (step : ∀ (i:Nat) ρ,i<n->I i ρ -> ∃ ρ1,T (.int i) ρ=some ρ1/\Goes F ρ1 fun o=>∃ ρ2,(o = .nx ρ2 \/ o = .ct ρ2)/\I (i+1) ρ2) (k : ∀ ρ',I n ρ'->P (.nx ρ')):Goes (lU m fi T F) ρ P:=by
 refine TF I h h0 (fun i d ρ hd p=>?_) (by simpa using k)
 have hlt:i<n:=by
  have:=(fI.mp hd).1
  simpa using this
 rw[gZ,List.getElem?_range hlt] at hd
 have:bA (i:Int)=d:=by simpa using hd
 subst this
 exact step i ρ hlt p
theorem HD {np n:Nat}{body:SF}{ds:List aA}{Q:aA->Prop}(hl:ds.length=np)(h:Goes body (ds.map (fun d=>some (0,d))++lB (n - np) none) fun o=>∃ d,o = .rt d/\Q d) : ∃ d,fnD np n body ds=some d/\Q d:=by
 obtain⟨o,e,d,rfl,q⟩:=h
 exact⟨d,KG hl e,q⟩
theorem YC {cap:List (Option Nat)}{fi:AF}{T:aA->List (Option aA)->Option (List (Option aA))}{t:BF}{f:EF}{ρ:List (Option aA)}{ds:List aA}(R:aA->aA->Prop)(h1:fi ρ=some ds)(h2:ds.length≤100000)
  (h : ∀ d∈ds,∃ ρ1 y,T d (jR cap ρ)=some ρ1/\t ρ1=some true/\f ρ1=some y/\R d y) : ∃ ys,eLC cap fi T t f ρ=some (.list ys)/\dI R ds ys:=by
 obtain⟨ys,e,hp⟩:=LN R ds h
 refine⟨ys,?_,hp⟩
 unfold eLC
 rw[h1,bM,e,bM,if_pos (lG h2)]
theorem CO {cap:List (Option Nat)}{fi:AF}{T:aA->List (Option aA)->Option (List (Option aA))}{t:BF}{f:EF}{ρ:List (Option aA)}{ds:List aA}(g:aA->aA)(h1:fi ρ=some ds)(h2:ds.length≤100000)
  (h : ∀ d∈ds,∃ ρ1,T d (jR cap ρ)=some ρ1/\t ρ1=some true/\f ρ1=some (g d)):eLC cap fi T t f ρ=some (.list (ds.map g)):=by
 unfold eLC
 rw[h1,bM,MR g ds h,bM,if_pos (lG h2)]
theorem Mu {cap:List (Option Nat)}{fi:AF}{T:aA->List (Option aA)->Option (List (Option aA))}{t:BF}{f:EF}{ρ:List (Option aA)}{n:Nat}{β:Type}(g:β->aA)(R:β->Prop)(h1:fi ρ=some ((dF n).map fun(k:Nat)=>bA k))(h2:n≤100000)
  (h : ∀ k<n,∃ ρ1 y,T (.int (k:Nat)) (jR cap ρ)=some ρ1/\t ρ1=some true/\f ρ1=some (g y)/\R y) : ∃ ys:List β,eLC cap fi T t f ρ=some (.list (ys.map g))/\ys.length=n /\ ∀ y∈ys,R y:=by
 obtain⟨ys,e,hp⟩:=YC (fun _ y=>∃ x,y=g x/\R x) h1 (by simpa using h2) fun d m=>by
  obtain⟨k,hk,rfl⟩:=cL.mp m
  obtain⟨ρ1,y,a1,a2,a3,a4⟩:=h k (by simpa using hk)
  exact⟨ρ1,g y,a1,a2,a3,y,rfl,a4⟩
 obtain⟨xs,rfl,hx⟩:=TL ys fun y m=>by
  obtain⟨_,_,x,e,hx⟩:=L2.Paired.mem_right hp y m
  exact⟨x,e,hx⟩
 have:=Ea hp
 exact⟨xs,e,by simpa using this,hx⟩
end L2
namespace L2
open PySem PySem.Spec PyProof.Rows
variable {F G:SF}{ρ:bB}{P:Out->Prop}{m:Md}
theorem EL {f:EF}{ρ:List (Option aA)}{ds:List aA}(h:f ρ=some (.list ds)):iIt f ρ=some ds:=by
 unfold iIt
 rw[h]
 rfl
theorem Js {f:EF}{ρ:List (Option aA)}{ds:List aA}(h:f ρ=some (.tuple ds)):iIt f ρ=some ds:=by
 unfold iIt
 rw[h]
 rfl
theorem bZ {fa:AF}{g:List aA->Option aA}{ρ:List (Option aA)}{ds:List aA}{d:aA}(h:fa ρ=some ds)(h2:g ds=some d):aR g fa ρ=some d:=by
 unfold aR
 rw[h]
 exact h2
theorem bW {fa fb:EF}{g:aA->aA->Option aA}{ρ:List (Option aA)}{a b d:aA}(h:fa ρ=some a)(h2:fb ρ=some b)(h3:g a b=some d):eOp g fa fb ρ=some d:=by
 unfold eOp
 rw[h,h2]
 exact h3
def XW (d:aA):Prop:=(∃ z,d = .str z/\nameS z) \/ ∃ i,d = .int i
theorem EY : ∀ {ts:List aA},(∀ t∈ts,bJ t=true)->bP ts=true
 | [],_=>by simp[bP]
 | t::r,h=>by
  simp only[bP,rJ]
  exact⟨h t bY,EY fun x m=>h x (cA _ m)⟩
theorem zH {n:Nat} : ∀ {ts:List aA},(∀ t∈ts,t.depth≤n)->cW ts≤n
 | [],_=>by simp[cW]
 | t::r,h=>by
  simp only[cW]
  exact Nat.max_le.mpr ⟨h t bY,zH fun x m=>h x (cA _ m)⟩
theorem GI : ∀ {ts:List aA},(∀ t∈ts,noDict t=true)->noDicts ts=true
 | [],_=>by simp[noDicts]
 | t::r,h=>by
  simp only[noDicts,rJ]
  exact⟨h t bY,GI fun x m=>h x (cA _ m)⟩
structure Kn (kds:List (aA×aA)):Prop where
 fit : ∀ kd∈kds,(∃ z,kd.1 = .str z)/\XW kd.2
 once:(kds.map (·.1)).Nodup
theorem Kn.nil:Kn []:=⟨fun _ m=>by simp at m,by simp⟩
theorem Kn.int {kds:List (aA×aA)}(h:Kn kds)(i:Int):cQ kds (.inl i)=none:=by
 have:(kds.find? fun kd=>decide (cU kd.1=some (.inl i)))=none:=by
  rw[List.find?_eq_none]
  intro kd m
  obtain⟨⟨z,e⟩,_⟩:=h.fit kd m
  simp[e,cU]
 unfold cQ
 rw[this]
 rfl
theorem TR {kds:List (aA×aA)}(h : ∀ kd∈kds,kd.1 ≠ .none):plK kds=true:=by
 cases kds with
 | nil=>rfl
 | cons p r=>
  obtain⟨k,d⟩:=p
  have:=h (k,d) bY
  cases k <;> first | rfl | exact absurd rfl this
theorem Kn.pl {kds:List (aA×aA)}(h:Kn kds):plK kds=true:=TR fun kd m=>by
 obtain⟨⟨z,e⟩,_⟩:=h.fit kd m
 rw[e]
 exact fun q=>nomatch q
theorem ME : ∀ {kss:List (List aA)},(∀ k∈kss,bP k=true/\cW k≤6)->kL (kss.map gY)=some kss
 | [],_=>rfl
 | k::r,h=>by
  show(if bP k=true/\cW k≤6 then(kL (r.map gY)).bind fun kss=>some (k::kss) else none)=_
  rw[if_pos (h k bY),ME fun x m=>h x (cA _ m)]
  rfl
end L2
namespace L2
open PySem PySem.Spec PyProof.Rows
variable {F G:SF}{ρ:bB}{P:Out->Prop}{m:Md}
theorem NT {T:aA->List (Option aA)->Option (List (Option aA))}{t:BF}{f:EF}{ρ:List (Option aA)}{α:Type}{q:α->aA}(p:α->Bool)(g:α->aA) : ∀ (xs:List α),
  (∀ x∈xs,∃ ρ1,T (q x) ρ=some ρ1/\t ρ1=some (p x)/\(p x=true->f ρ1=some (g x)))->lcD T t f ρ (xs.map q)=some ((xs.filter p).map g)
 | [],_=>rfl
 | x::xs,h=>by
  obtain⟨ρ1,e1,e2,e3⟩:=h x bY
  have ih:=NT p g xs fun y m=>h y (cA _ m)
  show((T (q x) ρ).bind fun ρ1=>(t ρ1).bind fun c=>if c=true then(f ρ1).bind fun y=>(lcD T t f ρ (xs.map q)).bind fun ys=>some (y::ys) else lcD T t f ρ (xs.map q))=_
  rw[e1,bM,e2,bM,ih]
  cases hp:p x with
  | true=>rw[if_pos rfl,e3 hp,List.filter_cons_of_pos hp]; rfl
  | false=>rw[if_neg (by simp),List.filter_cons_of_neg (by simp[hp])]
theorem DX {cap:List (Option Nat)}{fi:AF}{T:aA->List (Option aA)->Option (List (Option aA))}{t:BF}{f:EF}{ρ:List (Option aA)}{α:Type}{xs:List α}{q:α->aA}(p:α->Bool)(g:α->aA)(h1:fi ρ=some (xs.map q))(h2:xs.length≤100000)
  (h : ∀ x∈xs,∃ ρ1,T (q x) (jR cap ρ)=some ρ1/\t ρ1=some (p x)/\(p x=true->f ρ1=some (g x))):eLC cap fi T t f ρ=some (.list ((xs.filter p).map g)):=by
 unfold eLC
 rw[h1,bM,NT p g xs h,bM,if_pos (lG (by simpa using h2))]
theorem ZJ {i n:Nat}{f:EF}{d:aA}(h:eV n m f ρ=some d)(hl:i<ρ.length):cE i n m f ρ=some (.nx (ρ.set i (some (n,d)))):=by
 obtain⟨o,e,q⟩:=TQ (P:=fun o=>o = .nx (ρ.set i (some (n,d)))) h hl rfl
 rw[e,q]
theorem jV {i n:Nat}{f:EF}{d:aA}(h:f (vS ρ)=some d)(hl:i<ρ.length)(k:Goes G (ρ.set i (some (n,d))) P):Goes (bF (cE i n .s f) G) ρ P:=dP (ZJ h hl) k
theorem eT {f:EF}{g:AF}{ρ:List (Option aA)}{d:aA}{ds:List aA}(h:f ρ=some d)(h2:g ρ=some ds):aI f g ρ=some (d::ds):=by
 unfold aI
 rw[h,h2]
 rfl
end L2
namespace L2
open PySem PySem.Spec PyProof.Rows
structure KnR (R:aA->Prop)(kds:List (aA×aA)):Prop where
 fit : ∀ kd∈kds,(∃ z,kd.1 = .str z)/\R kd.2
 once:(kds.map (·.1)).Nodup
variable {R:aA->Prop}{kds:List (aA×aA)}
theorem KnR.nil:KnR R []:=⟨fun _ m=>by simp at m,by simp⟩
theorem KnR.pl (h:KnR R kds):plK kds=true:=TR fun kd m=>by
 obtain⟨⟨z,e⟩,_⟩:=h.fit kd m
 rw[e]
 exact fun q=>nomatch q
noncomputable def aT (r:List Int):aA:=.tuple (r.map bA)
noncomputable def iQ (rs:List (List Int)):aA:=.list (rs.map aT)
theorem OE (r:List Int):bJ (aT r)=true:=by
 refine EY fun t m=>?_
 obtain⟨i,_,rfl⟩:=cL.mp m
 rfl
theorem Lf {ρ:bB}{P:Out->Prop}{i:Nat}{f g:EF}{d:aA}{j:Int}{jn:Nat}{ds:List aA}(h:f (vS ρ)=some d)(hg:getL i ρ=some ds)(hk:g (vS ρ)=some (.int j))(hj:ixN ds.length j=some jn)(k:P (.nx (ρ.set i (some (1,.list (ds.set jn d)))))):Goes (oB i .s f .s g) ρ P:=by
 refine⟨_,?_,k⟩
 have e1:eV 0 .s f ρ=some d:=h
 have e2:eV 0 .s g ρ=some (.int j):=hk
 unfold oB
 rw[e1,bM,hg,bM,e2,bM]
 show((ixN ds.length j).bind fun j=>some (Out.nx (ρ.set i (some (1,.list (ds.set j d))))))=_
 rw[hj]
 rfl
theorem TJ {ds:List aA}{f:EF}{lo hi:OF}{ρ:List (Option aA)}{l u:Option Int}(e1:f ρ=some (.list ds))(e2:lo ρ=some l)(e3:hi ρ=some u):nK f lo hi ρ=some (.list (cutD ds l u)):=by
 unfold nK
 rw[e1,bM,e2,bM,e3,bM]
theorem Kp {fd fk fx:EF}{ρ:List (Option aA)}{kds:List (aA×aA)}{kd x:aA}{key:aN}(h1:fd ρ=some (.dict kds))(h2:fk ρ=some kd)(ha:cU kd=some key)(h3:fx ρ=some x)(hp:plK kds=true:=by first | assumption | rfl | simp):HM fd fk fx ρ=some ((cQ kds key).getD x):=by
 unfold HM
 rw[h1,bM,h2,bM,h3,bM]
 show(if plK kds=true then(cU kd).bind fun k=>some ((cQ kds k).getD x) else none)=_
 rw[if_pos hp,ha]
 rfl
end L2
namespace L2
open PySem
theorem Cg {ks:List aN} : ∀ {acc:List aN} {k:aN},k∈ks.foldl fZ acc↔k∈acc \/ k∈ks:=by
 induction ks with
 | nil=>intro acc k; simp
 | cons x r ih=>
  intro acc k
  rw[AZ,ih]
  unfold fZ
  by_cases hx:x∈acc
  ·rw[if_pos hx]
   constructor
   ·rintro(h | h)
    ·exact .inl h
    ·exact .inr (cA _ h)
   ·rintro(h | h)
    ·exact .inl h
    ·rcases cJ.mp h with rfl | h
     ·exact .inl hx
     ·exact .inr h
  ·rw[if_neg hx,nU,dB,cJ,or_assoc]
theorem Ax {ks:List aN} : ∀ {acc:List aN},acc.Nodup->(ks.foldl fZ acc).Nodup:=by
 induction ks with
 | nil=>intro acc h; exact h
 | cons x r ih=>
  intro acc h
  rw[AZ]
  refine ih ?_
  unfold fZ
  by_cases hx:x∈acc
  ·rw[if_pos hx]; exact h
  ·rw[if_neg hx]
   refine IU.mpr ⟨h,by simp,fun a ha b hb=>?_⟩
   rw[dB.mp hb]
   exact fun e=>hx (e ▸ ha)
end L2
namespace Aw
open PySem L2
noncomputable abbrev s0 (d:aA):L2.Slot:=some (0,d)
def yE (n:Nat)(z:aD):Prop:=dE (.str z)=true/\z.length≤n
theorem Nc {n m:Nat}{y z:aD}(h:yE n y)(h2:yE m z)(hs:n+m≤100000):cS (.str y) (.str z)=some (.str (y++z)):=by
 show(if y.length+z.length≤sizeLine then some (dH (y++z)) else none)=_
 rw[if_pos (lG (by have:=h.2; have:=h2.2; omega))]
theorem Jy:yE 26 "abcdefghijklmnopqrstuvwxyz":=⟨by decide +kernel,by decide +kernel⟩
theorem MH (a b:Int):gEq (.int a) (.int b)=some (.bool (decide (a=b))):=by
 congr 2
theorem Jt {α:Type}(q:α->aA)(xs:List α)(l u:Option Int) : ∃ ys,cutD (xs.map q) l u=ys.map q/\ys.length≤xs.length/\(ys≠[]->xs≠[]):=by
 refine⟨(xs.drop (HT.sIx (xs.map q).length 0 l)).take (HT.sIx (xs.map q).length (xs.map q).length u - HT.sIx (xs.map q).length 0 l),?_,?_,?_⟩
 ·unfold cutD
  rw[← List.map_drop,← IW]
 ·simp; omega
 ·rintro h rfl
  simp at h
theorem yN (ds:List aA):eJ [.tuple ds]=some (.int ds.length):=by simp[eJ]
theorem jY {f:EF}{ρ:List (Option aA)}{b:Bool}(h:f ρ=some (.bool b)):bOf f ρ=some b:=by
 unfold bOf
 rw[h]
 rfl
theorem Bh {α:Type}[DecidableEq α]{xs ys:List α}(h1:xs.Nodup)(h2:ys.Nodup)(h : ∀ a,a∈xs↔a∈ys):xs.length=ys.length:=
 Nat.le_antisymm (VP h1 fun a m=>(h a).mp m) (VP h2 fun a m=>(h a).mpr m)
theorem qB {a b:EF}{ρ:List (Option aA)}{x y:Bool}(h:a ρ=some (.bool x))(h2:x=true->b ρ=some (.bool y)):gO a b ρ=some (.bool (x&&y)):=by
 unfold gO
 cases x with
 | true=>rw[h,bM,show asB (.bool true)=some true from rfl,bM,if_pos rfl,h2 rfl]; rfl
 | false=>rw[h,bM,show asB (.bool false)=some false from rfl,bM,if_neg (by simp)]; rfl
theorem uX {fa:AF}{ρ:List (Option aA)}{ds:List aA}(h:fa ρ=some ds)(hl:ds.length≤1000:=by simp):iK fa ρ=some (.tuple ds):=by
 unfold iK
 rw[h,bM,if_pos (lG (by omega))]
theorem uU {fa:AF}{ρ:List (Option aA)}{ds:List aA}(h:fa ρ=some ds)(hl:ds.length≤1000:=by simp):jQ fa ρ=some (.list ds):=by
 unfold jQ
 rw[h,bM,if_pos (lG (by omega))]
theorem gT (c k:Int)(h0:0≤k)(h1:k≤1000000):fC [.int c,.int k]=some (.int (cF c k)):=by
 have b:=fE (c%2147483647*48271+k*k*69621+k+11) (show(0:Int)<2147483629 by decide)
 have hk:k.natAbs<18446744073709551616:=by omega
 have hn:((c%2147483647*48271+k*k*69621+k+11)%2147483629).natAbs<18446744073709551616:=by omega
 simp[fC,QT,fnD,bF,cE,cK,eV,vS,eOp,aF,eC,outD,cS,fD,cH,g2C,hk,hn,cF]
theorem yP {ns:List Int}{k:Int}(h0:0≤k)(h1:k≤1000000) : ∃ c,lJ [.list (ns.map bA),.int k]=some (.int c):=by
 have hk:k.natAbs<18446744073709551616:=by omega
 have at_ : ∀ i:Int,0≤i->i<ns.length -> ∃ c,gIx (.list (ns.map bA)) (.int i)=some (.int c):=fun i a b=>by
  obtain⟨j,rfl⟩:=nX a
  have hj:j<ns.length:=by omega
  exact⟨ns[j],sE (by rw[gZ,lC hj]; rfl)⟩
 by_cases hl:k<(ns.length:Int)
 ·obtain⟨c,e⟩:=at_ k h0 hl
  exact⟨c,by simp[lJ,zR,fnD,bF,cE,cK,sIf,dW,eV,bV,vS,eOp,aF,eC,aR,aI,aL,bOf,asB,outD,cS,fD,cH,g2I,g2C,gLt,gGt,eJ,hl,e]⟩
 ·by_cases hz:(0:Int)<ns.length
  ·obtain⟨c,e⟩:=at_ (k*7%(ns.length:Int)) (fE _ hz).1 (fE _ hz).2
   have b:=fE (c*48271+k*7919) (show(0:Int)<2147483647 by decide)
   have hn:((c*48271+k*7919)%2147483647).natAbs<18446744073709551616:=by omega
   have hz':0<ns.length:=by omega
   exact⟨_,by simp[lJ,zR,fnD,bF,cE,cK,sIf,dW,eV,bV,vS,eOp,aF,eC,aR,aI,aL,bOf,asB,outD,cS,fD,cH,g2I,g2C,gLt,gGt,eJ,hl,hz',hk,e,hn]; rfl⟩
  ·have hz':ns=[]:=by
    cases ns with
    | nil=>rfl
    | cons a r=>exact absurd (by simp) hz
   have hn:(k*7919+5).natAbs<18446744073709551616:=by omega
   have hl' : ¬ k<0:=by omega
   subst hz'
   exact⟨_,by simp[lJ,zR,fnD,bF,cE,cK,sIf,dW,eV,bV,vS,eOp,aF,eC,aR,aI,aL,bOf,asB,outD,cS,fD,cH,g2I,g2C,gLt,gGt,eJ,hl',hk,hn]; rfl⟩
def baseOk (cs:List Nat)(s:Nat):Prop:=cs.length=s/\(∀ c∈cs,iR c=true) /\ ∃ c r,cs=c::r/\letter c=true
theorem baseOk.set {cs:List Nat}{s j c:Nat}(h:baseOk cs s)(hc:iR c=true)(hl:j=0->letter c=true):baseOk (cs.set j c) s:=by
 obtain⟨h1,h2,c0,r,e,h3⟩:=h
 refine⟨by simpa using h1,fun x m=>?_,?_⟩
 ·rcases VI m with q | q
  ·exact h2 x q
  ·rw[q]; exact hc
 ·subst e
  cases j with
  | zero=>exact⟨c,r,rfl,hl rfl⟩
  | succ j=>exact⟨c0,r.set j c,rfl,h3⟩
theorem baseOk.name {cs:List Nat}{s:Nat}(h:baseOk cs s)(hs:s≤12):nameS (iM cs):=by
 obtain⟨h1,h2,c0,r,e,h3⟩:=h
 exact⟨c0,r,e,h3,h2,by show cs.length≤12; omega⟩
theorem QF (cs:List Nat)(j c:Nat):(cs.map cR).set j (cR c)=(cs.set j c).map cR:=by rw[List.map_set]
theorem yY {α β:Type}{f:α->β} : ∀ {l:List α},(∀ a∈l,∀ b∈l,f a=f b->a=b)->l.Nodup->(l.map f).Nodup
 | [],_,_=>by simp
 | x::l,h,nd=>by
  rw[fS] at nd
  rw[dJ,fS]
  refine⟨fun m=>?_,yY (fun a ma b mb=>h a (cA _ ma) b (cA _ mb)) nd.2⟩
  obtain⟨y,my,e⟩:=cL.mp m
  exact nd.1 (h y (cA _ my) x bY e ▸ my)
noncomputable def sgn (j:Nat):Nat:=SIGNS.cps.toList.getD j 0
theorem DZ : ∀ j<36,SIGNS.cps.toList[j]?=some (sgn j)/\iR (sgn j)=true/\(j<26->letter (sgn j)=true):=by decide +kernel
theorem Jo : ∀ i<36,∀ j<36,sgn i=sgn j->i=j:=by decide +kernel
theorem Ac {i:Int}(h0:0≤i)(h1:i<36):gIx (.str SIGNS) (.int i)=some (cR (sgn i.toNat)):=by
 obtain⟨j,rfl⟩:=nX h0
 obtain⟨e,_,_⟩:=DZ j (by omega)
 show(if SIGNS.length≤sizeLine then(atI SIGNS.cps.toList (j:Int)).bind fun c=>some (dH ⟨#[c]⟩) else none)=_
 rw[if_pos (by decide +kernel),sE e]
 rfl
theorem NQ {a b:List Nat}(h:iM a=iM b):a=b:=by
 have h:a.toArray=b.toArray:=by injection h
 simpa using h
theorem Bi {cs:List Nat}{s k:Nat}(h:baseOk cs s)(hs:s≤12):nameS (iM (cs.take (k+1))):=by
 obtain⟨h1,h2,c0,r,e,h3⟩:=h
 refine⟨c0,r.take k,by subst e; rfl,h3,fun x m=>h2 x (IV m),?_⟩
 show(cs.take (k+1)).length≤12
 rw[pH]; omega
theorem Cm (zs:List aD):hX 1 (.list (zs.map dH))=true:=by
 simp[hX,fM]
theorem Nn (c:Int){n:Nat}(hn:n≤12) : ∃ zs:List aD,sV [.int c,.int n]=some (.list (zs.map dH))/\zs.length=n/\(∀ z∈zs,nameS z)/\zs.Nodup:=by
 suffices h : ∃ d,sV [.int c,.int n]=some d /\ ∃ zs:List aD,d = .list (zs.map dH)/\zs.length=n/\(∀ z∈zs,nameS z)/\zs.Nodup by
  obtain⟨_,e,zs,rfl,h⟩:=h
  exact⟨zs,e,h⟩
 refine HD rfl ?_
 refine dP (ρ':=[s0 (.int c),s0 (.int n),s0 (.str SIGNS),none,none,none,none,none]) (by simp[cE,eV,eC,SIGNS]) ?_
 refine dP (ρ':=[s0 (.int c),s0 (.int n),s0 (.str SIGNS),s0 (.int (1+cF c 1%12)),none,none,none,none]) (by simp[cE,eV,vS,eOp,aF,eC,aR,aI,aL,cS,cH,g2C,gT]) ?_
 have b1:=fE (cF c 1) (show(0:Int)<12 by decide)
 refine mV (fun ρ'=>∃ s:Nat,1≤s/\s≤12/\(cF c 2%3=0->s=12)/\ρ'=[s0 (.int c),s0 (.int n),s0 (.str SIGNS),s0 (.int s),none,none,none,none]) ?_ ?_
 ·by_cases h3:cF c 2%3=0
  ·refine AD (ρ':=[s0 (.int c),s0 (.int n),s0 (.str SIGNS),s0 (.int 12),none,none,none,none]) (by simp[cE,sIf,dW,eV,bV,vS,eOp,aF,eC,aR,aI,aL,bOf,asB,cH,g2C,gEq,dU,noDict,iZ,cO,gT,h3]) ⟨_,rfl,12,by omega,by omega,fun _=>rfl,rfl⟩
  ·refine AD (ρ':=[s0 (.int c),s0 (.int n),s0 (.str SIGNS),s0 (.int (1+cF c 1%12)),none,none,none,none]) (by simp[cE,sIf,dW,eV,bV,vS,eOp,aF,eC,aR,aI,aL,bOf,asB,cH,g2C,gEq,dU,noDict,iZ,cO,gT,h3]) ⟨_,rfl,(1+cF c 1%12).toNat,by omega,by omega,fun h=>absurd h h3,?_⟩
   have e:((1+cF c 1%12).toNat:Int)=1+cF c 1%12:=by omega
   rw[e]
 rintro _ ⟨s,hs1,hs12,hsp,rfl⟩
 refine mV (fun ρ'=>∃ cs:List Nat,cs.length=s/\(∀ x∈cs,iR x=true)/\ρ'=[s0 (.int c),s0 (.int n),s0 (.str SIGNS),s0 (.int s),some (1,.list (cs.map cR)),none,none,none]) ?_ ?_
 ·obtain⟨cs,e,hl,ho⟩:=Mu (cap:=[none,some 2,some 0]) (fi:=iR1 (aI (aF 3) aL)) (T:=gB 0) (t:=iC) (f:=(eOp gIx (aF 1) (eOp cH (aR fC (aI (aF 2) (aI (eOp cS (eC (.int 30)) (aF 0)) aL))) (eC (.int 36)))))
    (ρ:=vS [s0 (.int c),s0 (.int n),s0 (.str SIGNS),s0 (.int s),none,none,none,none]) (n:=s) cR (fun x=>iR x=true) (yJ rfl (by omega)) (by omega) (fun k hk=>by
    have b:=fE (cF c (30+k)) (show(0:Int)<36 by decide)
    obtain⟨x,e,h1,_⟩:=NB b.1 b.2
    have e2:=gT c (30+(k:Int)) (by omega) (by omega)
    refine⟨[some (.int k),some (.str SIGNS),some (.int c)],x,rfl,rfl,?_,h1⟩
    simp only[eOp,aF,eC,aR,aI,aL,cS,cH,g2C,bM,xM,xN,AV,e2,if_pos (show(0:Int)<36 by decide),e])
  exact LA e (by simp) ⟨_,rfl,cs,hl,ho,rfl⟩
 rintro _ ⟨cs0,hl,ho,rfl⟩
 refine mV (fun ρ'=>∃ cs:List Nat,baseOk cs s/\ρ'=[s0 (.int c),s0 (.int n),s0 (.str SIGNS),s0 (.int s),some (1,.list (cs.map cR)),none,none,none]) ?_ ?_
 ·have b:=fE (cF c 50) (show(0:Int)<26 by decide)
  obtain⟨x,e,h1,h2⟩:=NB b.1 (by omega)
  have hb:baseOk (cs0.set 0 x) s:=by
   refine⟨by simpa using hl,fun y m=>?_,?_⟩
   ·rcases VI m with q | q
    ·exact ho y q
    ·rw[q]; exact h1
   ·cases cs0 with
    | nil=>simp at hl; omega
    | cons a r=>exact⟨x,r,rfl,h2 b.2⟩
  have hix:ixN (cs0.map cR).length 0=some 0:=by
   unfold ixN
   rw[if_pos (by decide),if_pos (by rw[cP]; omega)]
   rfl
  refine AD (ρ':=[s0 (.int c),s0 (.int n),s0 (.str SIGNS),s0 (.int s),some (1,.list ((cs0.set 0 x).map cR)),none,none,none]) ?_ ⟨_,rfl,_,hb,rfl⟩
  simp only[oB,eV,vS,eOp,aF,eC,aR,aI,aL,cH,g2C,getL,dJ,xM,xN,AV,bM,gT c 50 (by omega) (by omega),if_pos (show(0:Int)<26 by decide),e,hix]
  rw[← QF]
  rfl
 rintro _ ⟨cs,hb,rfl⟩
 by_cases h3:cF c 2%3=0
 ·have hs:=hsp h3
  subst hs
  have e:=CO (cap:=[none,some 4]) (fi:=iR1 (aI (aF 1) aL)) (T:=gB 0) (t:=iC) (f:=(eOp rQ (eC (.str "")) (nK (aF 1) oN (oS (eOp cS (aF 0) (eC (.int 1)))))))
    (ρ:=vA [s0 (.int c),s0 (.int n),s0 (.str SIGNS),s0 (.int (12:Nat)),some (1,.list (cs.map cR)),none,none,none]) (ds:=(dF n).map fun(k:Nat)=>bA k) (fun d=>match d with | .int k=>.str (iM (cs.take (k.toNat+1))) | d=>d) (yJ rfl (by omega)) (by simp; omega) (fun d md=>by
    obtain⟨k,mk,rfl⟩:=cL.mp md
    have hk:=kJ.mp mk
    have e1:=ZT (ds:=cs.map cR) (k:=k+1) (by have:=hb.1; simp; omega)
    have e2:=MN (cs:=cs.take (k+1)) (by have:=hb.1; simp; omega)
    refine⟨[some (.int k),some (.list (cs.map cR))],rfl,rfl,?_⟩
    have e3:((k:Int)+1)=((k+1:Nat):Int):=by omega
    simp only[eOp,aF,eC,nK,oN,oS,cS,bM,xM,xN,AV,e3,e1]
    rw[← IW,e2]
    rfl)
  rw[gN] at e
  have e':((dF n).map ((fun d=>match d with | .int k=>dH (iM (cs.take (k.toNat+1))) | d=>d)∘fun(k:Nat)=>bA k))=(((dF n).map fun k=>iM (cs.take (k+1))).map dH):=by
   rw[gN]
   rfl
  rw[e'] at e
  refine mU (kP ?_ (MV e (Cm _) ⟨_,rfl,_,rfl,_,rfl,by simp,fun z m=>?_,?_⟩))
  ·simp[bV,vS,eOp,aF,eC,aR,aI,aL,bOf,asB,cH,g2C,gEq,dU,noDict,iZ,cO,gT,h3]
  ·obtain⟨k,_,rfl⟩:=cL.mp m
   exact Bi hb (by omega)
  ·refine yY (fun a ma b mb q=>?_) VG
   have ha:=kJ.mp ma
   have hb':=kJ.mp mb
   have:=congrArg xK (NQ q)
   rw[pH,pH,hb.1] at this
   omega
 ·refine dP (ρ':=[s0 (.int c),s0 (.int n),s0 (.str SIGNS),s0 (.int s),some (1,.list (cs.map cR)),none,none,none]) (hU (by simp[bV,vS,eOp,aF,eC,aR,aI,aL,bOf,asB,cH,g2C,gEq,dU,noDict,iZ,cO,gT,h3])) ?_
  have hs0:(0:Int)<s:=by omega
  have ba:=fE (cF c 3) hs0
  obtain⟨a,ha⟩:=nX ba.1
  have ha':a<s:=by omega
  refine dP (ρ':=[s0 (.int c),s0 (.int n),s0 (.str SIGNS),s0 (.int s),some (1,.list (cs.map cR)),s0 (.int a),none,none]) (by
   have:0<s:=by omega
   simp[cE,eV,vS,eOp,aF,eC,aR,aI,aL,cH,g2C,gT,this,ha]) ?_
  refine dP (ρ':=[s0 (.int c),s0 (.int n),s0 (.str SIGNS),s0 (.int s),some (1,.list (cs.map cR)),s0 (.int a),some (1,.list []),none]) rfl ?_
  obtain⟨w,hw⟩ : ∃ w:Nat,w=if a=0 then 26 else 36:=⟨_,rfl⟩
  have hw1:26≤w/\w≤36:=by subst hw; split <;> omega
  let sg:Nat->Nat:=fun k=>sgn ((cF c 4+k)%(w:Int)).toNat
  have sgb : ∀ k:Nat,((cF c 4+k)%(w:Int)).toNat<w:=fun k=>by
   have:=fE (cF c 4+k) (show(0:Int)<w by omega)
   omega
  have sg1 : ∀ k,iR (sg k)=true:=fun k=>(DZ _ (by have:=sgb k; omega)).2.1
  have sg2 : ∀ k,a=0->letter (sg k)=true:=fun k h0=>(DZ _ (by have:=sgb k; omega)).2.2 (by have:=sgb k; rw[if_pos h0] at hw; omega)
  refine mV (fun ρ'=>∃ (ds:List Nat) (x:L2.Slot),ρ'=[s0 (.int c),s0 (.int n),s0 (.str SIGNS),s0 (.int s),some (1,.list (ds.map cR)),s0 (.int a),some (1,.list (((dF n).map fun k=>iM (cs.set a (sg k))).map dH)),x]) ?_ ?_
  ·refine MJ (n:=n) (fun i ρ'=>∃ (ds:List Nat) (x:L2.Slot),baseOk ds s/\(∀ y,ds.set a y=cs.set a y)/\ρ'=[s0 (.int c),s0 (.int n),s0 (.str SIGNS),s0 (.int s),some (1,.list (ds.map cR)),s0 (.int a),some (1,.list (((dF i).map fun k=>iM (cs.set a (sg k))).map dH)),x]) ?_ ⟨cs,none,hb,fun _=>rfl,rfl⟩ ?_ ?_
   ·exact avS (yJ rfl (by omega))
   ·rintro i _ hi ⟨ds,x,hd,hset,rfl⟩
    generalize hZ:((dF i).map fun k=>iM (cs.set a (sg k)))=zs
    have hzl:zs.length=i:=by rw[← hZ]; simp
    refine⟨[s0 (.int c),s0 (.int n),s0 (.str SIGNS),s0 (.int s),some (1,.list (ds.map cR)),s0 (.int a),some (1,.list (zs.map dH)),s0 (.int i)],rfl,?_⟩
    have hcl:=hd.1
    have hix:ixN (ds.map cR).length (a:Int)=some a:=by
     unfold ixN
     rw[if_pos (by omega),if_pos (by rw[cP]; omega)]
     simp
    have ey:eV 0 .s (eOp gIx (aF 2) (eOp cH (eOp cS (aR fC (aI (aF 0) (aI (eC (.int 4)) aL))) (aF 7)) (eOp cS (eC (.int 26)) (eOp fD (eC (.int 10)) (aR sY (aI (eOp gGt (aF 5) (eC (.int 0))) aL)))))) [s0 (.int c),s0 (.int n),s0 (.str SIGNS),s0 (.int s),some (1,.list (ds.map cR)),s0 (.int a),some (1,.list (zs.map dH)),s0 (.int i)]=some (cR (sg i)):=by
     have hb1:=fE (cF c 4+i) (show(0:Int)<w by omega)
     have e:=Ac hb1.1 (by omega)
     show _=some (cR (sgn ((cF c 4+i)%(w:Int)).toNat))
     by_cases h0:a=0
     ·rw[if_pos h0] at hw
      subst hw
      have e:gIx (.str SIGNS) (.int ((cF c 4+i)%26))=some (cR (sgn ((cF c 4+i)%26).toNat)):=e
      simp[eV,vS,eOp,aF,eC,aR,aI,aL,cS,fD,cH,g2I,g2C,gGt,sY,gT,h0,e]
     ·rw[if_neg h0] at hw
      subst hw
      have e:gIx (.str SIGNS) (.int ((cF c 4+i)%36))=some (cR (sgn ((cF c 4+i)%36).toNat)):=e
      have h1:0<a:=by omega
      simp[eV,vS,eOp,aF,eC,aR,aI,aL,cS,fD,cH,g2I,g2C,gGt,sY,gT,h1,e]
    refine dP (ρ':=[s0 (.int c),s0 (.int n),s0 (.str SIGNS),s0 (.int s),some (1,.list ((cs.set a (sg i)).map cR)),s0 (.int a),some (1,.list (zs.map dH)),s0 (.int i)]) ?_ ?_
    ·unfold oB
     rw[ey,← hset,← QF]
     simp only[eV,vS,aF,getL,dJ,xM,xN,AV,bM,hix]
     rfl
    ·have hb':=hb.set (j:=a) (sg1 i) (sg2 i)
     have ej:=MN (cs:=cs.set a (sg i)) (by have:=hb.1; simp; omega)
     refine AD (ρ':=[s0 (.int c),s0 (.int n),s0 (.str SIGNS),s0 (.int s),some (1,.list ((cs.set a (sg i)).map cR)),s0 (.int a),some (1,.list ((zs++[iM (cs.set a (sg i))]).map dH)),s0 (.int i)]) ?_ ⟨_,.inl rfl,cs.set a (sg i),s0 (.int i),hb',fun y=>by rw[List.set_set],?_⟩
     ·have hz:(zs.map dH).length<sizeLine:=MM (by simp; omega)
      have ee:eOp rQ (eC (.str "")) (aF 4) (vA [s0 (.int c),s0 (.int n),s0 (.str SIGNS),s0 (.int s),some (1,.list ((cs.set a (sg i)).map cR)),s0 (.int a),some (1,.list (zs.map dH)),s0 (.int i)])=some (.str (iM (cs.set a (sg i)))):=by
       simp only[eOp,eC,aF,vA,dJ,rB,xM,xN,AV,bM,ej]
      unfold BN eV
      simp only[ee,bM,hX,fM,if_true,getL,xM,xN,if_pos hz]
      simp
     ·have e:((dF (i+1)).map fun k=>iM (cs.set a (sg k)))=zs++[iM (cs.set a (sg i))]:=by
       rw[List.range_succ,xJ,hZ]
       rfl
      rw[e]
   ·rintro _ ⟨ds,x,_,_,rfl⟩
    exact⟨_,rfl,ds,x,rfl⟩
  rintro _ ⟨ds,x,rfl⟩
  refine⟨_,rfl,_,rfl,_,rfl,by simp,fun z m=>?_,?_⟩
  ·obtain⟨k,_,rfl⟩:=cL.mp m
   exact(hb.set (sg1 k) (sg2 k)).name hs12
  ·refine yY (fun k mk k' mk' q=>?_) VG
   have hk:=kJ.mp mk
   have hk':=kJ.mp mk'
   have e:=congrArg (fun l=>l[a]?) (NQ q)
   have hcl:=hb.1
   simp only[kK (show a<cs.length by omega)] at e
   have e:=Jo _ (by have:=sgb k; omega) _ (by have:=sgb k'; omega) (eO e)
   have b1:=fE (cF c 4+k) (show(0:Int)<w by omega)
   have b2:=fE (cF c 4+k') (show(0:Int)<w by omega)
   have e:(cF c 4+k)%(w:Int)=(cF c 4+k')%(w:Int):=by omega
   by_cases h0:a=0
   ·rw[if_pos h0] at hw
    subst hw
    omega
   ·rw[if_neg h0] at hw
    subst hw
    omega
noncomputable abbrev AB:aD:="abcdefghijklmnopqrstuvwxyz"
noncomputable abbrev ABF:aD:="abcdefghijklmnopqrstuvwxyz0123456789"
theorem Oe : ∀ c<128,iR c=true->(false != !(rH ABF ⟨#[c]⟩ 0 ABF.length 1).isEmpty)=true:=by decide +kernel
theorem Dp : ∀ c<128,letter c=true->(false != !(rH AB ⟨#[c]⟩ 0 AB.length 1).isEmpty)=true:=by decide +kernel
theorem Mr {c:Nat}(h:iR c=true):gIn false (cR c) (.str ABF)=some (.bool true):=by
 show some (eX (false != !(rH ABF ⟨#[c]⟩ 0 ABF.length 1).isEmpty))=_
 rw[Oe c (PD h) h]
theorem Dj {c:Nat}(h:letter c=true):gIn false (cR c) (.str AB)=some (.bool true):=by
 show some (eX (false != !(rH AB ⟨#[c]⟩ 0 AB.length 1).isEmpty))=_
 rw[Dp c (PD (Ca h)) h]
theorem ZC:(AB++("0123456789" : aD))=ABF:=by decide +kernel
theorem Ay:yE 10 "0123456789":=⟨by decide +kernel,by decide +kernel⟩
theorem Kg:cS (.str AB) (.str "0123456789")=some (.str ABF):=by
 rw[Nc Jy Ay (by omega),ZC]
theorem OL : ∀ n:Nat,lR (lB n (.bool true))=some (lB n true)
 | 0=>rfl
 | n+1=>by
  show((lR (lB n (.bool true))).bind fun bs=>some (true::bs))=_
  rw[OL n]
  rfl
theorem QD {z:aD}(h:nameS z):kA [.str z]=some (.bool true):=by
 obtain⟨c,r,ez,hc,hs,hl⟩:=h
 have : ∃ d,kA [.str z]=some d/\d = .bool true:=by
  refine HD rfl ?_
  let R:bB:=[s0 (.str z)]
  have hz:z.length=z.cps.toList.length:=by simp[Str.length]
  have h1:1≤z.length:=by rw[hz,ez]; simp
  have h12:z.length≤12:=by rw[hz]; exact hl
  have el:aR eJ (aI (aF 0) aL) (vS R)=some (.int z.length):=bZ (ds:=[.str z]) rfl (by simp[eJ]; exact lG (by omega))
  have ec:kR gLe gLe (eC (.int 1)) (aR eJ (aI (aF 0) aL)) (eC (.int 12)) (vS R)=some (.bool true):=by
   unfold kR
   rw[el]
   show(if decide ((1:Int)≤(z.length:Int))=true then some (eX (decide ((z.length:Int)≤12))) else some (eX false))=_
   rw[decide_eq_true (by omega),if_pos rfl,decide_eq_true (by omega)]
  have g1:eUn (jD "str") (aF 0) (vS R)=some (.bool true):=rfl
  refine dP (ρ':=R) (hU ?_) ?_
  ·show bOr (fT (bOf _)) (fT (bOf _)) (vS R)=_
   simp only[bOr,fT,bOf,g1,ec,bM,asB]
   rfl
  refine gJ (d:=.bool (true&&true)) (qB ?_ fun _=>?_) ⟨_,rfl,rfl⟩
  ·have ix:gIx (.str z) (.int 0)=some (cR c):=by
    show(if z.length≤sizeLine then(atI z.cps.toList 0).bind fun c=>some (dH ⟨#[c]⟩) else none)=_
    have e0:atI z.cps.toList 0=some c:=sE (j:=0) (by rw[ez]; rfl)
    rw[if_pos (lG (by omega)),e0]
    rfl
   exact bW (a:=cR c) (b:=.str AB) (bW (a:=.str z) (b:=.int 0) rfl rfl ix) rfl (Dj hc)
  ·have lc:=CO (cap:=[none]) (fi:=iIt (aF 0)) (T:=gB 0) (t:=iC) (f:=eOp (gIn false) (aF 0) (eOp cS (eC (.str "abcdefghijklmnopqrstuvwxyz")) (eC (.str "0123456789")))) (ρ:=vS R) (ds:=z.cps.toList.map cR) (fun _=>.bool true) rfl (by simp; simp at hl; omega) (fun d md=>by
    obtain⟨x,mx,rfl⟩:=cL.mp md
    exact⟨[some (cR x)],rfl,rfl,bW (a:=cR x) (b:=.str ABF) rfl (bW (a:=.str AB) (b:=.str "0123456789") rfl rfl Kg) (Mr (hs x mx))⟩)
   refine bZ (eT lc rfl) ?_
   rw[List.map_const']
   show((lR (lB _ (.bool true))).bind fun bs=>some (eX (bs.all id)))=_
   rw[OL,bM]
   simp
 obtain⟨d,e,rfl⟩:=this
 exact e
end Aw
namespace L2
open PySem PySem.Spec PyProof.Rows
section
variable {K:aH}{H0 H B0:Hp}{P0:aB->Prop}{ρ:bB}{σ:St}{fp:Nat->List aB}{i j:Nat}
def AL (σ:St)(H:Hp)(i j:Nat)(k:aN):Prop:=∃ p ep xs q,σ[i]?=some (some (.ref p))/\H p=some (.dK ep xs)/\dC xs k=some (.ref q)/\σ[j]?=some (some (.ref q))
theorem AL.set {k:aN}{l:Nat}{v:V}(h:AL σ H i j k)(hi:l≠i)(hj:l≠j):AL (σ.set l (some v)) H i j k:=by
 obtain⟨p,ep,xs,q,h1,h2,h3,h4⟩:=h
 exact⟨p,ep,xs,q,by rw[jA hi]; exact h1,h2,h3,by rw[jA hj]; exact h4⟩
end
end L2
namespace Aw
open PySem L2
noncomputable def asI:aA->Int
 | .int i=>i
 | _=>0
theorem DC (r:List Int):(r.map bA).map asI=r:=by
 rw[gN]
 have:(asI∘bA)=id:=rfl
 rw[this,IY]
theorem qE (r:List Int):bP (r.map bA)=true:=EY fun t m=>by
 obtain⟨i,_,rfl⟩:=cL.mp m
 rfl
theorem sQ (r:List Int):cW (r.map bA)≤1:=zH fun t m=>by
 obtain⟨i,_,rfl⟩:=cL.mp m
 simp[iZ]
theorem Of (r:List Int):dU (aT r)=true:=by
 have h1:noDicts (r.map bA)=true:=GI fun t m=>by
  obtain⟨i,_,rfl⟩:=cL.mp m
  rfl
 have h2:cW (r.map bA)≤1:=zH fun t m=>by
  obtain⟨i,_,rfl⟩:=cL.mp m
  simp[iZ]
 simp[dU,aT,noDict,h1,iZ]
 omega
theorem yK {a b:List Int}(h:aT a=aT b):a=b:=by
 have h:=AU h
 exact(DC a).symm.trans ((congrArg (List.map asI) h).trans (DC b))
theorem Kv (a b:List Int):cO (aT a) (aT b)=decide (a=b):=by
 rw[EO _ _ (OE a) (OE b),decide_eq_decide]
 exact⟨yK,fun e=>by rw[e]⟩
noncomputable def srt (R:List (List Int)):List (List Int):=(jS (R.map fun r=>r.map bA)).map fun k=>k.map asI
theorem Be (R:List (List Int)):kL (R.map aT)=some (R.map fun r=>r.map bA):=by
 have:=ME (kss:=R.map fun r=>r.map bA) fun k m=>by
  obtain⟨r,_,rfl⟩:=cL.mp m
  have:=sQ r
  exact⟨qE r,by omega⟩
 rw[gN] at this
 exact this
theorem PP : ∀ (a b:List Int),a.length=b.length->gR (a.map bA) (b.map bA)=true
 | [],[],_=>rfl
 | x::a,y::b,h=>PP a b (by simpa using h)
 | [],_::_,h=>by simp at h
 | _::_,[],h=>by simp at h
theorem Jw {R:List (List Int)}{n:Nat}(hn:1≤n)(hw : ∀ r∈R,r.length=n)(hl:R.length<64):Jg [iQ R]=some (iQ (srt R)):=by
 show((kL (R.map aT)).bind fun kss=>if okT kss=true/\kss.length<64 then some (PyData.list ((jS kss).map gY)) else none)=_
 rw[Be,bM]
 have ok:okT (R.map fun r=>r.map bA)=true:=by
  unfold okT
  rw[VW]
  refine .inr (lN.mpr ⟨iA.mpr fun k mk=>iA.mpr fun k' mk'=>?_,iA.mpr fun k mk=>?_⟩)
  ·obtain⟨a,ma,rfl⟩:=cL.mp mk
   obtain⟨b,mb,rfl⟩:=cL.mp mk'
   exact PP a b ((hw a ma).trans (hw b mb).symm)
  ·obtain⟨a,ma,rfl⟩:=cL.mp mk
   have:=hw a ma
   cases a with
   | nil=>simp at this; omega
   | cons x r=>rfl
 rw[if_pos ⟨ok,by rw[cP]; exact hl⟩]
 unfold iQ srt
 rw[gN]
 congr 2
 refine tZ fun k mk=>?_
 obtain⟨a,_,rfl⟩:=cL.mp ((GH _).mem_iff.mp mk)
 show _=gY (((a.map bA).map asI).map bA)
 rw[DC]
structure Bk (kds:List (aA×aA))(B:aD->List (List Int))(wd:aD->Nat):Prop where
 pl:plK kds=true
 at_ : ∀ t,(cQ kds (.inr t)).getD (.list [])=iQ (B t)
 few : ∀ t,(B t).length<64
 pos : ∀ t,1≤wd t
 wid : ∀ t,∀ r∈B t,r.length=wd t
theorem Bk.get {kds:List (aA×aA)}{B:aD->List (List Int)}{wd:aD->Nat}(b:Bk kds B wd){fd fk:EF}{ρ:List (Option aA)}{t:aD}(h1:fd ρ=some (.dict kds))(h2:fk ρ=some (.str t)):HM fd fk (jQ aL) ρ=some (iQ (B t)):=by
 rw[Kp h1 h2 rfl rfl b.pl,b.at_]
theorem oA (c:Int)(n:Nat)(h:0<n):cH (.int c) (.int n)=some (.int (c%n)):=by
 show(if 0<(n:Int) then some (bA (c%(n:Int))) else none)=_
 rw[if_pos (by omega)]
theorem KM {a b:Int}(h:a.natAbs<2 ^ 64):fD (.int a) (.int b)=some (.int (a*b)):=by
 show(if (a.natAbs<2 ^ 64 \/ b.natAbs<2 ^ 64) \/ (a.natAbs<2 ^ 1000/\b.natAbs<2 ^ 1000) then some (bA (a*b)) else none)=_
 rw[if_pos (.inl (.inl h))]
theorem XX {a b:Int}(h:a.natAbs<2 ^ 200)(h2:b.natAbs<2 ^ 200):fD (.int a) (.int b)=some (.int (a*b)):=by
 show(if (a.natAbs<2 ^ 64 \/ b.natAbs<2 ^ 64) \/ (a.natAbs<2 ^ 1000/\b.natAbs<2 ^ 1000) then some (bA (a*b)) else none)=_
 have hp:(2:Nat) ^ 200≤2 ^ 1000:=Nat.pow_le_pow_right (by decide) (by decide)
 rw[if_pos (.inr ⟨fL h hp,fL h2 hp⟩)]
theorem vF {k:Nat}(h:k≤100):qP (.int 10) (.int k)=some (.int (10 ^ k)):=by
 show(if 0≤(k:Int)/\(k:Int)≤1000000/\(10:Int).natAbs<2 ^ 64 then some (bA (10 ^ (k:Int).toNat)) else none)=_
 rw[if_pos ⟨by omega,by omega,by decide⟩]
 rfl
theorem lW {a b:BF}{ρ:List (Option aA)}{x y:Bool}(h:a ρ=some x)(h2:x=false->b ρ=some y):bOr a b ρ=some (x||y):=by
 unfold bOr
 rw[h]
 cases x with
 | true=>rfl
 | false=>exact h2 rfl
theorem mW {f:EF}{ρ:List (Option aA)}{x:Bool}(h:f ρ=some (.bool x)):fT (bOf f) ρ=some (!x):=by
 unfold fT
 rw[jY h]
 rfl
theorem CH {xs ys:List aA}(h:xs.length+ys.length≤1000):oE (.tuple xs) (.tuple ys)=some (.tuple (xs++ys)):=by
 show(if xs.length+ys.length≤sizeLine then some (gY (xs++ys)) else none)=_
 rw[if_pos (lG (by omega))]
theorem yF {ds:List aA}{f:EF}{lo hi:OF}{ρ:List (Option aA)}{l u:Option Int}(e1:f ρ=some (.tuple ds))(e2:lo ρ=some l)(e3:hi ρ=some u):nG f lo hi ρ=some (.tuple (cutD ds l u)):=by
 unfold nG
 rw[e1,bM,e2,bM,e3,bM]
theorem Fc (R:List (List Int)):noDicts (R.map aT)=true:=GI fun t m=>by
 obtain⟨r,_,rfl⟩:=cL.mp m
 have:=Of r
 unfold dU at this
 exact(lN.mp this).1
theorem Ky {n j:Nat}(h:j<n):ixN n (j:Int)=some j:=by
 unfold ixN
 simp
 omega
theorem gQ {np n:Nat}{body:SF}{ds:List aA}{d:aA}(hl:ds.length=np)(h:Goes body (ds.map (fun d=>some (0,d))++lB (n - np) none) fun o=>o = .rt d):fnD np n body ds=some d:=by
 obtain⟨o,e,rfl⟩:=h
 exact KG hl e
theorem NL {α:Type}(f:α->Bool) : ∀ xs:List α,lR (xs.map fun x=>.bool (f x))=some (xs.map f)
 | []=>rfl
 | x::xs=>by
  show((lR (xs.map fun x=>.bool (f x))).bind fun bs=>some (f x::bs))=_
  rw[NL f xs]
  rfl
theorem TM {α:Type}(f:α->Bool)(xs:List α):qQ [.list (xs.map fun x=>.bool (f x))]=some (.bool (xs.all f)):=by
 show((lR (xs.map fun x=>.bool (f x))).bind fun bs=>some (eX (bs.all id)))=_
 rw[NL,bM,List.all_map]
 rfl
theorem OQ : ∀ zs:List aD,qO (zs.map dH)=some (zs.map iH)
 | []=>rfl
 | z::zs=>by
  show((cU (.str z)).bind fun k=>(qO (zs.map dH)).bind fun ks=>some (k::ks))=_
  rw[OQ zs]
  rfl
noncomputable def hE (t:aD×Nat):aA:=.tuple [.str t.1,.int t.2]
def BW (t:aD×Nat):Prop:=nameS t.1/\1≤t.2/\t.2≤6
noncomputable def tlE (d:aA):Option aA:=gO (aR qF (aI (aF 0) aL)) (gO (aR kA (aI (eOp gIx (aF 0) (eC (.int 0))) aL)) (aR mZ (aI (eOp gIx (aF 0) (eC (.int 1))) aL))) [some d]
theorem Bas {ds:List aA}:bV .s (bOr (fT (bOf (eUn (jD "list") (aF 0)))) (bOf (eOp gGt (aR eJ (aI (aF 0) aL)) (eC (.int 12))))) [s0 (.list ds)]=some (decide (12<ds.length)):=by
 have e:eOp gGt (aR eJ (aI (aF 0) aL)) (eC (.int 12)) (vS [s0 (.list ds)])=some (.bool (decide (12<ds.length))):=by
  refine bW (a:=.int ds.length) (b:=.int 12) (bZ (ds:=[.list ds]) rfl rfl) rfl ?_
  show some (eX (decide ((ds.length:Int) > 12)))=_
  congr 2
  rw[decide_eq_decide]
  omega
 exact lW (x:=false) (mW (x:=true) rfl) (fun _=>jY e)
theorem Ab {ds:List aA}(hl:ds.length≤12)(o:aA->Bool)(ho : ∀ d∈ds,tlE d=some (.bool (o d))):bV .s (fT (bOf (aR qQ (aI (eLC [none] (iIt (aF 0)) (gB 0) iC (gO (aR qF (aI (aF 0) aL)) (gO (aR kA (aI (eOp gIx (aF 0) (eC (.int 0))) aL)) (aR mZ (aI (eOp gIx (aF 0) (eC (.int 1))) aL))))) aL)))) [s0 (.list ds)]=some (!(ds.all o)):=by
 have lc:=DX (cap:=[none]) (fi:=iIt (aF 0)) (T:=gB 0) (t:=iC) (f:=gO (aR qF (aI (aF 0) aL)) (gO (aR kA (aI (eOp gIx (aF 0) (eC (.int 0))) aL)) (aR mZ (aI (eOp gIx (aF 0) (eC (.int 1))) aL)))) (ρ:=vS [s0 (.list ds)]) (xs:=ds) (q:=id) (fun _=>true) (fun d=>.bool (o d)) (by rw[IY]; exact EL rfl) (by omega) (fun d md=>⟨[some d],rfl,rfl,fun _=>ho d md⟩)
 rw[IZ.mpr (by simp)] at lc
 exact mW (bZ (eT lc rfl) (TM o ds))
theorem Bj (i:Int):mZ [.int i]=some (.bool (decide (1≤i/\i≤6))):=by
 show fnD 1 1 RB [.int i]=_
 refine gQ rfl (gJ (d:=.bool (decide (1≤i/\i≤6))) ?_ rfl)
 have:kR gLe gLe (eC (.int 1)) (aF 0) (eC (.int 6)) (vS [s0 (.int i)])=some (.bool (decide (1≤i/\i≤6))):=by
  show(if decide (1≤i)=true then some (eX (decide (i≤6))) else some (.bool false))=_
  by_cases h:1≤i
  ·rw[if_pos (by simpa using h)]
   simp[h]
  ·rw[if_neg (by simpa using h)]
   simp[h]
 exact qB (x:=true) (bZ (ds:=[.int i]) rfl rfl) fun _=>this
theorem Ku {a b:aA}{x y:Bool}(h1:kA [a]=some (.bool x))(h2:x=true->mZ [b]=some (.bool y)):tlE (.tuple [a,b])=some (.bool (x&&y)):=
 qB (x:=true) (bZ (ds:=[.tuple [a,b]]) rfl rfl) fun _=>qB (bZ (ds:=[a]) rfl h1) fun z=>bZ (ds:=[b]) rfl (h2 z)
theorem Mf {t:aD×Nat}(h:BW t):tlE (hE t)=some (.bool true):=by
 obtain⟨h1,h2,h3⟩:=h
 refine Ku (x:=true) (y:=true) (QD h1) fun _=>(Bj t.2).trans ?_
 rw[decide_eq_true (by omega)]
theorem MB : ∀ (ks acc:List aN),(ks.foldl fZ acc).length≤acc.length+ks.length
 | [],acc=>by simp
 | k::ks,acc=>by
  rw[AZ]
  have h:=MB ks (fZ acc k)
  have h2:(fZ acc k).length≤acc.length+1:=by
   unfold fZ
   split <;> simp
  simp only[eE]
  omega
theorem TH : ∀ (ks acc:List aN),(ks.foldl fZ acc).length=acc.length+ks.length->ks.Nodup /\ ∀ k∈ks,k∉acc
 | [],acc,_=>⟨.nil,fun k m=>by simp at m⟩
 | k::ks,acc,h=>by
  rw[AZ] at h
  have h1:=MB ks (fZ acc k)
  simp only[eE] at h
  by_cases c:k∈acc
  ·have:fZ acc k=acc:=if_pos c
   rw[this] at h1
   rw[this] at h
   omega
  ·have e:fZ acc k=acc++[k]:=if_neg c
   rw[e] at h
   obtain⟨h2,h3⟩:=TH ks (acc++[k]) (by simp; omega)
   refine⟨fS.mpr ⟨fun m=>h3 k m (by simp),h2⟩,fun x m=>?_⟩
   rcases cJ.mp m with rfl | m
   ·exact c
   ·exact fun z=>h3 x m (by simp[z])
theorem Oh (ks:List aN):(eZ ks).length=ks.length↔ks.Nodup:=by
 have hm : ∀ x,x∈eZ ks↔x∈ks:=fun x=>by unfold eZ; rw[Cg]; simp
 have nd:(eZ ks).Nodup:=Ax (by simp)
 exact⟨fun h=>(TH ks [] (by rw[List.length_nil,Nat.zero_add]; exact h)).1,fun h=>Bh nd h hm⟩
theorem Af {ts:List (aD×Nat)}(hl:ts.length≤12)(ht : ∀ t∈ts,BW t) : ∃ b:Bool,oZ [.list (ts.map hE)]=some (.bool b)/\(b=true↔(ts.map (·.1)).Nodup):=by
 refine⟨decide ((eZ ((ts.map (·.1)).map iH)).length=ts.length),?_,?_⟩
 ·refine gQ rfl (dP (hU (Bas.trans (by rw[decide_eq_false (by rw[cP]; omega)]))) ?_)
  refine dP (hU ((Ab (by rw[cP]; omega) (fun _=>true) fun d m=>?_).trans ?_)) ?_
  ·obtain⟨t,mt,rfl⟩:=cL.mp m
   exact Mf (ht t mt)
  ·rw[show(ts.map hE).all (fun _=>true)=true by simp]
   rfl
  ·have lc:=DX (cap:=[none]) (fi:=iIt (aF 0)) (T:=gB 0) (t:=iC) (f:=eOp gIx (aF 0) (eC (.int 0))) (ρ:=vS [s0 (.list (ts.map hE))]) (xs:=ts) (q:=hE) (fun _=>true) (fun t=>.str t.1) (EL rfl) (by omega) (fun t mt=>⟨[some (hE t)],rfl,rfl,fun _=>rfl⟩)
   rw[IZ.mpr (by simp)] at lc
   refine gJ (d:=.bool (decide ((eZ ((ts.map (·.1)).map iH)).length=ts.length))) ?_ rfl
   refine bW (a:=.int ((eZ ((ts.map (·.1)).map iH)).length)) (b:=.int ts.length) (bZ (eT lc rfl) ?_) (bZ (ds:=[.list (ts.map hE)]) rfl ?_) ?_
   ·show((qO (ts.map fun t=>dH t.1)).bind fun ks=>if ks.length≤4000 then some (bA (eZ ks).length) else none)=_
    rw[show(ts.map fun t=>dH t.1)=(ts.map (·.1)).map dH by rw[gN]; rfl,OQ,bM,if_pos (by simp; omega)]
   ·show some (bA (ts.map hE).length)=_
    rw[cP]
   ·show some (eX (decide (((eZ ((ts.map (·.1)).map iH)).length:Int)=ts.length)))=_
    congr 2
    rw[decide_eq_decide]
    omega
 ·rw[decide_eq_true_iff]
  have:=Oh ((ts.map (·.1)).map iH)
  rw[cP,cP] at this
  rw[this]
  constructor
  ·intro h
   exact(tY.mp h).imp fun h z=>h (by rw[z])
  ·intro h
   exact tY.mpr (h.imp fun h z=>h (Sum.inr.inj z))
end Aw
namespace L2
open PySem PySem.Spec PyProof.Rows PySem.NumText
noncomputable def tx (l:List Nat):aD:=⟨l.toArray⟩
theorem ZQ (l:List Nat):(tx l).length=l.length:=by simp[tx,Str.length]
noncomputable def JO (n:Nat):List Nat:=(Nat.toDigits 10 n).map Char.toNat
noncomputable def WV (i:Int):List Nat:=if i<0 then 45::JO i.natAbs else JO i.natAbs
noncomputable def jn:List (List Nat)->List Nat
 | []=>[]
 | [w]=>w
 | w::v::r=>w++32::jn (v::r)
def good (w:List Nat):Prop:=∃ v:Int,v.natAbs<10 ^ 70/\w=WV v
def plain (w:List Nat):Prop:=∀ c∈w,c<128
end L2
namespace Aw
open PySem L2
def nd0:aA->Prop
 | .dict k=>k=[]
 | _=>True
noncomputable def SU:aA->Bool
 | .int _=>true
 | _=>false
theorem Ob (d:aA)(hd:nd0 d):oX [d]=some (.bool (SU d)):=by
 cases d with
 | dict k=>cases(show k=[] from hd); rfl
 | _=>rfl
theorem len_str {w:List Nat}(hl:w.length≤100000):eJ [.str (tx w)]=some (.int w.length):=by
 show(if (tx w).length≤sizeLine then some (bA ((tx w).length:Nat)) else none)=_
 rw[ZQ,if_pos (lG hl)]
theorem DD {c n:Int}(h:0<n):cH (.int c) (.int n)=some (.int (c%n)):=by
 show(if 0<n then some (bA (c%n)) else none)=_
 rw[if_pos h]
noncomputable def kM:aA->Bool
 | .int i=>decide (i.natAbs<10 ^ 70)
 | _=>false
theorem XI:fD (.int (10 ^ 60)) (.int (10 ^ 10))=some (.int (10 ^ 70)):=(XX (by decide) (by decide)).trans (congrArg (fun x=>some (bA x)) (by decide +kernel:(10:Int) ^ 60*10 ^ 10=10 ^ 70))
theorem Oo (d:aA)(hd:nd0 d):sR [d]=some (.bool (kM d)):=by
 refine gQ rfl ?_
 have hw:aR oX (aI (aF 0) aL) (vS [s0 d])=some (.bool (SU d)):=bZ (ds:=[d]) rfl (Ob d hd)
 cases d with
 | int i=>
  refine gJ (d:=.bool (true&&kM (.int i))) (qB hw fun _=>?_) rfl
  refine bW (a:=.int (if i<0 then -i else i)) (b:=.int (10 ^ 70)) (bZ (ds:=[.int i]) rfl rfl) (bW (a:=.int (10 ^ 60)) (b:=.int (10 ^ 10)) (bW (a:=.int 10) (b:=.int 60) rfl rfl (vF (k:=60) (by omega))) (bW (a:=.int 10) (b:=.int 10) rfl rfl (vF (k:=10) (by omega))) XI) ?_
  show some (eX (decide ((if i<0 then -i else i)<10 ^ 70)))=some (eX (decide (i.natAbs<10 ^ 70)))
  congr 2
  rw[decide_eq_decide]
  split <;> omega
 | _=>exact gJ (d:=.bool (false&&true)) (qB hw fun h=>nomatch h) rfl
noncomputable def wV:aA->Bool
 | .tuple ds=>decide (1≤ds.length/\ds.length≤6)&&ds.all kM
 | _=>false
theorem SW {d:aA}(h : ∀ ds,d = .tuple ds->ds.length≤1000 /\ ∀ x∈ds,nd0 x)(h0:nd0 d):mB [d]=some (.bool (wV d)):=by
 refine gQ rfl ?_
 cases d with
 | tuple ds=>
  obtain⟨hl,hn⟩:=h ds rfl
  let R:bB:=[s0 (.tuple ds)]
  have el:aR eJ (aI (aF 0) aL) (vS R)=some (.int ds.length):=bZ (ds:=[.tuple ds]) rfl (yN ds)
  have ec:kR gLe gLe (eC (.int 1)) (aR eJ (aI (aF 0) aL)) (eC (.int 6)) (vS R)=some (.bool (decide (1≤ds.length/\ds.length≤6))):=by
   unfold kR
   rw[el]
   show(if decide ((1:Int)≤(ds.length:Int))=true then some (eX (decide ((ds.length:Int)≤6))) else some (eX false))=_
   by_cases h1:1≤ds.length
   ·rw[decide_eq_true (by omega),if_pos rfl]
    congr 2
    rw[decide_eq_decide]
    omega
   ·rw[decide_eq_false (by omega),if_neg (by simp),decide_eq_false (by omega)]
  have t1:=lW (a:=fT (bOf (eUn (jD "tuple") (aF 0)))) (b:=fT (bOf (kR gLe gLe (eC (.int 1)) (aR eJ (aI (aF 0) aL)) (eC (.int 6))))) (ρ:=vS R) (mW (x:=true) rfl) (fun _=>mW ec)
  show Goes _ _ fun o=>o = .rt (.bool (decide (1≤ds.length/\ds.length≤6)&&ds.all kM))
  cases hb:decide (1≤ds.length/\ds.length≤6) with
  | false=>
   rw[hb] at t1
   exact mU (kP t1 (gJ (d:=.bool false) rfl ⟨_,rfl,rfl⟩))
  | true=>
   rw[hb] at t1
   refine dP (hU t1) ?_
   have lc:=CO (cap:=[none]) (fi:=iIt (aF 0)) (T:=gB 0) (t:=iC) (f:=aR sR (aI (aF 0) aL)) (ρ:=vS R) (ds:=ds) (fun d=>.bool (kM d)) (Js rfl) (by omega) (fun d md=>⟨[some d],rfl,rfl,bZ (ds:=[d]) rfl (Oo d (hn d md))⟩)
   exact gJ (d:=.bool (true&&ds.all kM)) (bZ (eT lc rfl) (TM kM ds)) rfl
 | dict k=>cases(show k=[] from h0); exact mU (kP rfl (gJ (d:=.bool false) rfl ⟨_,rfl,rfl⟩))
 | _=>exact mU (kP rfl (gJ (d:=.bool false) rfl ⟨_,rfl,rfl⟩))
def RwG (r:List Int):Prop:=1≤r.length/\r.length≤6 /\ ∀ v∈r,v.natAbs<10 ^ 70
theorem RwG.b {r:List Int}(h:RwG r):wV (aT r)=true:=by
 show(decide (1≤(r.map bA).length/\(r.map bA).length≤6)&&(r.map bA).all kM)=true
 rw[cP,decide_eq_true ⟨h.1,h.2.1⟩,Bool.true_and,iA]
 intro d m
 obtain⟨v,mv,rfl⟩:=cL.mp m
 exact decide_eq_true (h.2.2 v mv)
theorem RwG.row {r:List Int}(h:RwG r):mB [aT r]=some (.bool true):=by
 rw[SW (d:=aT r) (fun ds e=>by cases e; exact⟨by rw[cP]; have:=h.2.1; omega,fun x m=>by obtain⟨v,_,rfl⟩:=cL.mp m; trivial⟩) gL,h.b]
theorem Kq {ds:List aA}{x:aA}(m:x∈ds)(h:kM x=false):wV (.tuple ds)=false:=by
 show(_&&ds.all kM)=false
 rw[List.all_eq_false.mpr ⟨x,m,by rw[h]; simp⟩,Bool.and_false]
theorem Nq {ds:List aA}(h : ¬ (1≤ds.length/\ds.length≤6)):wV (.tuple ds)=false:=by
 show(decide (1≤ds.length/\ds.length≤6)&&_)=false
 rw[decide_eq_false h,Bool.false_and]
theorem SL (ds:List aA)(k:Nat):cutD ds (some (k:Int)) none=ds.drop k:=by
 unfold cutD
 rw[HT.Am1,HT.Aqx]
 by_cases h:k≤ds.length
 ·rw[VC h,VE (by simp)]
 ·rw[Nat.min_eq_right (by omega),List.drop_of_length_le (by omega),List.drop_of_length_le (by omega)]
  simp
theorem CF (ds:List aA)(k:Nat):cutD ds none (some (k:Int))=ds.take k:=by
 unfold cutD
 rw[HT.Am1,HT.Aqx]
 by_cases h:k≤ds.length
 ·simp[VC h]
 ·rw[Nat.min_eq_right (by omega)]
  simp
  rw[VE (by omega)]
theorem pR {f:EF}{ρ:List (Option aA)}{i:Int}(h:f ρ=some (.int i)):oS f ρ=some (some i):=by
 unfold oS
 rw[h]
 rfl
theorem Kh {xs ys:List aA}(h:xs.length+ys.length≤1000):wW (.list xs) (.list ys)=some (.list (xs++ys)):=by
 show(if xs.length+ys.length≤sizeLine then some (PyData.list (xs++ys)) else none)=_
 rw[if_pos (lG (by omega))]
noncomputable def kdS (p:aD×aA):aA×aA:=(.str p.1,p.2)
theorem Lh {A:List (aD×aA)}{z:aD}{d:aA}(h:z∉A.map (·.1)):putD (A.map kdS) (.inr z) d=(A++[(z,d)]).map kdS:=by
 unfold putD
 rw[if_neg]
 ·simp[kdS,kD]
 ·intro q
  obtain⟨kd,m,e⟩:=List.any_eq_true.mp q
  obtain⟨p,mp,rfl⟩:=cL.mp m
  have:=of_decide_eq_true e
  simp[kdS,cU] at this
  exact h (cL.mpr ⟨p,mp,this⟩)
theorem PV : ∀ (M A:List (aD×aA)),((A++M).map (·.1)).Nodup->pY (M.map fun p=>(iH p.1,p.2)) (A.map kdS)=(A++M).map kdS
 | [],A,_=>by simp[pY]
 | p::M,A,h=>by
  show pY (M.map fun p=>(iH p.1,p.2)) (putD (A.map kdS) (.inr p.1) p.2)=_
  have hn:p.1∉A.map (·.1):=fun m=>by
   rw[xJ] at h
   exact(IU.mp h).2.2 p.1 m p.1 (by simp) rfl
  rw[Lh hn,PV M (A++[(p.1,p.2)]) (by simpa using h)]
  simp
theorem EV {z:aD}{d:aA} : ∀ {A:List (aD×aA)},(A.map (·.1)).Nodup->(z,d)∈A->cQ (A.map kdS) (.inr z)=some d
 | [],_,m=>by simp at m
 | p::A,nd,m=>by
  rw[dJ,fS] at nd
  unfold cQ
  rw[dJ,gD]
  rcases cJ.mp m with e | m
  ·rw[← e]
   simp[kdS,cU]
  ·have hne:p.1≠z:=fun e=>nd.1 (cL.mpr ⟨(z,d),m,e.symm⟩)
   have:=EV nd.2 m
   unfold cQ at this
   simp only[kdS,cU,xG,Sum.inr.injEq,hne,decide_false]
   exact this
theorem SO (A:List (aD×aA)):plK (A.map kdS)=true:=by cases A <;> rfl
theorem NS (A:List (aD×aA)):(A.map kdS).map (·.1)=(A.map (·.1)).map dH:=by
 rw[gN,gN]
 rfl
abbrev bS:=aD×Nat×List (List Int)
noncomputable def rwE (r:List Int):aA×aA:=(aT r,.bool true)
noncomputable def dtD (R:List (List Int)):aA:=.dict ((.none,.none)::R.map rwE)
noncomputable def wdT (t:bS):aD×aA:=(t.1,.int t.2.1)
noncomputable def hdT (t:bS):aD×aA:=(t.1,dtD t.2.2)
noncomputable def bkD (L:List bS):aA:=bK "Book" (.dict ((L.map wdT).map kdS)) (.dict ((L.map hdT).map kdS))
structure RsG (w:Nat)(R:List (List Int)):Prop where
 len:R.length≤60
 rw : ∀ r∈R,r.length=w/\RwG r
 nd:R.Nodup
structure BkG (L:List bS):Prop where
 len:L.length≤12
 nm : ∀ t∈L,nameS t.1
 wd : ∀ t∈L,1≤t.2.1/\t.2.1≤6
 rs : ∀ t∈L,RsG t.2.1 t.2.2
 nd:(L.map (·.1)).Nodup
theorem EX (L:List bS):(L.map wdT).map (·.1)=L.map (·.1):=by rw[gN]; rfl
theorem NK (L:List bS):(L.map hdT).map (·.1)=L.map (·.1):=by rw[gN]; rfl
noncomputable def t3 (t:aD×Nat):bS:=(t.1,t.2,[])
theorem PN : ∀ ts:List (aD×Nat),qL (ts.map hE)=some (((ts.map t3).map wdT).map fun p=>(iH p.1,p.2))
 | []=>rfl
 | t::ts=>by
  show((qL (ts.map hE)).bind fun r=>some ((iH t.1,bA t.2)::r))=_
  rw[PN ts]
  rfl
structure TsG (ts:List (aD×Nat)):Prop where
 len:ts.length≤12
 tb : ∀ t∈ts,BW t
 nd:(ts.map (·.1)).Nodup
theorem NM (ts:List (aD×Nat)):(ts.map t3).map (·.1)=ts.map (·.1):=by rw[gN]; rfl
theorem Kw {ts:List (aD×Nat)}(h:TsG ts)(z:Option aD):sX z [.list (ts.map hE)]=some (bkD (ts.map t3)):=by
 obtain⟨b,eb,hb⟩:=Af h.len h.tb
 rw[hb.mpr h.nd] at eb
 have ed:pZ [.list (ts.map hE)]=some (.dict (((ts.map t3).map wdT).map kdS)):=by
  show((qL (ts.map hE)).bind fun ps=>some (qZ (pY ps [])))=_
  rw[PN,bM]
  have:=PV ((ts.map t3).map wdT) [] (by rw[List.nil_append,EX,NM]; exact h.nd)
  rw[List.map_nil,List.nil_append] at this
  rw[this]
 unfold sX uV
 show((oZ [.list (ts.map hE)]).bind _)=_
 rw[eb,bM]
 show((pZ [.list (ts.map hE)]).bind _)=_
 rw[ed,bM]
 have c1 : ∀ kd∈((ts.map t3).map wdT).map kdS,fM kd.2=true:=fun kd m=>by
  obtain⟨p,mp,rfl⟩:=cL.mp m
  obtain⟨t,_,rfl⟩:=cL.mp mp
  rfl
 have c2:((((ts.map t3).map wdT).map kdS).map (·.1)).Nodup:=by
  rw[NS,EX,NM]
  exact tY.mpr (h.nd.imp fun h z=>h (PyData.str.inj z))
 have c3:(((ts.map t3).map wdT).map kdS).length<sizeLine:=by
  rw[cP,cP,cP]
  have:=h.len
  exact MM (by omega)
 refine(if_pos ⟨c1,c2,c3⟩).trans ?_
 unfold bkD rM
 congr 3
 simp[kdS,hdT,wdT,t3,dtD]
theorem uP (L:List bS):iO "Book" (bkD L)=some (.dict ((L.map wdT).map kdS),.dict ((L.map hdT).map kdS)):=vM _ _ _
theorem ED (L:List bS):mQ "Book" (bkD L)=some (.dict ((L.map wdT).map kdS)):=by unfold mQ; rw[uP]; rfl
theorem yO (L:List bS):dX "Book" (bkD L)=some (.dict ((L.map hdT).map kdS)):=by unfold dX; rw[uP]; rfl
theorem iE {fo:EF}{fa:AF}{ρ:List (Option aA)}{L:List bS}{ds:List aA}(h:fo ρ=some (bkD L))(h2:fa ρ=some ds):eF "Book" fo fa ρ=some (bkD L::ds):=by
 unfold eF
 rw[h,bM,uP]
 show((fa ρ).bind fun ds=>some (bkD L::ds))=_
 rw[h2]
 rfl
theorem MU (R:List (List Int)):(R.map rwE).map (·.1)=R.map aT:=by
 rw[gN]
 rfl
theorem MD {w:Nat}{R:List (List Int)}(hw:1≤w)(h:RsG w R):vE [dtD R]=some (iQ (srt R)):=by
 have e:=Jw (R:=R) (n:=w) hw (fun r m=>(h.rw r m).1) (by have:=h.len; omega)
 show((kL ((R.map rwE).map (·.1))).bind fun kss=>if okT kss=true/\kss.length<64 then some (PyData.list ((jS kss).map gY)) else none)=_
 rw[MU]
 exact e
section
variable {L:List bS}(h:BkG L)
include h
theorem DN {t:bS}(m:t∈L):cQ ((L.map wdT).map kdS) (.inr t.1)=some (.int t.2.1):=EV (by rw[EX]; exact h.nd) (cL.mpr ⟨t,m,rfl⟩)
theorem yS {t:bS}(m:t∈L):cQ ((L.map hdT).map kdS) (.inr t.1)=some (dtD t.2.2):=EV (by rw[NK]; exact h.nd) (cL.mpr ⟨t,m,rfl⟩)
theorem Ko (z:Option aD):wH z [bkD L]=some (.int ((L.map fun t=>(t.2.2.length:Int)).sum)):=by
 have hl:=h.len
 have hi:iDV (eUn (dX "Book") (aF 0)) (vS [s0 (bkD L)])=some (L.map fun t=>(hdT t).2):=by
  unfold iDV
  rw[show eUn (dX "Book") (aF 0) (vS [s0 (bkD L)])=some (.dict ((L.map hdT).map kdS)) from yO L,bM]
  show(if plK ((L.map hdT).map kdS)=true then some (((L.map hdT).map kdS).map (·.2)) else none)=_
  rw[SO,if_pos rfl,gN,gN]
  rfl
 have lc:=DX (cap:=[none]) (fi:=iDV (eUn (dX "Book") (aF 0))) (T:=gB 0) (t:=iC) (f:=aR lD (aI (aF 0) aL)) (ρ:=vS [s0 (bkD L)]) (xs:=L) (q:=fun t=>(hdT t).2) (fun _=>true) (fun t=>.int t.2.2.length) hi (by omega) (fun t mt=>⟨[some (hdT t).2],rfl,rfl,fun _=>bZ (ds:=[(hdT t).2]) rfl (by show some (bA ((t.2.2.map rwE).length:Nat))=_; rw[cP])⟩)
 rw[IZ.mpr (by simp)] at lc
 refine gQ rfl (gJ (d:=.int ((L.map fun t=>(t.2.2.length:Int)).sum)) (bZ (eT lc rfl) ?_) rfl)
 have : ∀ l:List bS,qR (l.map fun t=>bA t.2.2.length)=some (l.map fun t=>(t.2.2.length:Int)):=fun l=>by
  induction l with
  | nil=>rfl
  | cons a l ih=>
   show((qR (l.map fun t=>bA t.2.2.length)).bind fun is=>some ((a.2.2.length:Int)::is))=_
   rw[ih]
   rfl
 show((qR (L.map fun t=>bA t.2.2.length)).bind fun is=>some (bA is.sum))=_
 rw[this,bM]
theorem DR (z:Option aD){t:bS}(m:t∈L):pA z [bkD L,.str t.1]=some .none:=by
 have e1:aR kA (aI (aF 1) aL) (vS [s0 (bkD L),s0 (.str t.1)])=some (.bool true):=bZ (ds:=[.str t.1]) rfl (QD (h.nm t m))
 have e2:eOp (gIn true) (aF 1) (eUn (mQ "Book") (aF 0)) (vS [s0 (bkD L),s0 (.str t.1)])=some (.bool false):=by
  refine bW (a:=.str t.1) (b:=.dict ((L.map wdT).map kdS)) rfl (ED L) ?_
  show(if plK ((L.map wdT).map kdS)=true then(cU (.str t.1)).bind fun k=>some (eX (true != (cQ ((L.map wdT).map kdS) k).isSome)) else _)=_
  rw[if_pos (SO _)]
  show some (eX (true != (cQ ((L.map wdT).map kdS) (.inr t.1)).isSome))=_
  rw[DN h m]
  rfl
 show fnD 2 2 (zY z) [bkD L,.str t.1]=_
 have:zY z [s0 (bkD L),s0 (.str t.1)]=some (.nx [s0 (bkD L),s0 (.str t.1)]):=hU (lW (x:=false) (y:=false) (mW e1) fun _=>jY e2)
 show outD (zY z [s0 (bkD L),s0 (.str t.1)])=_
 rw[this]
 rfl
theorem FG {F:FX}{fa:AF}{ρ:bB}{G:SF}{P:Out->Prop}{ds:List aA}{c:aD}(e1:fa (vS ρ)=some ds)(e2:F (some c) ds=some (rsD c))(k:P (.rt (rsD c))):Goes (bF (jX 0 .s (aR (F (some c)) fa)) G) ρ P:=by
 refine mU ⟨.rt (rsD c),?_,_,rfl,k⟩
 have e:eV 0 .s (aR (F (some c)) fa) ρ=some (rsD c):=bZ e1 e2
 unfold jX
 rw[e]
 rfl
theorem vH {F:FX}{fa:AF}{ρ:bB}{G:SF}{P:Out->Prop}{ds:List aA}{z:Option aD}(e1:fa (vS ρ)=some ds)(e2:F z ds=some .none)(k:Goes G ρ P):Goes (bF (jX 0 .s (aR (F z) fa)) G) ρ P:=by
 refine dP (ρ':=ρ) ?_ k
 have e:eV 0 .s (aR (F z) fa) ρ=some .none:=bZ e1 e2
 unfold jX
 rw[e]
 rfl
theorem Lk (z:Option aD){t:bS}(m:t∈L):wC z [bkD L,.str t.1]=some (iQ (srt t.2.2)):=by
 refine gQ rfl (vH h (iE (ds:=[.str t.1]) rfl rfl) (DR h z m) (gJ (d:=iQ (srt t.2.2)) (bZ (ds:=[dtD t.2.2]) (eT (g:=aL) (bW (a:=.dict ((L.map hdT).map kdS)) (b:=.str t.1) (yO L) rfl (yS h m)) rfl) (MD (h.wd t m).1 (h.rs t m))) rfl))
def NoR (w:Nat)(d:aA):Prop:=mB [d]=some (.bool false) \/ ∃ ds,d = .tuple ds/\mB [d]=some (.bool true)/\ds.length≠w/\ds.length≤1000
theorem Cp {t:bS}(m:t∈L){d:aA}(hd:NoR t.2.1 d):bV .s (bOr (fT (bOf (aR mB (aI (aF 2) aL)))) (bOf (eOp gNe (aR eJ (aI (aF 2) aL)) (eOp gIx (eUn (mQ "Book") (aF 0)) (aF 1))))) [s0 (bkD L),s0 (.str t.1),s0 d]=some true:=by
 rcases hd with e | ⟨ds,rfl,e,hl,hl2⟩
 ·exact lW (x:=true) (y:=true) (mW (bZ (ds:=[d]) rfl e)) fun q=>by cases q
 ·refine lW (x:=false) (y:=true) (mW (bZ (ds:=[.tuple ds]) rfl e)) fun _=>jY (bW (a:=.int ds.length) (b:=.int t.2.1) (bZ (ds:=[.tuple ds]) rfl (yN ds)) (bW (a:=.dict ((L.map wdT).map kdS)) (b:=.str t.1) (ED L) rfl (DN h m)) ?_)
  show some (eX (!(cO (.int ds.length) (.int t.2.1))))=_
  have:cO (.int (ds.length:Int)) (.int (t.2.1:Int))=false:=by
   simp[cO]
   omega
  rw[this]
  rfl
theorem FA {t:bS}(m:t∈L){d:aA}(hd:NoR t.2.1 d):fN (some "NoRow") [bkD L,.str t.1,d]=some (rsD "NoRow"):=
 gQ rfl (vH h (iE (ds:=[.str t.1]) rfl rfl) (DR h _ m) (kP (Cp h m hd) ⟨_,if_pos rfl,rfl⟩))
theorem vG (z:Option aD){t:bS}(m:t∈L){r:List Int}(hr:RwG r)(hl:r.length=t.2.1):fN z [bkD L,.str t.1,aT r]=some .none:=by
 show outD (zX z [s0 (bkD L),s0 (.str t.1),s0 (aT r)])=_
 have t1:bV .s (bOr (fT (bOf (aR mB (aI (aF 2) aL)))) (bOf (eOp gNe (aR eJ (aI (aF 2) aL)) (eOp gIx (eUn (mQ "Book") (aF 0)) (aF 1))))) [s0 (bkD L),s0 (.str t.1),s0 (aT r)]=some false:=by
  refine lW (x:=false) (y:=false) (mW (bZ (ds:=[aT r]) rfl hr.row)) fun _=>jY (bW (a:=.int r.length) (b:=.int t.2.1) (bZ (ds:=[aT r]) rfl ((yN _).trans (by rw[cP]))) (bW (a:=.dict ((L.map wdT).map kdS)) (b:=.str t.1) (ED L) rfl (DN h m)) ?_)
  show some (eX (!(cO (.int r.length) (.int t.2.1))))=_
  rw[hl]
  simp[cO]
 have:zX z [s0 (bkD L),s0 (.str t.1),s0 (aT r)]=some (.nx [s0 (bkD L),s0 (.str t.1),s0 (aT r)]):=by
  unfold zX
  have e:eV 0 .s (aR (pA z) (eF "Book" (aF 0) (aI (aF 1) aL))) [s0 (bkD L),s0 (.str t.1),s0 (aT r)]=some .none:=bZ (iE (ds:=[.str t.1]) rfl rfl) (DR h _ m)
  unfold bF jX
  rw[e]
  exact hU t1
 rw[this]
 rfl
end
theorem DK : ∀ {L:List bS} {t:bS},(L.map (·.1)).Nodup->t∈L->L.find? (fun x=>decide (x.1=t.1))=some t
 | [],t,_,m=>by simp at m
 | x::L,t,nd,m=>by
  rw[dJ,fS] at nd
  rw[gD]
  rcases cJ.mp m with rfl | m
  ·simp
  ·have:x.1≠t.1:=fun e=>nd.1 (by rw[e]; exact cL.mpr ⟨t,m,rfl⟩)
   simp only[this,decide_false]
   exact DK nd.2 m
theorem XE {L:List bS}(h:BkG L){t:bS}(m:t∈L) : ∀ x∈L,x.1=t.1->x=t:=fun x mx e=>by
 have h1:=DK h.nd m
 have h2:=DK h.nd mx
 rw[e] at h2
 exact eO (h2.symm.trans h1)
noncomputable def chR (z:aD)(R:List (List Int))(t:bS):bS:=if t.1=z then(t.1,t.2.1,R) else t
theorem YN (z:aD)(R:List (List Int))(t:bS):(chR z R t).1=t.1:=by unfold chR; split <;> rfl
theorem YB (z:aD)(R:List (List Int))(t:bS):(chR z R t).2.1=t.2.1:=by unfold chR; split <;> rfl
theorem yT {z:aD}{R:List (List Int)}{t:bS}(e:t.1=z):chR z R t=(t.1,t.2.1,R):=if_pos e
theorem zA {z:aD}{R:List (List Int)}{t:bS}(e:t.1≠z):chR z R t=t:=if_neg e
theorem ZU (L:List bS)(z:aD)(R:List (List Int)):(L.map (chR z R)).map wdT=L.map wdT:=by
 rw[gN]
 refine tZ fun t _=>?_
 show((chR z R t).1,bA (chR z R t).2.1)=_
 rw[YN,YB]
 rfl
theorem Lv (L:List bS)(z:aD)(R:List (List Int)):gP ((L.map hdT).map kdS) z (dtD R)=((L.map (chR z R)).map hdT).map kdS:=by
 unfold gP
 rw[gN,gN,gN,gN]
 refine tZ fun x m=>?_
 show(if cU (.str x.1)=some (.inr z) then _ else _)=kdS (hdT (chR z R x))
 by_cases e:x.1=z
 ·rw[if_pos (show cU (.str x.1)=some (.inr z) by rw[e]; rfl),yT e]
  rfl
 ·rw[if_neg (fun q=>e (by simpa [cU] using q)),zA e]
theorem Iy (L:List bS)(z:aD)(R:List (List Int)):bK "Book" (.dict ((L.map wdT).map kdS)) (.dict (gP ((L.map hdT).map kdS) z (dtD R)))=bkD (L.map (chR z R)):=by
 rw[Lv]
 unfold bkD
 rw[ZU]
noncomputable def rS (R:List (List Int))(r:List Int):List (List Int):=R.filter fun x=>decide (x≠r)
theorem QC (R:List (List Int))(r:List Int):kO (R.map rwE) (r.map bA)=(rS R r).map rwE:=by
 unfold kO rS
 rw[List.filter_map]
 congr 1
 refine List.filter_congr fun x _=>?_
 show decide (aT x≠aT r)=decide (x≠r)
 exact decide_eq_decide.mpr ⟨fun h z=>h (by rw[z]),fun h z=>h (yK z)⟩
theorem RsG.add {w:Nat}{R:List (List Int)}(h:RsG w R)(hl:R.length<60){r:List Int}(hr:RwG r)(hw:r.length=w)(hn:r∉R):RsG w (R++[r]):=by
 refine⟨by rw[uA]; simp; omega,fun x m=>?_,?_⟩
 ·rcases nU.mp m with m | m
  ·exact h.rw x m
  ·rw[dB.mp m]; exact⟨hw,hr⟩
 ·refine IU.mpr ⟨h.nd,fS.mpr ⟨by simp,.nil⟩,fun a ma b mb=>?_⟩
  rw[dB.mp mb]
  intro z
  exact hn (z ▸ ma)
theorem RsG.less {w:Nat}{R:List (List Int)}(h:RsG w R)(r:List Int):RsG w (rS R r):=
 ⟨jM (List.length_filter_le _ _) h.len,fun x m=>h.rw x (xI.mp m).1,h.nd.sublist List.filter_sublist⟩
section
variable {L:List bS}(h:BkG L)
include h
theorem HP {g:List (aA×aA)->List aA->Option (Bool×List (aA×aA))}{t:bS}(m:t∈L){r:List Int}(hr:RwG r)(hw:r.length=t.2.1){b:Bool}{R:List (List Int)}(hg:g (t.2.2.map rwE) (r.map bA)=some (b,R.map rwE)) :
  pV "Book" fN g [bkD L,.str t.1,aT r]=some (b,if b=true then bkD (L.map (chR t.1 R)) else bkD L):=by
 have c2:(((L.map hdT).map kdS).map (·.1)).Nodup:=by
  rw[NS,NK]
  exact tY.mpr (h.nd.imp fun h z=>h (PyData.str.inj z))
 have d1:=qE r
 have d2:=sQ r
 unfold pV
 show((iO "Book" (bkD L)).bind _)=_
 rw[uP,bM]
 show((fN none [bkD L,.str t.1,.tuple (r.map bA)]).bind _)=_
 rw[show fN none [bkD L,.str t.1,.tuple (r.map bA)]=some .none from vG h none m hr hw,bM,yS h m,bM]
 refine(if_pos ⟨d1,by omega,c2⟩).trans ?_
 rw[hg,bM]
 show some (b,if b=true then bK "Book" (.dict ((L.map wdT).map kdS)) (.dict (gP ((L.map hdT).map kdS) t.1 (dtD R))) else bkD L)=_
 rw[Iy]
theorem GM {R:List (List Int)}{r:List Int}:gY (r.map bA)∈(R.map rwE).map (·.1)↔r∈R:=by
 rw[MU]
 refine⟨fun z=>?_,fun z=>cL.mpr ⟨r,z,rfl⟩⟩
 obtain⟨r',mr,e⟩:=cL.mp z
 exact yK e ▸ mr
theorem MT {t:bS}(m:t∈L){r:List Int}(hr:RwG r)(hw:r.length=t.2.1)(hn:r∉t.2.2)(hl:t.2.2.length<60):mD [bkD L,.str t.1,aT r]=some (true,bkD (L.map (chR t.1 (t.2.2++[r])))):=by
 refine HP h m hr hw (b:=true) (R:=t.2.2++[r]) ?_
 unfold JJ
 rw[if_neg (fun z=>hn ((GM h).mp z)),if_pos (by rw[cP]; omega),xJ]
 rfl
theorem Pb {t:bS}(m:t∈L){r:List Int}(hr:RwG r)(hw:r.length=t.2.1)(hn:r∈t.2.2):nB [bkD L,.str t.1,aT r]=some (true,bkD (L.map (chR t.1 (rS t.2.2 r)))):=by
 refine HP h m hr hw (b:=true) (R:=rS t.2.2 r) ?_
 unfold HF
 rw[if_pos ((GM h).mpr hn),QC]
theorem As {t:bS}(m:t∈L){r:List Int}(hr:RwG r)(hw:r.length=t.2.1)(hn:r∉t.2.2):nB [bkD L,.str t.1,aT r]=some (false,bkD L):=by
 refine HP h m hr hw (b:=false) (R:=t.2.2) ?_
 unfold HF
 rw[if_neg (fun z=>hn ((GM h).mp z))]
end
theorem FT (R:List (List Int))(r:List Int):(cV (R.map rwE) (r.map bA)).isSome=decide (r∈R):=by
 induction R with
 | nil=>rfl
 | cons x R ih=>
  show(cV ((.tuple (x.map bA),.bool true)::R.map rwE) (r.map bA)).isSome=_
  rw[zN (qE x) (qE r)]
  by_cases e:x=r
  ·subst e
   rw[if_pos rfl]
   simp
  ·rw[if_neg (fun z=>e (yK (congrArg gY z))),ih]
   refine decide_eq_decide.mpr ⟨fun m=>cA _ m,fun m=>(cJ.mp m).resolve_left fun z=>e z.symm⟩
theorem HC (r:List Int)(R:List (List Int)):gIn false (aT r) (dtD R)=some (.bool (decide (r∈R))):=by
 have d1:=qE r
 have d2:=sQ r
 show(if (bP (r.map bA)&&decide (cW (r.map bA)≤6))=true then some (eX (false != (cV (R.map rwE) (r.map bA)).isSome)) else none)=_
 rw[d1,decide_eq_true (by omega),FT]
 simp
theorem TZ (R:List (List Int)):lD [dtD R]=some (.int R.length):=by
 show some (bA ((R.map rwE).length:Nat))=_
 rw[cP]
theorem isF (b1 b2:Bool){ρ:List (Option aA)}(e:aF 3 ρ=some (exD "Full")):jP (eUn (eL "NoRow" b1) (aF 3)) (eUn (eL "Full" b2) (aF 3)) ρ=some (.bool b2):=by
 have h1:eUn (eL "NoRow" b1) (aF 3) ρ=none:=by
  unfold eUn
  rw[e,bM]
  have : ¬ (("Full" : aD) = "NoRow"):=by decide +kernel
  simp[eL,exD,this]
 have h2:eUn (eL "Full" b2) (aF 3) ρ=some (.bool b2):=by
  unfold eUn
  rw[e,bM]
  simp[eL,exD]
 unfold jP
 rw[h1,h2]
 rfl
section
variable {L:List bS}(h:BkG L)
include h
theorem ZM (z:Option aD){t:bS}(m:t∈L){r:List Int}(hr:RwG r)(hw:r.length=t.2.1):oY z [bkD L,.str t.1,aT r]=some (.bool (decide (r∈t.2.2))):=by
 refine gQ rfl (vH h (iE (ds:=[.str t.1,aT r]) rfl rfl) (vG h z m hr hw) (gJ (d:=.bool (decide (r∈t.2.2))) (bW (a:=aT r) (b:=dtD t.2.2) rfl (bW (a:=.dict ((L.map hdT).map kdS)) (b:=.str t.1) (yO L) rfl (yS h m)) ?_) rfl))
 have d1:=qE r
 have d2:=sQ r
 show(if (bP (r.map bA)&&decide (cW (r.map bA)≤6))=true then some (eX (false != (cV (t.2.2.map rwE) (r.map bA)).isSome)) else none)=_
 rw[d1,decide_eq_true (by omega),FT]
 simp
theorem DH {ρ:List (Option aA)}{t:bS}(m:t∈L)(e0:aF 0 ρ=some (bkD L))(e1:aF 1 ρ=some (.str t.1)):eOp gIx (eUn (dX "Book") (aF 0)) (aF 1) ρ=some (dtD t.2.2):=by
 refine bW (a:=.dict ((L.map hdT).map kdS)) (b:=.str t.1) ?_ e1 (yS h m)
 unfold eUn
 rw[e0]
 exact yO L
theorem LJ (z:Option aD){t:bS}(m:t∈L){r:List Int}(hr:RwG r)(hw:r.length=t.2.1)(hn:r∈t.2.2):lL z [bkD L,.str t.1,aT r]=some (.bool false):=
 gQ rfl (vH h (iE (ds:=[.str t.1,aT r]) rfl rfl) (vG h z m hr hw) (mU (kP (jY (bW (a:=aT r) (b:=dtD t.2.2) rfl (DH h m rfl rfl) ((HC r t.2.2).trans (by rw[decide_eq_true hn])))) (gJ (d:=.bool false) rfl ⟨_,rfl,rfl⟩))))
theorem Ci {t:bS}(m:t∈L){r:List Int}(hr:RwG r)(hw:r.length=t.2.1)(hn:r∉t.2.2)(hl:t.2.2.length=60):lL (some "Full") [bkD L,.str t.1,aT r]=some (rsD "Full")/\lL (some "NoRow") [bkD L,.str t.1,aT r]=none:=by
 have t1:bV .s (bOf (eOp (gIn false) (aF 2) (eOp gIx (eUn (dX "Book") (aF 0)) (aF 1)))) [s0 (bkD L),s0 (.str t.1),s0 (aT r)]=some false:=jY (bW (a:=aT r) (b:=dtD t.2.2) rfl (DH h m rfl rfl) ((HC r t.2.2).trans (by rw[decide_eq_false hn])))
 have t2:bV .s (bOf (eOp gGe (aR lD (aI (eOp gIx (eUn (dX "Book") (aF 0)) (aF 1)) aL)) (eC (.int 60)))) [s0 (bkD L),s0 (.str t.1),s0 (aT r)]=some true:=by
  refine jY (bW (a:=.int t.2.2.length) (b:=.int 60) (bZ (ds:=[dtD t.2.2]) (eT (g:=aL) (DH h m rfl rfl) rfl) (TZ _)) rfl ?_)
  show some (eX (decide ((60:Int)≤(t.2.2.length:Int))))=_
  rw[decide_eq_true (by omega)]
 refine⟨gQ rfl (vH h (iE (ds:=[.str t.1,aT r]) rfl rfl) (vG h _ m hr hw) (dP (hU t1) (mU (kP t2 ⟨_,if_pos rfl,_,rfl,rfl⟩)))),?_⟩
 show outD (GE (some "NoRow") [s0 (bkD L),s0 (.str t.1),s0 (aT r)])=none
 have:GE (some "NoRow") [s0 (bkD L),s0 (.str t.1),s0 (aT r)]=none:=by
  have e:eV 0 .s (aR (fN (some "NoRow")) (eF "Book" (aF 0) (aI (aF 1) (aI (aF 2) aL)))) [s0 (bkD L),s0 (.str t.1),s0 (aT r)]=some .none:=bZ (iE (ds:=[.str t.1,aT r]) rfl rfl) (vG h _ m hr hw)
  have e1:jX 0 .s (aR (fN (some "NoRow")) (eF "Book" (aF 0) (aI (aF 1) (aI (aF 2) aL)))) [s0 (bkD L),s0 (.str t.1),s0 (aT r)]=some (.nx [s0 (bkD L),s0 (.str t.1),s0 (aT r)]):=by
   unfold jX
   rw[e]
   rfl
  have e3:(sIf .s (bOf (eOp gGe (aR lD (aI (eOp gIx (eUn (dX "Book") (aF 0)) (aF 1)) aL)) (eC (.int 60)))) (uZ (some "NoRow") "Full") dW) [s0 (bkD L),s0 (.str t.1),s0 (aT r)]=none:=by
   unfold sIf
   rw[t2]
   show(if some ("NoRow" : aD)=some ("Full" : aD) then some (Out.rt (rsD "Full")) else none)=none
   rw[if_neg (by decide +kernel)]
  have s2 : ∀ {F G:SF} {ρ ρ':bB},F ρ=some (.nx ρ')->G ρ'=none->bF F G ρ=none:=fun {F G ρ ρ'} a b=>by unfold bF; rw[a]; exact b
  have s1 : ∀ {F G:SF} {ρ:bB},F ρ=none->bF F G ρ=none:=fun {F G ρ} a=>by unfold bF; rw[a]; rfl
  exact s2 e1 (s2 (hU t1) (s1 e3))
 rw[this]
 rfl
theorem XO {F G:SF}{ρ:bB}{o:Out}(e:F ρ=some o):sOr F G ρ=some o:=by unfold sOr; rw[e]; rfl
theorem WU {F G:SF}{ρ:bB}{o:Out}(e:F ρ=none)(e2:G ρ=some o):sOr F G ρ=some o:=by unfold sOr; rw[e,e2]; rfl
theorem Oq {c:aD}{F:FX}{fa:AF}{V:aA->SF}{G:SF}{ρ:bB}{ds:List aA}(e:fa (vS ρ)=some ds)(e1:F (some c) ds=none):iL c F fa V G ρ=none:=by
 unfold iL
 rw[e,bM,e1]
 rfl
theorem On {t:bS}(m:t∈L){r:List Int}(hr:RwG r)(hw:r.length=t.2.1)(hn:r∈t.2.2):iU [bkD L,.str t.1,aT r]=some (fA "told" false):=by
 refine gQ rfl (dP (ρ':=[s0 (bkD L),s0 (.str t.1),s0 (aT r),s0 .none,none,none]) rfl (dP (ρ':=[s0 (bkD L),s0 (.str t.1),s0 (aT r),s0 .none,s0 .none,none]) rfl (dP (ρ':=[s0 (bkD L),s0 (.str t.1),s0 (aT r),s0 .none,s0 (.bool false),none]) (XO h (Ks (ds:=[bkD L,.str t.1,aT r]) (iE (ds:=[.str t.1,aT r]) rfl rfl) (LJ h _ m hr hw hn) rfl (LJ h none m hr hw hn))) (mU (kP rfl (gJ (d:=fA "told" false) rfl ⟨_,rfl,rfl⟩))))))
theorem Fe {t:bS}(m:t∈L){r:List Int}(hr:RwG r)(hw:r.length=t.2.1)(hn:r∉t.2.2)(hl:t.2.2.length=60):iU [bkD L,.str t.1,aT r]=some (fA "refused" true):=by
 obtain⟨p1,p2⟩:=Ci h m hr hw hn hl
 have ei:=iE (fo:=aF 0) (fa:=aI (aF 1) (aI (aF 2) aL)) (ρ:=vS [s0 (bkD L),s0 (.str t.1),s0 (aT r),s0 .none,s0 .none,none]) (ds:=[.str t.1,aT r]) rfl rfl
 let S:bB:=[s0 (bkD L),s0 (.str t.1),s0 (aT r),s0 (exD "Full"),s0 .none,none]
 refine gQ rfl (dP (ρ':=[s0 (bkD L),s0 (.str t.1),s0 (aT r),s0 .none,none,none]) rfl (dP (ρ':=[s0 (bkD L),s0 (.str t.1),s0 (aT r),s0 .none,s0 .none,none]) rfl (dP (ρ':=S) (WU h (Oq h ei p2) ((TN ei p1).trans rfl)) ?_)))
 have i3 : ∀ b1 b2:Bool,bOf (jP (eUn (eL "NoRow" b1) (aF 3)) (eUn (eL "Full" b2) (aF 3))) (vS S)=some b2:=fun b1 b2=>jY (isF b1 b2 rfl)
 refine dP (hU rfl) (dP (hU (lW (x:=false) (y:=false) (i3 _ _) fun _=>lW (x:=false) (y:=false) (i3 _ _) fun _=>i3 _ _)) (dP (hU (lW (x:=false) (y:=false) (i3 _ _) fun _=>lW (x:=false) (y:=false) (i3 _ _) fun _=>i3 _ _)) ?_))
 exact gJ (d:=fA "refused" true) (uX (ds:=[.str "refused",.bool true]) (eT rfl (eT (g:=aL) (qB (x:=true) (y:=true) (isF _ _ rfl) fun _=>isF _ _ rfl) rfl))) rfl
theorem Kz {t:bS}(m:t∈L){r:List Int}(hr:RwG r)(hw:r.length=t.2.1)(way:Int) : ∃ R,RsG t.2.1 R/\jJ [bkD L,.str t.1,dtD t.2.2,aT r,.int way]=some (true,bkD (L.map (chR t.1 R)),dtD R):=by
 have hR:=h.rs t m
 have hl:=hR.len
 have same:L.map (chR t.1 t.2.2)=L:=by
  have : ∀ x∈L,chR t.1 t.2.2 x=id x:=fun x mx=>by
   by_cases e:x.1=t.1
   ·have:=XE h m x mx e
    subst this
    exact yT rfl
   ·exact zA e
  rw[tZ this,IY]
 have d1:=qE r
 have d2:=sQ r
 have q1:gEq (fA "told" false) (fA "told" false)=some (.bool true):=rfl
 have q2:gEq (fA "told" true) (fA "told" true)=some (.bool true):=rfl
 have q3:gEq (fA "refused" true) (fA "refused" true)=some (.bool true):=rfl
 have ed : ∀ q:Option (Bool×aA×aA),(if way<2 then
    if decide (r∈t.2.2)=true then(iU [bkD L,.str t.1,aT r]).bind fun r=>(gEq r (fA "told" false)).bind fun b=>(asB b).bind fun b=>some (b,bkD L,dtD t.2.2)
    else if t.2.2.length=60 then(iU [bkD L,.str t.1,aT r]).bind fun r=>(gEq r (fA "refused" true)).bind fun b=>(asB b).bind fun b=>some (b,bkD L,dtD t.2.2)
    else(oW [bkD L,.str t.1,aT r]).bind fun q=>(gEq q.1 (fA "told" true)).bind fun b=>(asB b).bind fun b=>some (b,q.2,qZ ((.none,.none)::(t.2.2.map rwE++[(aT r,.bool true)])))
   else(nB [bkD L,.str t.1,aT r]).bind fun q=>some (q.1 == decide (r∈t.2.2),q.2,qZ ((.none,.none)::if decide (r∈t.2.2)=true then kO (t.2.2.map rwE) (r.map bA) else t.2.2.map rwE)))=q->jJ [bkD L,.str t.1,dtD t.2.2,aT r,.int way]=q:=fun q e=>by
  unfold jJ
  show(if (iO "Book" (bkD L)).isSome=true/\bP (r.map bA)=true/\cW (r.map bA)≤6/\(t.2.2.map rwE).length<1000 then _ else none)=q
  rw[if_pos ⟨by rw[uP]; rfl,d1,by omega,by rw[cP]; omega⟩]
  rw[FT,cP]
  exact e
 by_cases h2:way<2
 ·by_cases hn:r∈t.2.2
  ·refine⟨t.2.2,hR,ed _ ?_⟩
   rw[if_pos h2,if_pos (decide_eq_true hn),On h m hr hw hn,same,bM,q1]
   rfl
  by_cases h60:t.2.2.length=60
  ·refine⟨t.2.2,hR,ed _ ?_⟩
   rw[if_pos h2,if_neg (by simpa using hn),if_pos h60,Fe h m hr hw hn h60,same,bM,q3]
   rfl
  ·refine⟨t.2.2++[r],hR.add (by omega) hr hw hn,ed _ ?_⟩
   have eG:oW [bkD L,.str t.1,aT r]=some (fA "told" true,bkD (L.map (chR t.1 (t.2.2++[r])))):=by
    unfold oW
    rw[MT h m hr hw hn (by omega)]
    rfl
   rw[if_pos h2,if_neg (by simpa using hn),if_neg h60,eG,bM,q2]
   show some (true,_,qZ ((.none,.none)::(t.2.2.map rwE++[(aT r,.bool true)])))=_
   unfold dtD
   rw[xJ]
   rfl
 ·by_cases hn:r∈t.2.2
  ·refine⟨rS t.2.2 r,hR.less r,ed _ ?_⟩
   rw[if_neg h2,Pb h m hr hw hn,decide_eq_true hn,bM,if_pos rfl,QC]
   rfl
  ·refine⟨t.2.2,hR,ed _ ?_⟩
   rw[if_neg h2,As h m hr hw hn,same,decide_eq_false hn,bM]
   rfl
end
theorem CJ (v:Int):nd0 (.int v):=gL
theorem zI {w:Nat}{d:aA}(h : ∀ ds,d = .tuple ds->ds.length≤1000 /\ ∀ x∈ds,nd0 x)(h0:nd0 d)(hb:wV d=false):NoR w d:=.inl (by rw[SW h h0,hb])
theorem LY {w:Nat}{r:List Int}(h:RwG r \/ r=[] \/ 6<r.length)(hl:r.length≠w)(hl2:r.length≤100):NoR w (aT r):=by
 have hn : ∀ ds,aT r = .tuple ds->ds.length≤1000 /\ ∀ x∈ds,nd0 x:=fun ds e=>by
  cases e
  refine⟨by rw[cP]; omega,fun x m=>?_⟩
  obtain⟨v,_,rfl⟩:=cL.mp m
  exact CJ v
 rcases h with h | rfl | h
 ·exact .inr ⟨_,rfl,h.row,by rw[cP]; exact hl,by rw[cP]; omega⟩
 ·exact zI hn gL rfl
 ·exact zI hn gL (Nq (by rw[cP]; omega))
theorem ZO {w:Nat}{ds:List aA}{x:aA}(m:x∈ds)(hx:kM x=false)(hl:ds.length≤1000)(hn : ∀ y∈ds,nd0 y):NoR w (.tuple ds):=zI (fun es e=>by cases e; exact⟨hl,hn⟩) gL (Kq m hx)
theorem TY (v:Int)(hv:v.natAbs<10 ^ 65){w a:Nat}(h1:1≤w)(h6:w≤6)(ha:a<w) : ∃ r,qG [.int v,.int w,.int a]=some (aT r)/\RwG r/\r.length=w:=by
 let l:List Int:=[v - 3,0 - v,5,v,0,1 - v]
 let r:List Int:=(l.take w).set a v
 have hp:(10:Nat) ^ 65*10≤10 ^ 70:=by decide +kernel
 have hl:(l.take w).length=w:=by simp[l]; omega
 have hr:r.length=w:=by simp only[r,List.length_set]; exact hl
 refine⟨r,?_,⟨by omega,by omega,fun x m=>?_⟩,hr⟩
 ·refine gQ rfl (jV (d:=.list ((l.take w).map bA)) ((TJ (ds:=l.map bA) (uU rfl (by show 6≤1000; omega)) rfl (pR (i:=(w:Int)) rfl)).trans (by rw[CF,← IW])) (by simp) ?_)
  refine mV (fun ρ'=>ρ'=[s0 (.int v),s0 (.int w),s0 (.int a),some (1,.list (r.map bA))]) ?_ ?_
  ·refine Lf (d:=.int v) (j:=(a:Int)) (jn:=a) (ds:=(l.take w).map bA) rfl rfl rfl (Ky (by rw[cP]; omega)) ⟨_,rfl,?_⟩
   show [s0 (.int v),s0 (.int w),s0 (.int a),some (1,.list (((l.take w).map bA).set a (.int v)))]=_
   simp only[r,List.map_set]
  rintro _ rfl
  exact Jf (gJ (d:=aT r) (bZ (ds:=[.list (r.map bA)]) rfl rfl) rfl)
 ·have hx:x=v \/ x∈l:=by
   rcases VI m with m | rfl
   ·exact .inr (IV m)
   ·exact .inl rfl
  have:x.natAbs≤v.natAbs+5:=by
   rcases hx with rfl | m
   ·omega
   ·simp only[l,cJ,AX,or_false] at m
    omega
  omega
theorem Cn (c:Int){r:List Int}(gr:RwG r) : ∃ d,wQ [.int c,aT r]=some d/\NoR r.length d:=by
 have h1:=gr.1
 have h6:=gr.2.1
 refine HD rfl ?_
 obtain⟨y,ey⟩:=nX (fE (cF c 10) (show(0:Int)<(5:Nat) by decide)).1
 have hy5:y<5:=by have:=(fE (cF c 10) (show(0:Int)<(5:Nat) by decide)).2; omega
 refine jV (d:=.int y) (bW (a:=.int (cF c 10)) (b:=.int (5:Nat)) (bZ (ds:=[.int c,.int 10]) rfl (gT c 10 (by omega) (by omega))) rfl ((oA _ 5 (by omega)).trans (by rw[ey]))) (by simp) ?_
 show Goes _ [s0 (.int c),s0 (aT r),s0 (.int y),none] _
 have t1:bV .s (bOf (eOp gLt (aF 2) (eC (.int 3)))) [s0 (.int c),s0 (aT r),s0 (.int y),none]=some (decide ((y:Int)<3)):=rfl
 by_cases y3:(y:Int)<3
 ·let ds:List aA:=[aT (r.drop 1),aT (r++r.take 1),.list (r.map bA)]
  have hj:y<ds.length:=by show y<3; omega
  have eds:jQ (aI (nG (aF 1) (oS (eC (.int 1))) oN) (aI (eOp oE (aF 1) (nG (aF 1) oN (oS (eC (.int 1))))) (aI (aR zZ (aI (aF 1) aL)) aL))) (vS [s0 (.int c),s0 (aT r),s0 (.int y),none])=some (.list ds):=by
   refine uU (hl:=by show 3≤1000; omega) (eT ((yF (ds:=r.map bA) rfl (pR (i:=((1:Nat):Int)) rfl) rfl).trans (by rw[SL,← List.map_drop]; rfl)) (eT (bW (a:=.tuple (r.map bA)) (b:=.tuple ((r.take 1).map bA)) rfl ((yF (ds:=r.map bA) rfl rfl (pR (i:=((1:Nat):Int)) rfl)).trans (by rw[CF,← IW])) ((CH (by simp; omega)).trans (by rw[← xJ]; rfl))) (eT (g:=aL) rfl rfl)))
  refine mU (kP (t1.trans (by rw[decide_eq_true y3])) (gJ (d:=ds[y]) (bW (a:=.list ds) (b:=.int y) eds rfl (sE (lC hj))) ⟨_,rfl,_,rfl,?_⟩))
  have hy:y=0 \/ y=1 \/ y=2:=by omega
  rcases hy with rfl | rfl | rfl
  ·show NoR r.length (aT (r.drop 1))
   have hd:(r.drop 1).length=r.length - 1:=VM
   refine LY ?_ (by omega) (by omega)
   by_cases q:r.length=1
   ·exact .inr (.inl (uC (by omega)))
   ·exact .inl ⟨by omega,by omega,fun v m=>gr.2.2 v (List.mem_of_mem_drop m)⟩
  ·show NoR r.length (aT (r++r.take 1))
   have hd:(r++r.take 1).length=r.length+1:=by rw[uA,pH]; omega
   refine LY ?_ (by omega) (by omega)
   by_cases q:r.length=6
   ·exact .inr (.inr (by omega))
   ·refine .inl ⟨by omega,by omega,fun v m=>?_⟩
    rcases nU.mp m with m | m
    ·exact gr.2.2 v m
    ·exact gr.2.2 v (IV m)
  ·exact zI (by intro ds e; cases e) gL rfl
 refine dP (hU (t1.trans (by rw[decide_eq_false y3]))) ?_
 have hw0:(0:Int)<(r.length:Int):=by omega
 obtain⟨a,ea⟩:=nX (fE (cF c 11) hw0).1
 refine jV (d:=.int a) (bW (a:=.int (cF c 11)) (b:=.int r.length) (bZ (ds:=[.int c,.int 11]) rfl (gT c 11 (by omega) (by omega))) (bZ (ds:=[aT r]) rfl ((yN _).trans (by rw[cP]))) ((oA _ r.length (by omega)).trans (by rw[ea]))) (by simp) ?_
 show Goes _ [s0 (.int c),s0 (aT r),s0 (.int y),s0 (.int a)] _
 let ds:List aA:=[.bool true,.str "5"]
 have hj:y - 3<ds.length:=by show y - 3<2; omega
 let d:=ds[y - 3]
 have hd:kM d=false/\nd0 d:=by
  have hy:y - 3=0 \/ y - 3=1:=by omega
  rcases hy with q | q
  ·have:d = .bool true:=by simp only[d,q,ds]; rfl
   rw[this]
   exact⟨rfl,gL⟩
  ·have:d = .str "5":=by simp only[d,q,ds]; rfl
   rw[this]
   exact⟨rfl,gL⟩
 have ed:eOp gIx (jQ (aI (eC (.bool true)) (aI (eC (.str "5")) aL))) (eOp oG (aF 2) (eC (.int 3))) (vS [s0 (.int c),s0 (aT r),s0 (.int y),s0 (.int a)])=some d:=bW (a:=.list ds) (b:=.int ((y - 3:Nat):Int)) (uU rfl (by show 2≤1000; omega)) (by show some (bA ((y:Int) - 3))=_; congr 2; omega) (sE (lC hj))
 refine gJ (d:=.tuple (((r.map bA).take a++[d])++(r.map bA).drop (a+1))) ?_ ⟨_,rfl,ZO (x:=d) (by simp) hd.1 (by simp; omega) fun z m=>?_⟩
 ·refine bW (a:=.tuple ((r.map bA).take a++[d])) (b:=.tuple ((r.map bA).drop (a+1))) (bW (a:=.tuple ((r.map bA).take a)) (b:=.tuple [d]) ((yF (ds:=r.map bA) rfl rfl (pR (i:=(a:Int)) rfl)).trans (by rw[CF])) (uX (eT (g:=aL) ed rfl)) (CH (by simp; omega))) ((yF (ds:=r.map bA) rfl (pR (i:=((a+1:Nat):Int)) rfl) rfl).trans (by rw[SL])) (CH (by simp; omega))
 ·rcases nU.mp m with m | m
  ·rcases nU.mp m with m | m
   ·obtain⟨v,_,rfl⟩:=cL.mp (IV m)
    exact CJ v
   ·rw[dB.mp m]; exact hd.2
  ·obtain⟨v,_,rfl⟩:=cL.mp (List.mem_of_mem_drop m)
   exact CJ v
section
variable {L:List bS}(h:BkG L)
include h
theorem Lz {t:bS}(m:t∈L){d:aA}(hd:NoR t.2.1 d):lL (some "NoRow") [bkD L,.str t.1,d]=some (rsD "NoRow"):=gQ rfl (FG h (iE (ds:=[.str t.1,d]) rfl rfl) (FA h m hd) rfl)
theorem Ar {t:bS}(m:t∈L){d:aA}(hd:NoR t.2.1 d):wF (some "NoRow") [bkD L,.str t.1,d]=some (rsD "NoRow"):=gQ rfl (FG h (iE (ds:=[.str t.1,d]) rfl rfl) (FA h m hd) rfl)
theorem Jq {t:bS}(m:t∈L){d:aA}(hd:NoR t.2.1 d):oY (some "NoRow") [bkD L,.str t.1,d]=some (rsD "NoRow"):=gQ rfl (FG h (iE (ds:=[.str t.1,d]) rfl rfl) (FA h m hd) rfl)
theorem Ew {t:bS}(m:t∈L){d:aA}{w:Nat}(hd:NoR t.2.1 d):wN [bkD L,.str t.1,d,.int w]=some (.bool true):=by
 let S:bB:=[s0 (bkD L),s0 (.str t.1),s0 d,s0 (.int w),s0 .none,none]
 refine gQ rfl (dP (ρ':=S) rfl ?_)
 have tw : ∀ k:Int,bV .s (bOf (eOp gEq (aF 3) (eC (.int k)))) S=some (decide ((w:Int)=k)):=fun k=>jY (bW (a:=.int w) (b:=.int k) rfl rfl (MH _ _))
 have tr : ∀ {F:FX},F (some "NoRow") [bkD L,.str t.1,d]=some (rsD "NoRow")->Goes (iL "NoRow" F (eF "Book" (aF 0) (aI (aF 1) (aI (aF 2) aL))) vExpr (sAs 5 "NoRow" (cE 4 0 .s (aF 5)))) S fun o=>∃ ρ',o = .nx ρ'/\ρ'=[s0 (bkD L),s0 (.str t.1),s0 d,s0 (.int w),s0 (exD "NoRow"),none]:=fun {F} e=>⟨_,(TN (ds:=[bkD L,.str t.1,d]) (iE (ds:=[.str t.1,d]) rfl rfl) e).trans rfl,_,rfl,rfl⟩
 refine mV (fun ρ'=>ρ'=[s0 (bkD L),s0 (.str t.1),s0 d,s0 (.int w),s0 (exD "NoRow"),none]) ?_ ?_
 ·by_cases w0:(w:Int)=0
  ·exact kP ((tw 0).trans (by rw[decide_eq_true w0])) (tr (Lz h m hd))
  refine SR ((tw 0).trans (by rw[decide_eq_false w0])) ?_
  by_cases w1:(w:Int)=1
  ·exact kP ((tw 1).trans (by rw[decide_eq_true w1])) (tr (Ar h m hd))
  ·exact SR ((tw 1).trans (by rw[decide_eq_false w1])) (tr (Jq h m hd))
 rintro _ rfl
 exact gJ (d:=.bool true) rfl rfl
end
theorem Ol (R:List (List Int)):dU (iQ R)=true:=by
 have h1:noDicts (R.map aT)=true:=Fc R
 have h2:cW (R.map aT)≤2:=zH fun t m=>by
  obtain⟨r,_,rfl⟩:=cL.mp m
  have:=sQ r
  simp only[aT,iZ]
  omega
 show(noDict (.list (R.map aT))&&decide (iZ (.list (R.map aT))≤60))=true
 have h3:iZ (.list (R.map aT))=cW (R.map aT)+1:=by simp[iZ]
 rw[h3,show noDict (.list (R.map aT))=true from h1,decide_eq_true (by omega)]
 rfl
theorem Cr (R:List (List Int)):cO (iQ R) (iQ R)=true:=by
 have go : ∀ l:List (List Int),pF (l.map aT) (l.map aT)=true:=fun l=>by
  induction l with
  | nil=>simp[pF]
  | cons a l ih=>
   have:cO (aT a) (aT a)=true:=by simp[Kv]
   simp[pF,this,ih]
 show cO (.list (R.map aT)) (.list (R.map aT))=true
 simp[cO,go]
theorem Ka (R:List (List Int)):gEq (iQ R) (iQ R)=some (.bool true):=by
 unfold gEq
 rw[Ol,Cr]
 rfl
noncomputable def cnt (m:Nat):List (List Int):=(dF m).map fun(k:Nat)=>[(k:Int)]
theorem EB (m:Nat):(cnt m).length=m:=by simp[cnt]
theorem MI (m:Nat):RwG [(m:Int)]↔(m:Int).natAbs<10 ^ 70:=⟨fun h=>h.2.2 _ bY,fun h=>⟨by simp,by simp,fun v mv=>by rw[dB.mp mv]; exact h⟩⟩
theorem zB {m:Nat}(h:m≤60):RsG 1 (cnt m):=by
 refine⟨by rw[EB]; exact h,fun r mr=>?_,?_⟩
 ·obtain⟨k,mk,rfl⟩:=cL.mp mr
  have:=kJ.mp mk
  exact⟨rfl,(MI k).mpr (fL (show(k:Int).natAbs<100 by omega) (by decide +kernel))⟩
 ·refine yY (fun a _ b _ e=>?_) VG
  have:=(List.cons.inj e).1
  omega
theorem Jr (m:Nat):[(m:Int)]∉cnt m:=fun mm=>by
 obtain⟨k,mk,e⟩:=cL.mp mm
 have:=kJ.mp mk
 have:=(List.cons.inj e).1
 omega
theorem Od (m:Nat):cnt (m+1)=cnt m++[[(m:Int)]]:=by
 unfold cnt
 rw[List.range_succ,xJ]
 rfl
theorem zC {z0 z1:aD}(n0:nameS z0)(n1:nameS z1)(ne:z0≠z1){w:Nat}(h1:1≤w)(h6:w≤6){R R1:List (List Int)}(h:RsG w R)(h':RsG 1 R1):BkG [(z0,w,R),(z1,1,R1)]:=by
 refine⟨by simp,fun t m=>?_,fun t m=>?_,fun t m=>?_,?_⟩
 ·simp only[cJ,AX,or_false] at m
  rcases m with rfl | rfl
  ·exact n0
  ·exact n1
 ·simp only[cJ,AX,or_false] at m
  rcases m with rfl | rfl
  ·exact⟨h1,h6⟩
  ·exact⟨by simp,by simp⟩
 ·simp only[cJ,AX,or_false] at m
  rcases m with rfl | rfl
  ·exact h
  ·exact h'
 ·simp[ne]
theorem ch0 {z0 z1:aD}(ne:z0≠z1){w:Nat}{R R1 R':List (List Int)}:[((z0,w,R):bS),(z1,1,R1)].map (chR z0 R')=[(z0,w,R'),(z1,1,R1)]:=by
 show [chR z0 R' (z0,w,R),chR z0 R' (z1,1,R1)]=_
 rw[show chR z0 R' (z0,w,R)=(z0,w,R') from yT rfl,show chR z0 R' (z1,1,R1)=(z1,1,R1) from zA (fun e=>ne e.symm)]
theorem ch1 {z0 z1:aD}(ne:z0≠z1){w:Nat}{R R1 R':List (List Int)}:[((z0,w,R):bS),(z1,1,R1)].map (chR z1 R')=[(z0,w,R),(z1,1,R')]:=by
 show [chR z1 R' (z0,w,R),chR z1 R' (z1,1,R1)]=_
 rw[yT (t:=(z1,1,R1)) rfl,zA (show((z0,w,R):bS).1≠z1 from ne)]
theorem ZL (ns:List Int)(hl:ns.length≤63):HS [.list (ns.map bA)]=some (.bool true):=by
 obtain⟨c0,e0⟩:=yP (ns:=ns) (k:=0) (by omega) (by omega)
 obtain⟨c1,e1⟩:=yP (ns:=ns) (k:=1) (by omega) (by omega)
 obtain⟨c2,e2⟩:=yP (ns:=ns) (k:=2) (by omega) (by omega)
 obtain⟨c3,e3⟩:=yP (ns:=ns) (k:=3) (by omega) (by omega)
 obtain⟨zs,ez,lz,hz,hnd⟩:=Nn c0 (n:=2) (by omega)
 obtain⟨z0,z1,rfl⟩ : ∃ z0 z1,zs=[z0,z1]:=by
  match zs,lz with
  | [a,b],_=>exact⟨a,b,rfl⟩
 have n0:=hz z0 (by simp)
 have n1:=hz z1 (by simp)
 have ne:z0≠z1:=by simpa using hnd
 let A:aA:=.list (ns.map bA)
 let N:aA:=.list [.str z0,.str z1]
 refine gQ rfl ?_
 refine jV (d:=N) (bZ (ds:=[.int c0,.int ((2:Nat):Int)]) (eT (bZ (ds:=[A,.int 0]) rfl e0) rfl) ez) (by simp) ?_
 refine jV (d:=.int c1) (bZ (ds:=[A,.int 1]) rfl e1) (by simp) ?_
 obtain⟨q5,eq5⟩:=nX (fE (cF c1 5) (show(0:Int)<(6:Nat) by decide)).1
 have hq5:q5<6:=by have:=(fE (cF c1 5) (show(0:Int)<(6:Nat) by decide)).2; omega
 let w:Nat:=1+q5
 have hw1:1≤w:=by show 1≤1+q5; omega
 have hw6:w≤6:=by show 1+q5≤6; omega
 refine jV (d:=.int w) (bW (a:=.int 1) (b:=.int q5) rfl (bW (a:=.int (cF c1 5)) (b:=.int (6:Nat)) (bZ (ds:=[.int c1,.int 5]) rfl (gT c1 5 (by omega) (by omega))) rfl ((oA _ 6 (by omega)).trans (by rw[eq5]))) (by show some (bA (1+(q5:Int)))=some (bA ((1+q5:Nat):Int)); congr 2)) (by simp) ?_
 have hw0:(0:Int)<(w:Int):=by omega
 obtain⟨a,ea⟩:=nX (fE (cF c1 6) hw0).1
 have ha:a<w:=by have:=(fE (cF c1 6) hw0).2; omega
 refine jV (d:=.int a) (bW (a:=.int (cF c1 6)) (b:=.int w) (bZ (ds:=[.int c1,.int 6]) rfl (gT c1 6 (by omega) (by omega))) rfl ((oA _ w (by omega)).trans (by rw[ea]))) (by simp) ?_
 let bs:Int:=c2%10 ^ 59
 have hbs:=fE c2 (show(0:Int)<10 ^ 59 by decide +kernel)
 refine jV (d:=.int bs) (bW (a:=.int c2) (b:=.int (10 ^ 59)) (bZ (ds:=[A,.int 2]) rfl e2) (bW (a:=.int 10) (b:=.int (59:Nat)) rfl rfl (vF (by omega))) (DD (by decide +kernel))) (by simp) ?_
 let st:Int:=1+c3%10 ^ 57
 have hst:=fE c3 (show(0:Int)<10 ^ 57 by decide +kernel)
 refine jV (d:=.int st) (bW (a:=.int 1) (b:=.int (c3%10 ^ 57)) rfl (bW (a:=.int c3) (b:=.int (10 ^ 57)) (bZ (ds:=[A,.int 3]) rfl e3) (bW (a:=.int 10) (b:=.int (57:Nat)) rfl rfl (vF (by omega))) (DD (by decide +kernel))) rfl) (by simp) ?_
 have bnd : ∀ k:Nat,k≤100->(bs+(k:Int)*st).natAbs<10 ^ 65:=fun k hk=>by
  have s0':0≤st:=by show 0≤1+c3%10 ^ 57; omega
  have s1':st≤10 ^ 57:=by show 1+c3%10 ^ 57≤10 ^ 57; omega
  have m1:0≤(k:Int)*st:=Int.mul_nonneg (by omega) s0'
  have m2:(k:Int)*st≤100*st:=Int.mul_le_mul_of_nonneg_right (by omega) s0'
  have b1:0≤bs/\bs<10 ^ 59:=hbs
  omega
 have hT:TsG [(z0,w),(z1,1)]:=⟨by simp,fun t m=>by
  simp only[cJ,AX,or_false] at m
  rcases m with rfl | rfl
  ·exact⟨n0,hw1,hw6⟩
  ·exact⟨n1,by simp,by simp⟩,by simp[ne]⟩
 refine jV (d:=bkD [(z0,w,[]),(z1,1,[])]) (bZ (ds:=[.list ([(z0,w),(z1,1)].map hE)]) (eT (g:=aL) (uU (ds:=[(z0,w),(z1,1)].map hE) (eT (uX (ds:=[.str z0,.int w]) rfl) (eT (g:=aL) (uX (ds:=[.str z1,.int 1]) rfl) rfl))) rfl) (Kw hT none)) (by simp) ?_
 let S:List (List Int)->Nat->L2.Slot->L2.Slot->L2.Slot->L2.Slot->L2.Slot->bB:=fun R m x9 x10 x11 x12 x13=>[s0 A,s0 N,s0 (.int c1),s0 (.int w),s0 (.int a),s0 (.int bs),s0 (.int st),some (9,bkD [(z0,w,R),(z1,1,cnt m)]),some (9,dtD R),x9,x10,x11,x12,x13]
 refine dP (ρ':=S [] 0 none none none none none) rfl ?_
 have deed : ∀ {R:List (List Int)} {m:Nat} {x9 x10 x11 x12 x13:L2.Slot} {fa:AF} {r:List Int} (way:Int),RsG w R->m≤60->RwG r->r.length=w->fa (vS (S R m x9 x10 x11 x12 x13))=some [aT r,.int way] -> ∃ R',RsG w R'/\vL 7 8 9 jJ (eOp gIx (aF 1) (eC (.int 0))) fa (S R m x9 x10 x11 x12 x13)=some (.nx (S R' m x9 x10 x11 x12 x13)):=fun {R m x9 x10 x11 x12 x13 fa r} way hR hm hr lr ef=>by
  have h:=zC n0 n1 ne hw1 hw6 hR (zB hm)
  obtain⟨R',hR',eD⟩:=Kz h (t:=(z0,w,R)) bY hr lr way
  rw[ch0 ne] at eD
  refine⟨R',hR',?_⟩
  have em:uQ 7 8 9 jJ (eOp gIx (aF 1) (eC (.int 0))) fa (S R m x9 x10 x11 x12 x13)=some (true,S R' m x9 x10 x11 x12 x13):=by
   unfold uQ
   show(if (9:Nat)=9 then((some (dH z0)).bind fun d1=>(fa (vS (S R m x9 x10 x11 x12 x13))).bind fun ds=>(jJ (bkD [(z0,w,R),(z1,1,cnt m)]::d1::dtD R::ds)).bind fun q=>some (q.1,_)) else none)=_
   rw[if_pos rfl,bM,ef,bM,eD,bM]
   rfl
  unfold vL
  rw[em]
  rfl
 refine mV (fun ρ'=>∃ R x9,RsG w R/\ρ'=S R 0 x9 none none none none) ?_ ?_
 ·refine MJ (n:=60) (fun _ ρ'=>∃ R x9,RsG w R/\ρ'=S R 0 x9 none none none none) (avS (yJ rfl (by omega))) ⟨[],none,⟨by simp,fun r m=>by simp at m,.nil⟩,rfl⟩ ?_ ?_
  ·rintro i _ hi ⟨R,x9,hR,rfl⟩
   refine⟨S R 0 (s0 (.int i)) none none none none,rfl,?_⟩
   obtain⟨r,er,hr,lr⟩:=TY (bs+(i:Int)*st) (bnd i (by omega)) hw1 hw6 ha
   obtain⟨R',hR',eN⟩:=deed (R:=R) (m:=0) (x9:=s0 (.int i)) (x10:=none) (x11:=none) (x12:=none) (x13:=none) (fa:=aI (aR qG (aI (eOp cS (aF 5) (eOp fD (aF 9) (aF 6))) (aI (aF 3) (aI (aF 4) aL)))) (aI (eC (.int 0)) aL)) (r:=r) 0 hR (by omega) hr lr (eT (bZ (ds:=[.int (bs+(i:Int)*st),.int w,.int a]) (eT (bW (a:=.int bs) (b:=.int ((i:Int)*st)) rfl (bW (a:=.int i) (b:=.int st) rfl rfl (KM (by omega))) rfl) rfl) er) rfl)
   exact⟨_,eN,_,.inl rfl,R',_,hR',rfl⟩
  ·rintro _ ⟨R,x9,hR,rfl⟩
   exact⟨_,rfl,R,x9,hR,rfl⟩
 rintro _ ⟨R0,x9,hR0,rfl⟩
 refine dP (ρ':=S R0 0 x9 (s0 (.int (0:Nat))) none none none) rfl ?_
 refine mV (fun ρ'=>∃ R m y10 y11 y12 y13,RsG w R/\m≤60/\ρ'=S R m x9 y10 y11 y12 y13) ?_ ?_
 ·obtain⟨ys,ey,ly,_⟩:=Jt bA ns (some 4) (some 64)
  have ei:aV .s (iIt (eOp wW (jQ (aI (eC (.int 0)) (aI (eC (.int 9)) aL))) (nK (aF 0) (oS (eC (.int 4))) (oS (eC (.int 64)))))) (S R0 0 x9 (s0 (.int (0:Nat))) none none none)=some ((0::9::ys).map bA):=EL (bW (a:=.list [.int 0,.int 9]) (b:=.list (ys.map bA)) (uU rfl) ((TJ (ds:=ns.map bA) rfl (pR (i:=4) rfl) (pR (i:=64) rfl)).trans (by rw[ey])) ((Kh (by simp; omega)).trans (by simp)))
  refine TF (ds:=(0::9::ys).map bA) (fun i ρ'=>∃ R m y11 y12 y13,RsG w R/\m=min i 60/\ρ'=S R m x9 (s0 (.int i)) y11 y12 y13) ei ⟨R0,0,none,none,none,hR0,by omega,rfl⟩ ?_ ?_
  ·rintro i d _ hd ⟨R,m,y11,y12,y13,hR,hm,rfl⟩
   rw[gZ] at hd
   obtain⟨c,hc,rfl⟩:=tX.mp hd
   have hi:i<(0::9::ys).length:=(fI.mp hc).1
   have hi':i<100:=by simp at hi; omega
   refine⟨S R m x9 (s0 (.int i)) (s0 (.int c)) y12 y13,rfl,?_⟩
   obtain⟨k,ek⟩:=nX (fE (cF c 7) (show(0:Int)<(70:Nat) by decide)).1
   have hk:k<70:=by have:=(fE (cF c 7) (show(0:Int)<(70:Nat) by decide)).2; omega
   refine jV (d:=.int (bs+(k:Int)*st)) (bW (a:=.int bs) (b:=.int ((k:Int)*st)) rfl (bW (a:=.int k) (b:=.int st) (bW (a:=.int (cF c 7)) (b:=.int (70:Nat)) (bZ (ds:=[.int c,.int 7]) rfl (gT c 7 (by omega) (by omega))) rfl ((oA _ 70 (by omega)).trans (by rw[ek]))) rfl (KM (by omega))) rfl) (by simp[S]) ?_
   show Goes _ (S R m x9 (s0 (.int i)) (s0 (.int c)) (s0 (.int (bs+(k:Int)*st))) y13) _
   refine mV (fun ρ'=>∃ v:Int,v.natAbs<10 ^ 65/\ρ'=S R m x9 (s0 (.int i)) (s0 (.int c)) (s0 (.int v)) y13) ?_ ?_
   ·have t1:bV .s (bOf (eOp gEq (eOp cH (aR fC (aI (aF 11) (aI (eC (.int 8)) aL))) (eC (.int 4))) (eC (.int 0)))) (S R m x9 (s0 (.int i)) (s0 (.int c)) (s0 (.int (bs+(k:Int)*st))) y13)=some (decide (cF c 8%(4:Nat)=0)):=jY (bW (a:=.int (cF c 8%(4:Nat))) (b:=.int 0) (bW (a:=.int (cF c 8)) (b:=.int (4:Nat)) (bZ (ds:=[.int c,.int 8]) rfl (gT c 8 (by omega) (by omega))) rfl (oA _ 4 (by omega))) rfl (MH _ _))
    have hb:=fE c (show(0:Int)<10 ^ 59 by decide +kernel)
    by_cases q:cF c 8%(4:Nat)=0
    ·refine kP (t1.trans (by rw[decide_eq_true q])) (LA (d:=.int (0 - 1 - c%10 ^ 59)) (bW (a:=.int (0 - 1)) (b:=.int (c%10 ^ 59)) rfl (bW (a:=.int c) (b:=.int (10 ^ 59)) rfl (bW (a:=.int 10) (b:=.int (59:Nat)) rfl rfl (vF (by omega))) (DD (by decide +kernel))) rfl) (by show 12<14; omega) ⟨_,rfl,_,?_,rfl⟩)
     omega
    ·exact⟨_,hU (t1.trans (by rw[decide_eq_false q])),_,rfl,_,bnd k (by omega),rfl⟩
   rintro _ ⟨v,hv,rfl⟩
   obtain⟨r,er,hr,lr⟩:=TY v hv hw1 hw6 ha
   refine jV (d:=aT r) (bZ (ds:=[.int v,.int w,.int a]) rfl er) (by simp[S]) ?_
   show Goes _ (S R m x9 (s0 (.int i)) (s0 (.int c)) (s0 (.int v)) (s0 (aT r))) _
   have hm60:m≤60:=by omega
   obtain⟨R',hR',eN⟩:=deed (R:=R) (m:=m) (x9:=x9) (x10:=s0 (.int i)) (x11:=s0 (.int c)) (x12:=s0 (.int v)) (x13:=s0 (aT r)) (fa:=aI (aF 13) (aI (eOp cH (aR fC (aI (aF 11) (aI (eC (.int 9)) aL))) (eC (.int 3))) aL)) (r:=r) (cF c 9%(3:Nat)) hR hm60 hr lr (eT rfl (eT (g:=aL) (bW (a:=.int (cF c 9)) (b:=.int (3:Nat)) (bZ (ds:=[.int c,.int 9]) rfl (gT c 9 (by omega) (by omega))) rfl (oA _ 3 (by omega))) rfl))
   refine dP eN ?_
   have h:=zC n0 n1 ne hw1 hw6 hR' (zB hm60)
   have mt:((z0,w,R'):bS)∈[((z0,w,R'):bS),(z1,1,cnt m)]:=bY
   obtain⟨nr,enr,hnr⟩:=Cn c hr
   rw[lr] at hnr
   obtain⟨y,ey2⟩:=nX (fE (cF c 12) (show(0:Int)<(3:Nat) by decide)).1
   refine dP (hU (m:=.a) (ρ:=S R' m x9 (s0 (.int i)) (s0 (.int c)) (s0 (.int v)) (s0 (aT r))) (mW (x:=true) (bZ (ds:=[bkD [(z0,w,R'),(z1,1,cnt m)],.str z0,nr,.int y]) (eT rfl (eT rfl (eT (bZ (ds:=[.int c,aT r]) rfl enr) (eT (g:=aL) (bW (a:=.int (cF c 12)) (b:=.int (3:Nat)) (bZ (ds:=[.int c,.int 12]) rfl (gT c 12 (by omega) (by omega))) rfl ((oA _ 3 (by omega)).trans (by rw[ey2]))) rfl)))) (Ew h mt hnr)))) ?_
   refine dP (hU (m:=.a) (ρ:=S R' m x9 (s0 (.int i)) (s0 (.int c)) (s0 (.int v)) (s0 (aT r))) (jY (bW (a:=.bool (decide (r∈R'))) (b:=.bool (decide (r∈R'))) (bZ (ds:=[bkD [(z0,w,R'),(z1,1,cnt m)],.str z0,aT r]) (iE (ds:=[.str z0,aT r]) rfl rfl) (ZM h none mt hr lr)) (bW (a:=aT r) (b:=dtD R') rfl rfl (HC r R')) (by cases decide (r∈R') <;> rfl)))) ?_
   have m2:((z1,1,cnt m):bS)∈[((z0,w,R'):bS),(z1,1,cnt m)]:=cA _ bY
   refine dP (ρ':=S R' (min (i+1) 60) x9 (s0 (.int i)) (s0 (.int c)) (s0 (.int v)) (s0 (aT r))) ?_ ?_
   ·unfold CB
    have t3:bV .s (bOf (eOp gLt (aF 10) (eC (.int 60)))) (S R' m x9 (s0 (.int i)) (s0 (.int c)) (s0 (.int v)) (s0 (aT r)))=some (decide ((i:Int)<60)):=rfl
    rw[t3]
    by_cases q:(i:Int)<60
    ·have emi:m=i:=by omega
     subst emi
     rw[decide_eq_true q]
     have eG:=MT h m2 (r:=[(m:Int)]) ((MI m).mpr (fL (show(m:Int).natAbs<100 by omega) (by decide +kernel))) rfl (Jr m) (by show(cnt m).length<60; rw[EB]; omega)
     rw[ch1 ne] at eG
     have em:qN 7 mD (aI (eOp gIx (aF 1) (eC (.int 1))) (aI (iK (aI (aF 10) aL)) aL)) (S R' m x9 (s0 (.int m)) (s0 (.int c)) (s0 (.int v)) (s0 (aT r)))=some (true,S R' (m+1) x9 (s0 (.int m)) (s0 (.int c)) (s0 (.int v)) (s0 (aT r))):=by
      unfold qN
      have ef:aI (eOp gIx (aF 1) (eC (.int 1))) (aI (iK (aI (aF 10) aL)) aL) (vS (S R' m x9 (s0 (.int m)) (s0 (.int c)) (s0 (.int v)) (s0 (aT r))))=some [.str z1,aT [(m:Int)]]:=eT rfl (eT (g:=aL) (uX (ds:=[.int m]) rfl) rfl)
      show((aI (eOp gIx (aF 1) (eC (.int 1))) (aI (iK (aI (aF 10) aL)) aL) (vS (S R' m x9 (s0 (.int m)) (s0 (.int c)) (s0 (.int v)) (s0 (aT r))))).bind fun ds=>(mD (bkD [(z0,w,R'),(z1,1,cnt m)]::ds)).bind fun q=>some (q.1,_))=_
      rw[ef,bM,eG,bM]
      show some (true,_)=some (true,[s0 A,s0 N,s0 (.int c1),s0 (.int w),s0 (.int a),s0 (.int bs),s0 (.int st),some (9,bkD [(z0,w,R'),(z1,1,cnt (m+1))]),some (9,dtD R'),x9,s0 (.int m),s0 (.int c),s0 (.int v),s0 (aT r)])
      rw[Od]
      rfl
     show((qN 7 mD _ _).bind fun q=>if q.1=true then some (Out.nx q.2) else none)=_
     rw[em,show min (m+1) 60=m+1 by omega]
     rfl
    ·rw[decide_eq_false q,show min (i+1) 60=m by omega]
     rfl
   let m':=min (i+1) 60
   have hm':m'≤60:=Nat.min_le_right _ _
   have h':=zC n0 n1 ne hw1 hw6 hR' (zB hm')
   refine jV (d:=.int ((i+1:Nat):Int)) (bW (a:=.int i) (b:=.int 1) rfl rfl (by show some (bA ((i:Int)+1))=_; congr 2)) (by simp[S]) ?_
   show Goes _ (S R' m' x9 (s0 (.int ((i+1:Nat):Int))) (s0 (.int c)) (s0 (.int v)) (s0 (aT r))) _
   have sz:(([((z0,w,R'):bS),(z1,1,cnt m')]).map fun t=>(t.2.2.length:Int)).sum=(R'.length:Int)+(m':Int):=by
    simp[EB]
   have mn:yB [.int ((i+1:Nat):Int),.int 60]=some (.int m'):=by
    show some (bA (if (60:Int)<((i+1:Nat):Int) then 60 else((i+1:Nat):Int)))=_
    congr 2
    show(if (60:Int)<((i+1:Nat):Int) then(60:Int) else((i+1:Nat):Int))=((min (i+1) 60:Nat):Int)
    split <;> omega
   refine⟨_,hU (m:=.a) (jY (bW (a:=.int ((R'.length:Int)+(m':Int))) (b:=.int ((R'.length:Int)+(m':Int))) (bZ (iE (ds:=[]) rfl rfl) ((Ko h' none).trans (by rw[sz]))) (bW (a:=.int R'.length) (b:=.int m') (bZ (ds:=[dtD R']) rfl (TZ R')) (bZ (ds:=[.int ((i+1:Nat):Int),.int 60]) rfl mn) rfl) ?_)),_,.inl rfl,R',m',_,_,_,hR',rfl,rfl⟩
   unfold gNe
   show some (eX (!cO (.int _) (.int _)))=_
   simp[cO]
  ·rintro _ ⟨R,m,y11,y12,y13,hR,hm,rfl⟩
   exact⟨_,rfl,R,m,_,y11,y12,y13,hR,by omega,rfl⟩
 rintro _ ⟨R,m,y10,y11,y12,y13,hR,hm,rfl⟩
 have h:=zC n0 n1 ne hw1 hw6 hR (zB hm)
 exact MV (d:=.bool true) (bW (a:=iQ (srt R)) (b:=iQ (srt R)) (bZ (iE (ds:=[.str z0]) rfl rfl) (Lk h none (t:=(z0,w,R)) bY)) (bZ (ds:=[dtD R]) rfl (MD hw1 hR)) (Ka _)) rfl rfl
noncomputable def AE (K:aH):Sp:=fun vs H Q _=>∃ (a:aB) (ns:List Int),vs=[.ref a]/\SqL K H a (ns.map V.int)/\ns.length≤63 /\ ∀ H',Q (.bl true) H'
theorem ZR {K:aH} : ∀ vs H Q E,AE K vs H Q E->spF K 0 HS vs H Q E:=fun vs H Q E gh=>by
 obtain⟨a,ns,ev,hS,hl,k⟩:=gh
 subst ev
 have e0:hid H (fun _=>False)=H:=by
  funext b
  unfold hid
  rw[if_neg (fun z=>z)]
 refine⟨fun _=>False,[.list (ns.map bA)],.bool true,fun _ z=>z.elim,?_,ZL ns hl,cG fun v H' _ r=>?_⟩
 ·rw[e0]
  exact Aad.mpr ⟨_,_,rfl,Abf.mpr ⟨a,_,rfl,hS,OO ns⟩,Aan.mpr rfl⟩
 ·rw[Aak.mp r]
  exact k H'
def Hl (K:aH)(n:aD)(st:bG)(f:aB):Prop:=∃ (od an:Option aB) (sl:Array (Option aE)) (oc kV dc pm cd ct:aE),cI K bU n=some (some (.ref f))/\K.lookup f=some ⟨oc,od,.func (iY n n (jG st) (gU st) (bQ st) .none kV dc pm an cd ct),sl⟩/\tW K cd n=true/\kX K (.ref f)=true
def Hs (K:aH)(n:aD)(st:bG)(f:aB):Prop:=∃ fd,Fun K n n st f fd/\cI K bU n=some (some (.ref f))/\kX K (.ref f)=true
section
variable {K:aH}{n:aD}{st:bG}{f:aB}
theorem Bdl {od an:Option aB}{sl:Array (Option aE)}{oc kV dc pm cd ct:aE}(a:cI K bU n=some (some (.ref f)))(l:K.lookup f=some ⟨oc,od,.func (iY n n (jG st) (gU st) (bQ st) .none kV dc pm an cd ct),sl⟩)(c:tW K cd n=true)(k:kX K (.ref f)=true):Hl K n st f:=⟨_,_,_,_,_,_,_,_,_,a,l,c,k⟩
theorem Ahg {od an:Option aB}{sl:Array (Option aE)}{oc kV dc pm cd ct:aE}(a:cI K bU n=some (some (.ref f)))(l:K.lookup f=some ⟨oc,od,.func (iY n n (jG st) (gU st) (bQ st) .none kV dc pm an cd ct),sl⟩)(c:tW K cd n=true)(k:kX K (.ref f)=true):Hs K n st f:=⟨_,CV (st:=st) l c k,a,k⟩
noncomputable def Hs.fd (h:Hs K n st f):dS:=Classical.choose h
theorem Hs.fn (h:Hs K n st f):Fun K n n st f h.fd:=(uE h).1
theorem Hs.dfX {P:bC}{w:aW}{mg:aD->Option aE}{h base:aQ}{k:Nat}{ps:List aD}{sp:Sp}(X:K.In h)(G:h.Ns bU mg)(H:Hs K n st f)(ok:FnOk P w K mg base (CXR base P w) k f H.fd ps sp)(b:Binds K H.fd ps []):DefX P w K mg base n k ps sp:=⟨_,_,ok,eU X G (uE H).2.1,(uE H).2.2,b⟩
theorem Hs.df {P:bC}{w:aW}{mg:aD->Option aE}{h base:aQ}{k:Nat}{ps:List aD}{sp:Sp}(X:K.In h)(G:h.Ns bU mg)(H:Hs K n st f)(ok:FnOk P w K mg base CX0 k f H.fd ps sp)(b:Binds K H.fd ps []):Def P w K mg base n k ps sp:=⟨_,_,ok,eU X G (uE H).2.1,(uE H).2.2,b⟩
end
def Hm (K:aH)(m q:aD)(st:bG)(cB f:aB):Prop:=∃ fd,Fun K m q st f fd/\Meth K cB m f
section
variable {K:aH}{m q:aD}{st:bG}{cB f:aB}
theorem An4 {od an:Option aB}{sl:Array (Option aE)}{oc kV dc pm cd ct:aE}(a:kH K (.ref cB) m=some (some (.ref f)))(i:IG K (.ref f)=true)(l:K.lookup f=some ⟨oc,od,.func (iY m q (jG st) (gU st) (bQ st) .none kV dc pm an cd ct),sl⟩)(c:tW K cd q=true)(k:kX K (.ref f)=true):Hm K m q st cB f:=⟨_,CV (st:=st) l c k,a,i,k⟩
noncomputable def Hm.fd (h:Hm K m q st cB f):dS:=Classical.choose h
theorem Hm.fn (h:Hm K m q st cB f):Fun K m q st f h.fd:=(uE h).1
theorem Hm.me (h:Hm K m q st cB f):Meth K cB m f:=(uE h).2
end
theorem iT {us:List aE}{n:Nat}(h:us.length=n+1) : ∃ a r,us=a::r/\r.length=n:=by
 cases us with
 | nil=>exact absurd h (by simp)
 | cons a r=>exact⟨a,r,rfl,Nat.succ.inj h⟩
theorem nE {K:aH}{x qual:aD}{st:bG}{f:aB}{fd:dS}{ps:List aD}(F:Fun K x qual st f fd)(hp:ps.length=1)(h : ∀ (kV doc pm:aE) (an:Option aB) (cdv ct:aE) a,tR (iY x qual (jG st) (gU st) (bQ st) .none kV doc pm an cdv ct) ⟨[a],[]⟩=pure (ps.zip [a])):Binds K fd ps []:=F.binds fun kV doc pm an cdv ct u0 hl=>by
 have g0:=hl.trans hp
 clear hl
 obtain⟨a,u1,rfl,g1⟩:=iT g0
 cases uC g1
 exact h kV doc pm an cdv ct a
theorem qM {K:aH}{x qual:aD}{st:bG}{f:aB}{fd:dS}{ps:List aD}(F:Fun K x qual st f fd)(hp:ps.length=2)(h : ∀ (kV doc pm:aE) (an:Option aB) (cdv ct:aE) a b,tR (iY x qual (jG st) (gU st) (bQ st) .none kV doc pm an cdv ct) ⟨[a,b],[]⟩=pure (ps.zip [a,b])):Binds K fd ps []:=F.binds fun kV doc pm an cdv ct u0 hl=>by
 have g0:=hl.trans hp
 clear hl
 obtain⟨a,u1,rfl,g1⟩:=iT g0
 obtain⟨b,u2,rfl,g2⟩:=iT g1
 cases uC g2
 exact h kV doc pm an cdv ct a b
theorem nL {K:aH}{x qual:aD}{st:bG}{f:aB}{fd:dS}{ps:List aD}(F:Fun K x qual st f fd)(hp:ps.length=3)(h : ∀ (kV doc pm:aE) (an:Option aB) (cdv ct:aE) a b c,tR (iY x qual (jG st) (gU st) (bQ st) .none kV doc pm an cdv ct) ⟨[a,b,c],[]⟩=pure (ps.zip [a,b,c])):Binds K fd ps []:=F.binds fun kV doc pm an cdv ct u0 hl=>by
 have g0:=hl.trans hp
 clear hl
 obtain⟨a,u1,rfl,g1⟩:=iT g0
 obtain⟨b,u2,rfl,g2⟩:=iT g1
 obtain⟨c,u3,rfl,g3⟩:=iT g2
 cases uC g3
 exact h kV doc pm an cdv ct a b c
theorem XM {K:aH}{x qual:aD}{st:bG}{f:aB}{fd:dS}{ps:List aD}(F:Fun K x qual st f fd)(hp:ps.length=4)(h : ∀ (kV doc pm:aE) (an:Option aB) (cdv ct:aE) a b c d,tR (iY x qual (jG st) (gU st) (bQ st) .none kV doc pm an cdv ct) ⟨[a,b,c,d],[]⟩=pure (ps.zip [a,b,c,d])):Binds K fd ps []:=F.binds fun kV doc pm an cdv ct u0 hl=>by
 have g0:=hl.trans hp
 clear hl
 obtain⟨a,u1,rfl,g1⟩:=iT g0
 obtain⟨b,u2,rfl,g2⟩:=iT g1
 obtain⟨c,u3,rfl,g3⟩:=iT g2
 obtain⟨d,u4,rfl,g4⟩:=iT g3
 cases uC g4
 exact h kV doc pm an cdv ct a b c d
theorem WK {K:aH}{x qual:aD}{st:bG}{f:aB}{fd:dS}{ps:List aD}(F:Fun K x qual st f fd)(hp:ps.length=5)(h : ∀ (kV doc pm:aE) (an:Option aB) (cdv ct:aE) a b c d e,tR (iY x qual (jG st) (gU st) (bQ st) .none kV doc pm an cdv ct) ⟨[a,b,c,d,e],[]⟩=pure (ps.zip [a,b,c,d,e])):Binds K fd ps []:=F.binds fun kV doc pm an cdv ct u0 hl=>by
 have g0:=hl.trans hp
 clear hl
 obtain⟨a,u1,rfl,g1⟩:=iT g0
 obtain⟨b,u2,rfl,g2⟩:=iT g1
 obtain⟨c,u3,rfl,g3⟩:=iT g2
 obtain⟨d,u4,rfl,g4⟩:=iT g3
 obtain⟨e,u5,rfl,g5⟩:=iT g4
 cases uC g5
 exact h kV doc pm an cdv ct a b c d e
set_option maxHeartbeats 4000000 in
theorem all_mk {l:UR}{w:aW}{K:aH}{h:aQ}{mg:aD->Option aE}{fa f_is_whole f_is_name f_is_pair f_Book_tables f_Book_size f__law_cell f__law_mix f__law_row f_is_value f_is_width f_Book_want_table f__law_names f__law_no_row f_is_row f_are_widths f_Book_rows f_Book___init__ f_Book_want_row f_Book_put f_Book_drop f_Book_has f__law_put f__law_refused f__law_deed f_law:aB}(X:K.In h)(G:h.Ns bU mg)(hfa:mg "law" = some (.ref fa)){t_LETTERS t_FIGURES t_MOST_SIGNS t_MOST_WIDTH t_MOST_TABLES t_MOST_ROWS:Tok}
  {cB:aB} (aC:cI K bU "Book" = some (some (.ref cB))) (pg:AS K cB Str.empty=true) (hd:II K cB=true) (po:UJ K cB=true) (sa:kH K (.ref cB) "__setattr__" = some (some (.builtin "object.__setattr__"))) (mk:UO K cB=true) (kc:kX K (.ref cB)=true) (nW:kH K (.ref cB) "wide" = some none) (nH:kH K (.ref cB) "held" = some none)
  (h_is_whole:Hs K "is_whole" GD f_is_whole) (h_is_name:Hs K "is_name" zG f_is_name) (h_is_pair:Hs K "is_pair" FN f_is_pair) (h_Book_tables:Hm K "tables" "Book.tables" GX cB f_Book_tables) (h_Book_size:Hm K "size" "Book.size" zU cB f_Book_size) (h__law_cell:Hs K "_law_cell" GL f__law_cell) (h__law_mix:Hs K "_law_mix" FW f__law_mix) (h__law_row:Hs K "_law_row" GF f__law_row) (h_is_value:Hs K "is_value" GC f_is_value) (h_is_width:Hs K "is_width" FZ f_is_width) (h_Book_want_table:Hm K "want_table" "Book.want_table" HB cB f_Book_want_table) (h__law_names:Hs K "_law_names" sU f__law_names) (h__law_no_row:Hs K "_law_no_row" GW f__law_no_row) (h_is_row:Hs K "is_row" yU f_is_row) (h_are_widths:Hs K "are_widths" wL f_are_widths) (h_Book_rows:Hm K "rows" "Book.rows" GP cB f_Book_rows) (h_Book___init__:Hm K "__init__" "Book.__init__" GZ cB f_Book___init__) (h_Book_want_row:Hm K "want_row" "Book.want_row" GY cB f_Book_want_row) (h_Book_put:Hm K "put" "Book.put" zQ cB f_Book_put) (h_Book_drop:Hm K "drop" "Book.drop" zT cB f_Book_drop) (h_Book_has:Hm K "has" "Book.has" FY cB f_Book_has) (h__law_put:Hs K "_law_put" zO f__law_put) (h__law_refused:Hs K "_law_refused" HA f__law_refused) (h__law_deed:Hs K "_law_deed" GN f__law_deed) (h_law:Hl K "law" pL f_law)
  {c_NoRow c_Full c_NoTable c_AskError c_TooMany c_NoDeed c_NoName c_NoText:aB} (y_NoRow:cI K bU "NoRow" = some (some (.ref c_NoRow))) (y_Full:cI K bU "Full" = some (some (.ref c_Full))) (y_NoTable:cI K bU "NoTable" = some (some (.ref c_NoTable))) (y_AskError:cI K bU "AskError" = some (some (.ref c_AskError))) (y_TooMany:cI K bU "TooMany" = some (some (.ref c_TooMany))) (y_NoDeed:cI K bU "NoDeed" = some (some (.ref c_NoDeed))) (y_NoName:cI K bU "NoName" = some (some (.ref c_NoName))) (y_NoText:cI K bU "NoText" = some (some (.ref c_NoText)))
  (x_NoTable:xE K c_NoTable [.type "ValueError",.type "Exception",.type "BaseException",.type "object"] "ValueError.__new__" = true) (x_NoRow:xE K c_NoRow [.type "ValueError",.type "Exception",.type "BaseException",.type "object"] "ValueError.__new__" = true) (x_Full:xE K c_Full [.type "ValueError",.type "Exception",.type "BaseException",.type "object"] "ValueError.__new__" = true) (xc:XCls K c_NoRow) (xc_Full:XCls K c_Full)
  (e_AskError:tV K (.ref c_NoRow) (.ref c_AskError)=some true) (e_NoRow:tV K (.ref c_NoRow) (.ref c_NoRow)=some true)
  (i_TooMany:fY K (.ref c_NoRow) (.ref c_TooMany)=some false) (i_NoRow:fY K (.ref c_NoRow) (.ref c_NoRow)=some true) (i_NoTable:fY K (.ref c_NoRow) (.ref c_NoTable)=some false) (i_NoDeed:fY K (.ref c_NoRow) (.ref c_NoDeed)=some false) (i_NoName:fY K (.ref c_NoRow) (.ref c_NoName)=some false) (i_NoText:fY K (.ref c_NoRow) (.ref c_NoText)=some false) (i_ValueError:fY K (.ref c_NoRow) (.type "ValueError")=some true) (i_Full:fY K (.ref c_NoRow) (.ref c_Full)=some false)
  (e_AskError_Full:tV K (.ref c_Full) (.ref c_AskError)=some true)
  (i_TooMany_Full:fY K (.ref c_Full) (.ref c_TooMany)=some false) (i_NoRow_Full:fY K (.ref c_Full) (.ref c_NoRow)=some false) (i_NoTable_Full:fY K (.ref c_Full) (.ref c_NoTable)=some false) (i_NoDeed_Full:fY K (.ref c_Full) (.ref c_NoDeed)=some false) (i_NoName_Full:fY K (.ref c_Full) (.ref c_NoName)=some false) (i_NoText_Full:fY K (.ref c_Full) (.ref c_NoText)=some false) (i_ValueError_Full:fY K (.ref c_Full) (.type "ValueError")=some true) (i_Full_Full:fY K (.ref c_Full) (.ref c_Full)=some true)
  (z_isinstance:cI K bU "isinstance" = some none) (z_int:cI K bU "int" = some none) (z_bool:cI K bU "bool" = some none) (z_abs:cI K bU "abs" = some none) (z_range:cI K bU "range" = some none) (z_len:cI K bU "len" = some none) (z_str:cI K bU "str" = some none) (z_all:cI K bU "all" = some none) (z_any:cI K bU "any" = some none) (z_list:cI K bU "list" = some none) (z_tuple:cI K bU "tuple" = some none) (z_dict:cI K bU "dict" = some none) (z_set:cI K bU "set" = some none) (z_sorted:cI K bU "sorted" = some none) (z_sum:cI K bU "sum" = some none) (z_min:cI K bU "min" = some none) (z_max:cI K bU "max" = some none) (z_enumerate:cI K bU "enumerate" = some none) (z_zip:cI K bU "zip" = some none) (z_reversed:cI K bU "reversed" = some none) (z_ValueError:cI K bU "ValueError" = some none) (g_LETTERS:cI K bU "LETTERS" = some (some (.str "abcdefghijklmnopqrstuvwxyz" t_LETTERS))) (g_FIGURES:cI K bU "FIGURES" = some (some (.str "0123456789" t_FIGURES))) (g_MOST_SIGNS:cI K bU "MOST_SIGNS" = some (some (.int 12 t_MOST_SIGNS))) (g_MOST_WIDTH:cI K bU "MOST_WIDTH" = some (some (.int 6 t_MOST_WIDTH))) (g_MOST_TABLES:cI K bU "MOST_TABLES" = some (some (.int 12 t_MOST_TABLES))) (g_MOST_ROWS:cI K bU "MOST_ROWS" = some (some (.int 60 t_MOST_ROWS))) :
  ∃ fd:dS,(∀ (s:aG) (v:aE),rK s fd ⟨[v],[]⟩ [("_law_script",v)]) /\ ∀ base:aQ,K.In base->base.Ns bU mg->FnOk l.prog w K mg base CX0 8 fa fd ["_law_script"] (AE K):=by
 obtain⟨_,an_law,_,_,kV_law,dc_law,pm_law,cd_law,ct_law,a_law,l_law,c_law,k_law⟩:=h_law
 have e:=hfa.symm.trans (eU X G a_law)
 cases e
 have B:Blt mg:=⟨fR X G z_isinstance,fR X G z_int,fR X G z_bool,fR X G z_abs,fR X G z_range,fR X G z_len,fR X G z_str,fR X G z_all,fR X G z_any,fR X G z_list,fR X G z_tuple,fR X G z_dict,fR X G z_set,fR X G z_sorted,fR X G z_sum,fR X G z_min,fR X G z_max,fR X G z_enumerate,fR X G z_zip,fR X G z_reversed,fR X G z_ValueError⟩
 have C:Cst mg:=⟨⟨_,eU X G g_LETTERS⟩,⟨_,eU X G g_FIGURES⟩,⟨_,eU X G g_MOST_SIGNS⟩,⟨_,eU X G g_MOST_WIDTH⟩,⟨_,eU X G g_MOST_TABLES⟩,⟨_,eU X G g_MOST_ROWS⟩⟩
 have cl:Cls K cB:=⟨pg,hd,po,sa⟩
 have hB:cX K "Book" = some (.ref cB):=yL aC
 have V:Xcs K mg:=⟨⟨_,hB,cl,nW,nH⟩,⟨_,y_NoTable,x_NoTable⟩,⟨_,y_NoRow,x_NoRow⟩,⟨_,y_Full,x_Full⟩,⟨_,_,y_NoRow,eU X G y_AskError,e_AskError⟩,⟨_,_,y_NoRow,eU X G y_NoRow,e_NoRow⟩,⟨_,_,y_NoRow,eU X G y_TooMany,xc,i_TooMany⟩,⟨_,_,y_NoRow,eU X G y_NoRow,xc,i_NoRow⟩,⟨_,_,y_NoRow,eU X G y_NoTable,xc,i_NoTable⟩,⟨_,_,y_NoRow,eU X G y_NoDeed,xc,i_NoDeed⟩,⟨_,_,y_NoRow,eU X G y_NoName,xc,i_NoName⟩,⟨_,_,y_NoRow,eU X G y_NoText,xc,i_NoText⟩,⟨_,y_NoRow,fR X G z_ValueError,xc,i_ValueError⟩,⟨_,_,y_NoRow,eU X G y_Full,xc,i_Full⟩,⟨_,_,y_Full,eU X G y_AskError,e_AskError_Full⟩,⟨_,_,y_Full,eU X G y_TooMany,xc_Full,i_TooMany_Full⟩,⟨_,_,y_Full,eU X G y_NoRow,xc_Full,i_NoRow_Full⟩,⟨_,_,y_Full,eU X G y_NoTable,xc_Full,i_NoTable_Full⟩,⟨_,_,y_Full,eU X G y_NoDeed,xc_Full,i_NoDeed_Full⟩,⟨_,_,y_Full,eU X G y_NoName,xc_Full,i_NoName_Full⟩,⟨_,_,y_Full,eU X G y_NoText,xc_Full,i_NoText_Full⟩,⟨_,y_Full,fR X G z_ValueError,xc_Full,i_ValueError_Full⟩,⟨_,_,y_Full,eU X G y_Full,xc_Full,i_Full_Full⟩⟩
 refine⟨iY "law" "law" (jG pL) (gU pL) (bQ pL) .none kV_law dc_law pm_law an_law cd_law ct_law,fun s v=>.of_eq rfl,fun base _ _=>?_⟩
 have D_is_whole:Def l.prog w K mg base "is_whole" 1 sT (spF K 0 oX):=h_is_whole.df X G (Fg h_is_whole.fn B C V ) (nE h_is_whole.fn (ps:=sT) rfl fun _ _ _ _ _ _ _=>rfl)
 have D_is_name:Def l.prog w K mg base "is_name" 1 sL (spF K 0 kA):=h_is_name.df X G (Dt h_is_name.fn B C V ) (nE h_is_name.fn (ps:=sL) rfl fun _ _ _ _ _ _ _=>rfl)
 have D_is_pair:Def l.prog w K mg base "is_pair" 1 vU (spF K 0 qF):=h_is_pair.df X G (Dh h_is_pair.fn B C V ) (nE h_is_pair.fn (ps:=vU) rfl fun _ _ _ _ _ _ _=>rfl)
 have D_Book_tables:MethX l.prog w K mg base "Book" "tables" 1 zV (spX K 0 RX):=⟨⟨_,_,_,hB,cl,h_Book_tables.me,Ho h_Book_tables.fn B C V ,(nE h_Book_tables.fn (ps:=zV) rfl fun _ _ _ _ _ _ _=>rfl)⟩⟩
 have D_Book_size:MethX l.prog w K mg base "Book" "size" 1 wD (spX K 0 wH):=⟨⟨_,_,_,hB,cl,h_Book_size.me,Gh h_Book_size.fn B C V ,(nE h_Book_size.fn (ps:=wD) rfl fun _ _ _ _ _ _ _=>rfl)⟩⟩
 have D__law_cell:Def l.prog w K mg base "_law_cell" 1 wA (spF K 0 lJ):=h__law_cell.df X G (Gg h__law_cell.fn B C V ) (qM h__law_cell.fn (ps:=wA) rfl fun _ _ _ _ _ _ _ _=>rfl)
 have D__law_mix:Def l.prog w K mg base "_law_mix" 1 qH (spF K 0 fC):=h__law_mix.df X G (Gb h__law_mix.fn B C V ) (qM h__law_mix.fn (ps:=qH) rfl fun _ _ _ _ _ _ _ _=>rfl)
 have D__law_row:Def l.prog w K mg base "_law_row" 1 vW (spF K 0 qG):=h__law_row.df X G (Gc h__law_row.fn B C V ) (nL h__law_row.fn (ps:=vW) rfl fun _ _ _ _ _ _ _ _ _=>rfl)
 have D_is_value:Def l.prog w K mg base "is_value" 2 vY (spF K 0 sR):=h_is_value.df X G (Fn h_is_value.fn B C V D_is_whole) (nE h_is_value.fn (ps:=vY) rfl fun _ _ _ _ _ _ _=>rfl)
 have D_is_width:Def l.prog w K mg base "is_width" 2 vZ (spF K 0 mZ):=h_is_width.df X G (Ge h_is_width.fn B C V D_is_whole) (nE h_is_width.fn (ps:=vZ) rfl fun _ _ _ _ _ _ _=>rfl)
 have D_Book_want_table:MethX l.prog w K mg base "Book" "want_table" 2 sW (spX K 0 pA):=⟨⟨_,_,_,hB,cl,h_Book_want_table.me,Ib h_Book_want_table.fn B C V D_is_name,(qM h_Book_want_table.fn (ps:=sW) rfl fun _ _ _ _ _ _ _ _=>rfl)⟩⟩
 have D__law_names:Def l.prog w K mg base "_law_names" 2 wK (spF K 1 sV):=h__law_names.df X G (He h__law_names.fn B C V D__law_mix) (qM h__law_names.fn (ps:=wK) rfl fun _ _ _ _ _ _ _ _=>rfl)
 have D__law_no_row:Def l.prog w K mg base "_law_no_row" 2 wI (spF K 0 wQ):=h__law_no_row.df X G (Hn h__law_no_row.fn B C V D__law_mix) (qM h__law_no_row.fn (ps:=wI) rfl fun _ _ _ _ _ _ _ _=>rfl)
 have D_is_row:Def l.prog w K mg base "is_row" 3 vN (spF K 0 mB):=h_is_row.df X G (Cz h_is_row.fn B C V D_is_value) (nE h_is_row.fn (ps:=vN) rfl fun _ _ _ _ _ _ _=>rfl)
 have D_are_widths:Def l.prog w K mg base "are_widths" 3 wM (spF K 0 oZ):=h_are_widths.df X G (Hg h_are_widths.fn B C V D_is_name D_is_pair D_is_width) (nE h_are_widths.fn (ps:=wM) rfl fun _ _ _ _ _ _ _=>rfl)
 have D_Book_rows:MethX l.prog w K mg base "Book" "rows" 3 wB (spX K 1 wC):=⟨⟨_,_,_,hB,cl,h_Book_rows.me,Gv h_Book_rows.fn B C V D_Book_want_table,(qM h_Book_rows.fn (ps:=wB) rfl fun _ _ _ _ _ _ _ _=>rfl)⟩⟩
 have D_Book___init__:MakeX l.prog w K mg base "Book" 4 wO sX:=⟨⟨_,_,_,hB,⟨mk,h_Book___init__.me.at_,h_Book___init__.me.fn,kc⟩,Hy h_Book___init__.fn B C V D_are_widths,(qM h_Book___init__.fn (ps:=wO) rfl fun _ _ _ _ _ _ _ _=>rfl),eU X G aC⟩,Ee⟩
 have D_Book_want_row:MethX l.prog w K mg base "Book" "want_row" 4 nC (spX K 0 fN):=⟨⟨_,_,_,hB,cl,h_Book_want_row.me,Hz h_Book_want_row.fn B C V D_Book_want_table D_is_row,(nL h_Book_want_row.fn (ps:=nC) rfl fun _ _ _ _ _ _ _ _ _=>rfl)⟩⟩
 have D_Book_put:MethX l.prog w K mg base "Book" "put" 5 lK (spX K 0 lL):=⟨⟨_,_,_,hB,cl,h_Book_put.me,Ga h_Book_put.fn B C V D_Book_want_row,(nL h_Book_put.fn (ps:=lK) rfl fun _ _ _ _ _ _ _ _ _=>rfl)⟩⟩
 have DM_Book_put:MethM l.prog w K mg base "Book" "put" 5 lK mD:=⟨⟨_,_,_,hB,cl,h_Book_put.me,Fz h_Book_put.fn B C V D_Book_want_row,(nL h_Book_put.fn (ps:=lK) rfl fun _ _ _ _ _ _ _ _ _=>rfl)⟩,QL⟩
 have D_Book_drop:MethX l.prog w K mg base "Book" "drop" 5 nA (spX K 0 wF):=⟨⟨_,_,_,hB,cl,h_Book_drop.me,Gp h_Book_drop.fn B C V D_Book_want_row,(nL h_Book_drop.fn (ps:=nA) rfl fun _ _ _ _ _ _ _ _ _=>rfl)⟩⟩
 have DM_Book_drop:MethM l.prog w K mg base "Book" "drop" 5 nA nB:=⟨⟨_,_,_,hB,cl,h_Book_drop.me,Gz h_Book_drop.fn B C V D_Book_want_row,(nL h_Book_drop.fn (ps:=nA) rfl fun _ _ _ _ _ _ _ _ _=>rfl)⟩,QL⟩
 have D_Book_has:MethX l.prog w K mg base "Book" "has" 5 sS (spX K 0 oY):=⟨⟨_,_,_,hB,cl,h_Book_has.me,Fi h_Book_has.fn B C V D_Book_want_row,(nL h_Book_has.fn (ps:=sS) rfl fun _ _ _ _ _ _ _ _ _=>rfl)⟩⟩
 have DM__law_put:DefX l.prog w K mg base "_law_put" 6 mY (yH K oW):=h__law_put.dfX X G (Fy h__law_put.fn B C V DM_Book_put) (nL h__law_put.fn (ps:=mY) rfl fun _ _ _ _ _ _ _ _ _=>rfl)
 have D__law_put:Def l.prog w K mg base "_law_put" 6 mY (spF K 0 iU):=h__law_put.df X G (Fj h__law_put.fn B C V D_Book_put) (nL h__law_put.fn (ps:=mY) rfl fun _ _ _ _ _ _ _ _ _=>rfl)
 have D__law_refused:Def l.prog w K mg base "_law_refused" 6 wR (spF K 0 wN):=h__law_refused.df X G (Hq h__law_refused.fn B C V D_Book_put D_Book_drop D_Book_has) (XM h__law_refused.fn (ps:=wR) rfl fun _ _ _ _ _ _ _ _ _ _=>rfl)
 have DM__law_deed:DefX l.prog w K mg base "_law_deed" 7 wG (uS K 9 jJ):=h__law_deed.dfX X G (Hi h__law_deed.fn B C V D__law_put DM__law_put DM_Book_drop) (WK h__law_deed.fn (ps:=wG) rfl fun _ _ _ _ _ _ _ _ _ _ _=>rfl)
 exact(ZG (CV (st:=pL) l_law c_law k_law) B C V D_Book_size D__law_cell D__law_mix D__law_row D__law_names D__law_no_row D_Book_rows D_Book___init__ D_Book_has D__law_refused DM_Book_put DM__law_deed).imp ZR
theorem walk {l:UR}{q:bC}{loose:List aD}{XP:(aD->Option aE)->aQ->Prop}{YP:aW->aQ->Prop}{d:DefRec}{K:Params->aH}(hn:l.most=some 63)(hdf:d.params.defaults=[])
  (hY : ∀ (w:aW) (h:aQ),YP w h->(K w.params).In h)
  (F : ∀ (w:aW) (mg:aD->Option aE) (fa:aB) (h:aQ),(K w.params).In h->h.Ns bU mg->mg d.name=some (.ref fa) ->
   ∃ fd:dS,(∀ (s:aG) (u:aE),rK s fd ⟨[u],[]⟩ [("_law_script",u)]) /\ ∀ base:aQ,(K w.params).In base->base.Ns bU mg->FnOk l.prog w (K w.params) mg base CX0 8 fa fd ["_law_script"] (AE (K w.params))) :
  PySem.W.WalkO q loose XP YP l.row.toRowW d [] (fun f vs=>PySem.call f vs):=
 L2.A5l (n:=63) (k:=8) (x:="_law_script") (CX:=fun _=>CX0) (sp:=fun w=>AE (K w.params)) hn (by decide) hdf ⟨rfl,by decide,by decide⟩ hY F (fun _ _ a ns hl _ hS=>⟨a,ns,rfl,hS,hl,fun _=>rfl⟩) fun _ _ _ _ _ z=>z
end Aw
def PySem.W.Fast.tw3393963546461654443:=0
def PySem.W.Fast.tw3140312748959853699:=0
def PySem.W.Fast.tw15659352094783698726:=0
def PySem.W.Fast.tw1378016485351453836:=0
def PySem.W.Fast.tw6148680411934399260:=0
def PySem.W.Fast.tw7158521055478081127:=0
def PySem.W.Fast.tw7263393585714849109:=0
def PySem.W.Fast.tw843590171216825424:=0
def PySem.W.Fast.tw8571216953373062615:=0
def PySem.W.Fast.tw16057564132167057471:=0
def PySem.W.Fast.tw3744202350033079147:=0
def PySem.W.Fast.tw3017623431178670902:=0
def PySem.W.Fast.tw17703820917797276121:=0
def PySem.W.Fast.tw13240172684984086852:=0
def PySem.W.Fast.tw1299974155327016603:=0
def PySem.W.Fast.tw8344705031134089184:=0
def PySem.W.Fast.tw4610985749992063799:=0
def PySem.W.Fast.tw4628013582613053255:=0
def PySem.W.Fast.tw4658792969485975112:=0
def PySem.W.Fast.tw8618671559880384646:=0
def PySem.W.Fast.tw3256425216890051698:=0
def PySem.W.Fast.tw12106320978179566165:=0
def PySem.W.Fast.tw15671104836641142801:=0
def PySem.W.Fast.tw1925075544917300450:=0
def PySem.W.Fast.tw6448902609881605974:=0
def PySem.W.Fast.tw2151576056958331759:=0
def PySem.W.Fast.tw11853125346551986484:=0
def PySem.W.Fast.tw2309162203953833115:=0
def PySem.W.Fast.tw17927463135562004710:=0
def PySem.W.Fast.tw11277580224734349180:=0
def PySem.W.Fast.tw16389319023780551943:=0
def PySem.W.Fast.tw16187580141307850122:=0
def PySem.W.Fast.tw14943931939957738248:=0
def PySem.W.Fast.tw11747713625412984331:=0
def PySem.W.Fast.tw584437102243669538:=0
def PySem.W.Fast.tw16887235164801682934:=0
def PySem.W.Fast.tw7260914102888633837:=0
def PySem.W.Fast.tw16767589160289034797:=0
def PySem.W.Fast.tw9520285008305465206:=0
def PySem.W.Fast.tw12928112416531924496:=0
def PySem.W.Fast.tw3156701073300298339:=0
def PySem.W.Fast.tw10583509869185683569:=0
def PySem.W.Fast.tw13198398968820713621:=0
def PySem.W.Fast.tw3880380486161115620:=0
def PySem.W.Fast.tw5704157878477297957:=0
def PySem.W.Fast.tw511106770178957875:=0
def PySem.W.Fast.tw7184867027621221957:=0
def PySem.W.Fast.tw4773761281560895252:=0
def PySem.W.Fast.tw1454700828437880375:=0
def PySem.W.Fast.tw15589754619931934305:=0
def PySem.W.Fast.tw15826819466199700758:=0
def PySem.W.Fast.tw10480220025039311557:=0
def PySem.W.Fast.tw4458692685892948081:=0
def PySem.W.Fast.tw6829532593948830763:=0
def PySem.W.Fast.tw6283729772156131607:=0
def PySem.W.Fast.tw10608634967830383106:=0
def PySem.W.Fast.tw6892562832650603798:=0
def PySem.W.Fast.tw14087257175781473421:=0
def PySem.W.Fast.tw15466456640622632873:=0
def PySem.W.Fast.tw1269530834617518037:=0
def PySem.W.Fast.tw3031645644384981383:=0
def PySem.W.Fast.tw6428713709876659140:=0
def PySem.W.Fast.tw13478606468905732650:=0
def PySem.W.Fast.tw9220733004582778988:=0
def PySem.W.Fast.tw5074093274470167785:=0
def PySem.W.Fast.tw9266487635103210891:=0
def PySem.W.Fast.tw5872147238805524799:=0
def PySem.W.Fast.tw2997833004517062796:=0
def PySem.W.Fast.tw15188872247428247680:=0
def PySem.W.Fast.tw2971150796550342175:=0
def PySem.W.Fast.tw13210204138992960951:=0
def PySem.W.Fast.tw3049381317704769144:=0
def PySem.W.Fast.tw5678835259028807652:=0
def PySem.W.Fast.tw286670068082506270:=0
def PySem.W.Fast.tw12882623272407819209:=0
def PySem.W.Fast.tw748163991831371724:=0
def PySem.W.Fast.tw17061127725923918345:=0
def PySem.W.Fast.tw7179028126371790530:=0
def PySem.W.Fast.tw5429317920389081763:=0
def PySem.W.Fast.tw11352714723985925033:=0
def PySem.W.Fast.tw7113664061191693826:=0
def PySem.W.Fast.tw8101850694161940256:=0
def PySem.W.Fast.tw3636531947987970536:=0
def PySem.W.Fast.tw3722244324030159558:=0
def PySem.W.Fast.tw13698102947897224037:=0
def PySem.W.Fast.tw17950410531647715492:=0
def PySem.W.Fast.tw14271423108346613464:=0
def PySem.W.Fast.tw14588208874758817654:=0
def PySem.W.Fast.tw635659191348089714:=0
def PySem.W.Fast.tw7187115806458744806:=0
def PySem.W.Fast.tw11952077784859158966:=0
def PySem.W.Fast.tw11394695067162964774:=0
def PySem.W.Fast.tw1456267586906077295:=0
def PySem.W.Fast.tw1970343493258053595:=0
def PySem.W.Fast.tw3282184415373248957:=0
def PySem.W.Fast.tw7161833315091492253:=0
def PySem.W.Fast.tw5673110618318485879:=0
def PySem.W.Fast.tw9570734377520196680:=0
def PySem.W.Fast.tw2667366055974172511:=0
def PySem.W.Fast.tw9310422145320726149:=0
def PySem.W.Fast.tw11579206505193040222:=0
def PySem.W.Fast.tw4993508110881368824:=0
def PySem.W.Fast.tw8078198499024301059:=0
def PySem.W.Fast.tw487970181977206298:=0
def PySem.W.Fast.tw10978289558596397189:=0
def PySem.W.Fast.tw10326726095001759920:=0
def PySem.W.Fast.tw12254035174528429486:=0
def PySem.W.Fast.tw13967190226324570435:=0
def PySem.W.Fast.tw17687432885747182240:=0
def PySem.W.Fast.tw18054096286926062678:=0
def PySem.W.Fast.tw5409060700662259737:=0
def PySem.W.Fast.tw18242484184913752829:=0
def PySem.W.Fast.tw1802746521341602169:=0
def PySem.W.Fast.tw1907466976311955732:=0
def PySem.W.Fast.tw1800254473058446524:=0
def PySem.W.Fast.tw939708673422536864:=0
def PySem.W.Fast.tw2745986541646721117:=0
def PySem.W.Fast.tw12815263719497263398:=0
def PySem.W.Fast.tw12767719072082159991:=0
def PySem.W.Fast.tw16841090108106352887:=0
def PySem.W.Fast.tw15370947941007010135:=0
def PySem.W.Fast.tw10417969810982742651:=0
def PySem.W.Fast.tw4199821902999879348:=0
def PySem.W.Fast.tw4465086014420086353:=0
def PySem.W.Fast.tw6344371287880810428:=0
def PySem.W.Fast.tw15166077772460246087:=0
def PySem.W.Fast.tw4481885193790630794:=0
def PySem.W.Fast.tw11620439740524544770:=0
def PySem.W.Fast.tw16903958770029753462:=0
def PySem.W.Fast.tw17133011489380269921:=0
def PySem.W.Fast.tw17156658426327305527:=0
def PySem.W.Fast.tw4042294432777326696:=0
def PySem.W.Fast.tw18422793933031559552:=0
def PySem.W.Fast.tw5069479580421297630:=0
def PySem.W.Fast.tw11096798151833046645:=0
def PySem.W.Fast.tw7600831657464557413:=0
def PySem.W.Fast.tw1950709238007029695:=0
def PySem.W.Fast.tw7928113492506316440:=0
def PySem.W.Fast.tw962853075193816999:=0
def PySem.W.Fast.tw17863701377617922575:=0
def PySem.W.Fast.tw9167958908571760107:=0
def PySem.W.Fast.tw15764484887506229048:=0
def PySem.W.Fast.tw14432794654447674799:=0
def PySem.W.Fast.tw954761744783452613:=0
def PySem.W.Fast.tw3081776017729656802:=0
def PySem.W.Fast.tw1972850169392006599:=0
def PySem.W.Fast.tw2184632868312658434:=0
def PySem.W.Fast.tw11976475085525014552:=0
def PySem.W.Fast.tw11573044664525587156:=0
def PySem.W.Fast.tw18035604939494575408:=0
def PySem.W.Fast.tw15703668768613084884:=0
def PySem.W.Fast.tw5822580083502992113:=0
def PySem.W.Fast.tw12227546321139010318:=0
def PySem.W.Fast.tw10636799078098813197:=0
def PySem.W.Fast.tw12067095816789501064:=0
def PySem.W.Fast.tw8030976974016505118:=0
def PySem.W.Fast.tw993989020027709442:=0
def PySem.W.Fast.tw17079434927026962969:=0
def PySem.W.Fast.tw11985064720172941172:=0
def PySem.W.Fast.tw3679555356107792505:=0
def PySem.W.Fast.tw1472505652258775790:=0
def PySem.W.Fast.tw5248503012419652084:=0
def PySem.W.Fast.tw906685843459434804:=0
def PySem.W.Fast.tw1910263160874137407:=0
def PySem.W.Fast.tw612080814724896231:=0
def PySem.W.Fast.tw254676215560286608:=0
def PySem.W.Fast.tw14949001402206916339:=0
def PySem.W.Fast.tw1424089478791263043:=0
def PySem.W.Fast.tw12448614110575934343:=0
def PySem.W.Fast.tw1905583411613138797:=0
def PySem.W.Fast.tw539514292483145108:=0
def PySem.W.Fast.tw12408250662939909613:=0
def PySem.W.Fast.tw4245579118339811535:=0
def PySem.W.Fast.tw3973370718135326666:=0
def PySem.W.Fast.tw16362475963189239552:=0
def PySem.W.Fast.tw4074446191129889087:=0
def PySem.W.Fast.tw12776858096280083291:=0
def PySem.W.Fast.tw185472763775293479:=0
def PySem.W.Fast.tw15223919046682373246:=0
def PySem.W.Fast.tw8810282679451578286:=0
def PySem.W.Fast.tw3069276263750353550:=0
def PySem.W.Fast.tw3842880661092957101:=0
def PySem.W.Fast.tw12940640589383021935:=0
def PySem.W.Fast.tw1808620724023825823:=0
def PySem.W.Fast.tw13842095822953808873:=0
def PySem.W.Fast.tw8782852112056672584:=0
def PySem.W.Fast.tw5912232765516512776:=0
def PySem.W.Fast.tw17361206776225240211:=0
def PySem.W.Fast.tw12103153497546652571:=0
def PySem.W.Fast.tw3737949161885733512:=0
def PySem.W.Fast.tw1907178431002430981:=0
def PySem.W.Fast.tw17767548709901198102:=0
def PySem.W.Fast.tw2901082902854017460:=0
def PySem.W.Fast.tw16955857313434372951:=0
def PySem.W.Fast.tw16371511522214649526:=0
def PySem.W.Fast.tw13820095643515983773:=0
def PySem.W.Fast.tw10767640575160908705:=0
def PySem.W.Fast.tw10042724718452174763:=0
def PySem.W.Fast.tw17130064302552350475:=0
def PySem.W.Fast.tw15791969910517086003:=0
def PySem.W.Fast.tw3561290097327472256:=0
def PySem.W.Fast.tw509674136370519231:=0
def PySem.W.Fast.tw3360273064114025179:=0
def PySem.W.Fast.tw2434259824798418769:=0
def PySem.W.Fast.tw3636979028364131951:=0
def PySem.W.Fast.tw3646896187730325384:=0
def PySem.W.Fast.tw17680694053821181743:=0
def PySem.W.Fast.tw17986884313344754376:=0
def PySem.W.Fast.tw3595903928083361974:=0
def PySem.W.Fast.tw2271863875222273582:=0
def PySem.W.Fast.tw12538797852351086737:=0
def PySem.W.Fast.tw625092912149399227:=0
def PySem.W.Fast.tw10016243871941976695:=0
def PySem.W.Fast.tw8708124487259240663:=0
def PySem.W.Fast.tw8033241421964582885:=0
def PySem.W.Fast.tw1661863393011778524:=0
def PySem.W.Fast.tw4448915992643268968:=0
def PySem.W.Fast.tw2522747558518385974:=0
def PySem.W.Fast.tw12838236768418824251:=0
def PySem.W.Fast.tw3218592570292184690:=0
def PySem.W.Fast.tw15549915749544394975:=0
def PySem.W.Fast.tw16409516356048685538:=0
def PySem.W.Fast.tw1685914968592142395:=0
def PySem.W.Fast.tw6547280754190537443:=0
def PySem.W.Fast.tw10930172031287243051:=0
def PySem.W.Fast.tw4350841740852178037:=0
def PySem.W.Fast.tw9710376352844461051:=0
def PySem.W.Fast.tw9408590845959105517:=0
def PySem.W.Fast.tw6839262607592615271:=0
def PySem.W.Fast.tw11805096005893029315:=0
def PySem.W.Fast.tw5584976783059387926:=0
def PySem.W.Fast.tw76600607624453012:=0
def PySem.W.Fast.tw12685189629886131262:=0
def PySem.W.Fast.tw15689882423649200220:=0
def PySem.W.Fast.tw4648245249659977150:=0
def PySem.W.Fast.tw7177296363076828275:=0
def PySem.W.Fast.tw128678084807737288:=0
def PySem.W.Fast.tw8075987055957378798:=0
def PySem.W.Fast.tw8728430066258756314:=0
def PySem.W.Fast.tw559111427384205545:=0
def PySem.W.Fast.tw861402181630248398:=0
def PySem.W.Fast.tw6832080226411100977:=0
def PySem.W.Fast.tw15820693928920167414:=0
def PySem.W.Fast.tw15754665883904521788:=0
def PySem.W.Fast.tw11123438067754385215:=0
def PySem.W.Fast.tw11217051041273946392:=0
def PySem.W.Fast.tw7555724970253344253:=0
def PySem.W.Fast.tw14701153899422094701:=0
def PySem.W.Fast.tw16720349495684413239:=0
def PySem.W.Fast.tw9243514421243794386:=0
def PySem.W.Fast.tw6537982900567428164:=0
def PySem.W.Fast.tw8093184159331592995:=0
def PySem.W.Fast.tw14481615742857805447:=0
def PySem.W.Fast.tw3795641384393835402:=0
def PySem.W.Fast.tw50569033206851328:=0
def PySem.W.Fast.tw5212750590349284979:=0
def PySem.W.Fast.tw1669806110502263885:=0
def PySem.W.Fast.tw9556935073022104008:=0
def PySem.W.Fast.tw13127329437575735306:=0
def PySem.W.Fast.tw4441458740350824831:=0
def PySem.W.Fast.tw1032267225290244990:=0
def PySem.W.Fast.tw8824778147443458056:=0
def PySem.W.Fast.tw579463865334927809:=0
def PySem.W.Fast.tw17530164992256922683:=0
def PySem.W.Fast.tw13543621133102047076:=0
def PySem.W.Fast.tw7371392085984436033:=0
def PySem.W.Fast.tw10281259207628520811:=0
def PySem.W.Fast.tw191828804737979711:=0
def PySem.W.Fast.tw18258050245076738845:=0
def PySem.W.Fast.tw11406996854631190090:=0
def PySem.W.Fast.tw10628041180358853814:=0
def PySem.W.Fast.tw16109566975122615474:=0
def PySem.W.Fast.tw11535653369094815346:=0
def PySem.W.Fast.tw12308249611728602236:=0
def PySem.W.Fast.tw18432701036780537547:=0
def PySem.W.Fast.tw14682679861469228094:=0
def PySem.W.Fast.tw6189988386858660488:=0
def PySem.W.Fast.tw6909003560872353952:=0
def PySem.W.Fast.tw8384800691510491561:=0
def PySem.W.Fast.tw1971338089440181423:=0
def PySem.W.Fast.tw7359488766617321905:=0
def PySem.W.Fast.tw5809398642687340783:=0
def PySem.W.Fast.tw14749395743380358812:=0
def PySem.W.Fast.tw4141654878253404694:=0
def PySem.W.Fast.tw2984218252041382977:=0
def PySem.W.Fast.tw16622280552909855234:=0
def PySem.W.Fast.tw15609808231940103913:=0
def PySem.W.Fast.tw6850120872036947043:=0
def PySem.W.Fast.tw1528566849516919020:=0
def PySem.W.Fast.tw18376248764292663426:=0
def PySem.W.Fast.tw2795333323999902754:=0
def PySem.W.Fast.tw12266612572228876380:=0
def PySem.W.Fast.tw16371729792057362330:=0
def PySem.W.Fast.tw11597935097960315791:=0
def PySem.W.Fast.tw11591776775635381808:=0
def PySem.W.Fast.tw13349218342328393293:=0
def PySem.W.Fast.tw14120441017672014568:=0
def PySem.W.Fast.tw7150459235087170753:=0
def PySem.W.Fast.tw11133069815056976626:=0
def PySem.W.Fast.tw14376558781889468887:=0
def PySem.W.Fast.tw7866949527968838279:=0
def PySem.W.Fast.tw16147078787849413956:=0
def PySem.W.Fast.tw12379404555151280653:=0
def PySem.W.Fast.tw976891742886295147:=0
def PySem.W.Fast.tw4819807091853165950:=0
def PySem.W.Fast.tw14029500185293284215:=0
def PySem.W.Fast.tw11676263993773864598:=0
def PySem.W.Fast.tw15433201784584860996:=0
def PySem.W.Fast.tw14704165176846611555:=0
def PySem.W.Fast.tw6467013518919735750:=0
def PySem.W.Fast.tw5773789268652147842:=0
open PySem PySem.W PyProof.Rows
set_option maxRecDepth 100000 in
set_option maxHeartbeats 0 in
theorem PySem.Challenge.cw_askwithin_k11_full_tables_holds : PySem.Challenge.rw_askwithin_k11_full_tables.Holds := by
 w_on; o_law; k_head; (case hw=>w_witness2)
 k_fill
 refine Aw.walk (l:=PySem.Challenge.rw_askwithin_k11_full_tables) rfl rfl (fun w h Y=>PySem.W.kIn_of Y) ?F
 case F=>
  intro w mg fa h KX G hmg
  refine' Aw.all_mk KX G hmg ?aC ?pg ?hd ?po ?sa ?mk ?kc ?nW ?nH (Aw.Ahg ?a_is_whole ?l_is_whole ?c_is_whole ?k_is_whole) (Aw.Ahg ?a_is_name ?l_is_name ?c_is_name ?k_is_name) (Aw.Ahg ?a_is_pair ?l_is_pair ?c_is_pair ?k_is_pair) (Aw.An4 ?a_Book_tables ?i_Book_tables ?l_Book_tables ?c_Book_tables ?k_Book_tables) (Aw.An4 ?a_Book_size ?i_Book_size ?l_Book_size ?c_Book_size ?k_Book_size) (Aw.Ahg ?a__law_cell ?l__law_cell ?c__law_cell ?k__law_cell) (Aw.Ahg ?a__law_mix ?l__law_mix ?c__law_mix ?k__law_mix) (Aw.Ahg ?a__law_row ?l__law_row ?c__law_row ?k__law_row) (Aw.Ahg ?a_is_value ?l_is_value ?c_is_value ?k_is_value) (Aw.Ahg ?a_is_width ?l_is_width ?c_is_width ?k_is_width) (Aw.An4 ?a_Book_want_table ?i_Book_want_table ?l_Book_want_table ?c_Book_want_table ?k_Book_want_table) (Aw.Ahg ?a__law_names ?l__law_names ?c__law_names ?k__law_names) (Aw.Ahg ?a__law_no_row ?l__law_no_row ?c__law_no_row ?k__law_no_row) (Aw.Ahg ?a_is_row ?l_is_row ?c_is_row ?k_is_row) (Aw.Ahg ?a_are_widths ?l_are_widths ?c_are_widths ?k_are_widths) (Aw.An4 ?a_Book_rows ?i_Book_rows ?l_Book_rows ?c_Book_rows ?k_Book_rows) (Aw.An4 ?a_Book___init__ ?i_Book___init__ ?l_Book___init__ ?c_Book___init__ ?k_Book___init__) (Aw.An4 ?a_Book_want_row ?i_Book_want_row ?l_Book_want_row ?c_Book_want_row ?k_Book_want_row) (Aw.An4 ?a_Book_put ?i_Book_put ?l_Book_put ?c_Book_put ?k_Book_put) (Aw.An4 ?a_Book_drop ?i_Book_drop ?l_Book_drop ?c_Book_drop ?k_Book_drop) (Aw.An4 ?a_Book_has ?i_Book_has ?l_Book_has ?c_Book_has ?k_Book_has) (Aw.Ahg ?a__law_put ?l__law_put ?c__law_put ?k__law_put) (Aw.Ahg ?a__law_refused ?l__law_refused ?c__law_refused ?k__law_refused) (Aw.Ahg ?a__law_deed ?l__law_deed ?c__law_deed ?k__law_deed) (Aw.Bdl ?a_law ?l_law ?c_law ?k_law)  ?y_NoRow ?y_Full ?y_NoTable ?y_AskError ?y_TooMany ?y_NoDeed ?y_NoName ?y_NoText ?x_NoTable ?x_NoRow ?x_Full ⟨?xga,?xgh,?xcl,?xmo,?xmb,?xic⟩ ⟨?xga_Full,?xgh_Full,?xcl_Full,?xmo_Full,?xmb_Full,?xic_Full⟩ ?e_AskError ?e_NoRow ?i_TooMany ?i_NoRow ?i_NoTable ?i_NoDeed ?i_NoName ?i_NoText ?i_ValueError ?i_Full ?e_AskError_Full ?i_TooMany_Full ?i_NoRow_Full ?i_NoTable_Full ?i_NoDeed_Full ?i_NoName_Full ?i_NoText_Full ?i_ValueError_Full ?i_Full_Full ?z_isinstance ?z_int ?z_bool ?z_abs ?z_range ?z_len ?z_str ?z_all ?z_any ?z_list ?z_tuple ?z_dict ?z_set ?z_sorted ?z_sum ?z_min ?z_max ?z_enumerate ?z_zip ?z_reversed ?z_ValueError ?g_LETTERS ?g_FIGURES ?g_MOST_SIGNS ?g_MOST_WIDTH ?g_MOST_TABLES ?g_MOST_ROWS
  (case aC=>k_is); (case pg=>k_is); (case hd=>k_is); (case po=>k_is); (case sa=>k_is); (case mk=>k_is); (case kc=>k_is); (case nW=>k_is); (case nH=>k_is)
  (case a_is_whole=>k_is); (case l_is_whole=>k_is); (case c_is_whole=>k_is); (case k_is_whole=>k_is)
  (case a_is_name=>k_is); (case l_is_name=>k_is); (case c_is_name=>k_is); (case k_is_name=>k_is)
  (case a_is_pair=>k_is); (case l_is_pair=>k_is); (case c_is_pair=>k_is); (case k_is_pair=>k_is)
  (case a_Book_tables=>k_is); (case i_Book_tables=>k_is); (case l_Book_tables=>k_is); (case c_Book_tables=>k_is); (case k_Book_tables=>k_is)
  (case a_Book_size=>k_is); (case i_Book_size=>k_is); (case l_Book_size=>k_is); (case c_Book_size=>k_is); (case k_Book_size=>k_is)
  (case a__law_cell=>k_is); (case l__law_cell=>k_is); (case c__law_cell=>k_is); (case k__law_cell=>k_is)
  (case a__law_mix=>k_is); (case l__law_mix=>k_is); (case c__law_mix=>k_is); (case k__law_mix=>k_is)
  (case a__law_row=>k_is); (case l__law_row=>k_is); (case c__law_row=>k_is); (case k__law_row=>k_is)
  (case a_is_value=>k_is); (case l_is_value=>k_is); (case c_is_value=>k_is); (case k_is_value=>k_is)
  (case a_is_width=>k_is); (case l_is_width=>k_is); (case c_is_width=>k_is); (case k_is_width=>k_is)
  (case a_Book_want_table=>k_is); (case i_Book_want_table=>k_is); (case l_Book_want_table=>k_is); (case c_Book_want_table=>k_is); (case k_Book_want_table=>k_is)
  (case a__law_names=>k_is); (case l__law_names=>k_is); (case c__law_names=>k_is); (case k__law_names=>k_is)
  (case a__law_no_row=>k_is); (case l__law_no_row=>k_is); (case c__law_no_row=>k_is); (case k__law_no_row=>k_is)
  (case a_is_row=>k_is); (case l_is_row=>k_is); (case c_is_row=>k_is); (case k_is_row=>k_is)
  (case a_are_widths=>k_is); (case l_are_widths=>k_is); (case c_are_widths=>k_is); (case k_are_widths=>k_is)
  (case a_Book_rows=>k_is); (case i_Book_rows=>k_is); (case l_Book_rows=>k_is); (case c_Book_rows=>k_is); (case k_Book_rows=>k_is)
  (case a_Book___init__=>k_is); (case i_Book___init__=>k_is); (case l_Book___init__=>k_is); (case c_Book___init__=>k_is); (case k_Book___init__=>k_is)
  (case a_Book_want_row=>k_is); (case i_Book_want_row=>k_is); (case l_Book_want_row=>k_is); (case c_Book_want_row=>k_is); (case k_Book_want_row=>k_is)
  (case a_Book_put=>k_is); (case i_Book_put=>k_is); (case l_Book_put=>k_is); (case c_Book_put=>k_is); (case k_Book_put=>k_is)
  (case a_Book_drop=>k_is); (case i_Book_drop=>k_is); (case l_Book_drop=>k_is); (case c_Book_drop=>k_is); (case k_Book_drop=>k_is)
  (case a_Book_has=>k_is); (case i_Book_has=>k_is); (case l_Book_has=>k_is); (case c_Book_has=>k_is); (case k_Book_has=>k_is)
  (case a__law_put=>k_is); (case l__law_put=>k_is); (case c__law_put=>k_is); (case k__law_put=>k_is)
  (case a__law_refused=>k_is); (case l__law_refused=>k_is); (case c__law_refused=>k_is); (case k__law_refused=>k_is)
  (case a__law_deed=>k_is); (case l__law_deed=>k_is); (case c__law_deed=>k_is); (case k__law_deed=>k_is)
  (case a_law=>k_is); (case l_law=>k_is); (case c_law=>k_is); (case k_law=>k_is)
  (case y_NoRow=>k_is); (case y_Full=>k_is); (case y_NoTable=>k_is); (case y_AskError=>k_is); (case y_TooMany=>k_is); (case y_NoDeed=>k_is); (case y_NoName=>k_is); (case y_NoText=>k_is); (case x_NoTable=>k_exc); (case x_NoRow=>k_exc); (case x_Full=>k_exc); (case xga=>k_is); (case xgh=>k_is); (case xcl=>k_is); (case xmo=>k_is); (case xmb=>k_is); (case xic=>k_is); (case xga_Full=>k_is); (case xgh_Full=>k_is); (case xcl_Full=>k_is); (case xmo_Full=>k_is); (case xmb_Full=>k_is); (case xic_Full=>k_is); (case e_AskError=>kts_exm); (case e_NoRow=>kts_exm); (case e_AskError_Full=>kts_exm); (case i_TooMany=>kit_is); (case i_NoRow=>kit_is); (case i_NoTable=>kit_is); (case i_NoDeed=>kit_is); (case i_NoName=>kit_is); (case i_NoText=>kit_is); (case i_ValueError=>kit_is); (case i_Full=>kit_is); (case i_TooMany_Full=>kit_is); (case i_NoRow_Full=>kit_is); (case i_NoTable_Full=>kit_is); (case i_NoDeed_Full=>kit_is); (case i_NoName_Full=>kit_is); (case i_NoText_Full=>kit_is); (case i_ValueError_Full=>kit_is); (case i_Full_Full=>kit_is)
  (case z_isinstance=>k_is); (case z_int=>k_is); (case z_bool=>k_is); (case z_abs=>k_is); (case z_range=>k_is); (case z_len=>k_is); (case z_str=>k_is); (case z_all=>k_is); (case z_any=>k_is); (case z_list=>k_is); (case z_tuple=>k_is); (case z_dict=>k_is); (case z_set=>k_is); (case z_sorted=>k_is); (case z_sum=>k_is); (case z_min=>k_is); (case z_max=>k_is); (case z_enumerate=>k_is); (case z_zip=>k_is); (case z_reversed=>k_is); (case z_ValueError=>k_is)
  (case g_LETTERS=>k_is); (case g_FIGURES=>k_is); (case g_MOST_SIGNS=>k_is); (case g_MOST_WIDTH=>k_is); (case g_MOST_TABLES=>k_is); (case g_MOST_ROWS=>k_is)
