import PyProof.Rows.All
import Wide.All
import OpenK.AllK
import Wide.FinOn
import Lean
import PyProof.EqAt
import PyProof.EqKinds
import PyProof.TupleCall
import PyProof.TupleOfStr
import PyProof.ListStr
import PyProof.ZipIter
import PyProof.TupleIter
import PyProof.EnumMake
import PyProof.ListRange
import PyProof.AutoListH
import PyProof.ListNew
import PyProof.FactsAll.list_2
import KE.KSortTup
import PyProof.Rows.SortShellK
import PyProof.MeetsSeq2
import PyProof.FactsAll.list_4
import PyProof.AutoSeq1
import PyProof.ConsumeWalk
import PyProof.AttrMissHeap
import PyProof.FactsAll.zip_1
import PyProof.Rows.FStr
import PyProof.ListMulRoad
import PyProof.Rows.SeqMore
import PyProof.FactsAll.tuple_2
import PyProof.FactsAll.list_3
import PyProof.SetKind
import PyProof.Rows.SetFrom
import PyProof.MeetsDictList
import PySem.Challenge.RW_askwithin_k48_a_chase_goes_step_by_step
open PySem renaming PyData->aA,Addr->aD,Str->aE,Value->aG,wpAny_bind->aJ,Shared->aL,wpAny->aO,Expr->bA,model->bC,wpAny_pure->bE,Heap->bG,starEach->bL,Obj->bP,eval->bX,World->cA,Pos->cD,Stmt->cG,Program->cL,Around->eD,mainGlobals->eQ,boot_len->fU,backTo->fY,wpAny_field->gK,assignEach->gL,compareOp->gS,Paired->gV,pyNext->hU,FuncData->iA,sysModules->iJ,rawInt->iL,merged->iT,Scope->iY,wpAny_holding->jI,Keyword->jK,field->jU,binaryOp->jV,wpAny_call_entry->kK,assign->kL,IsPair->kP,wpAny_mono->mC,wpAny_seqItems->mP,bootBuiltins->mQ,NameKind->mT,wpAny_typeOf->nM,wpAny_setField_rec->nN,wpAny_newObj_type->nP,wpAny_callSpecial?_slot->nQ,swapsWith->nR,Spec->oP,getItem->pP,codeAny->pR,Reads->pS,IsZip->pZ,IsPart->qA,IsEnum->qB,wpAny_truthy_bool->rH,wpAny_rule->rJ,stored->rK,sizeLine_eq->rL,keywordEach->rM,backToKw->rN,attributeBase->rO,DictEntry->rT,wpAny_attempt->tM,valueAt->tO,pyIter->tP,foldedSetIterable->tQ,codeAny_builtin->tR,wpAny_passesOwn->vY,typeLookup->vZ,sliceBounds->wA,relabel->wB,callerA->wC,call_meets->wD,bindArgs->wF,behindInMarks->wG,ReadsAll->wI,ItemsOf->wN,wpAny_specialOf->zR,wpAny_pyIter_list->zS,wpAny_isInstance->zT,plainId_quiet->zU,PassesOwn->zZ,mem_of_lookup->DN,wpAny_typeNameOf_keyiter->IY,wpAny_typeNameOfWhole_keyiter->IZ,wpAny_setField->JA,wpAny_onRaise->JB,wpAny_letGo->JC,wpAny_execs_nil->JD,typeLookup_type->JE,subscripted->JF,letOwnedTupleGo->JH,isSubtype_stop->JI,getattributeRaised->JJ,firstArgMember->JK,concat_meets->JL,codeAny_mono->JM,builtinLookup_eq_fast->JN,wpAny_updateSeq_pair->UI,wpAny_notOrdered_dict->UJ,wpAny_dictEntries->UK,wpAny_Call_Name_kw->UL,noFill_tuple_add->UM
open PySem.W renaming Frag->aP,nsIn->gD,mg_none_of->iN,fnOf->lA,kia_one->nW,keepIn->tT,codeIn->zV,mg_of->DP,methodObj->UN,lookIn->UO,kitx_list->UP,kitOne->UQ,instObj->UR,OpenLaw->US
open Or renaming inl->aT,inr->aY
open PySem.PyData renaming eqv->bJ,int->bT,depthAll->bU,depth->cP,canLay0->fA,eqvAll->fQ,bool->fV,tuple->gU,str->kM,list->lE,canLayAll0->zY,strOk->JR
open List renaming range->cE,mem_cons_self->dF,mem_map->dP,mem_cons_of_mem->eR,mem_cons->fG,mem_singleton->fL,replicate->fR,map_cons->fS,size_toArray->fW,getElem?_eq_some_iff->gE,length_map->gM,getElem?_map->gN,getElem?_eq_getElem->iO,mem_range->jA,mem_append->jB,find?_cons->jX,map_map->kO,range'->lF,flatten_cons->lG,nodup_cons->mE,length_cons->mF,mem_of_getElem?->mU,lookup_cons->nX,getElem?_set_ne->nY,mem_append_right->oR,map_append->oU,all_eq_true->oV,mem_filter->pV,length_append->pW,foldl_cons->pX,any_eq_true->pY,mem_flatten->rQ,getElem?_set_self->rR,replicate_succ->tU,filter_eq_self->tV,not_mem_nil->wJ,length_take->wK,getElem?_range->wL,exists_of_findSome?_eq_some->wM,of_mem_zip->AA,eq_nil_of_length_eq_zero->AB,append_nil->AC,all_map->AD,take_of_length_le->DZ,take_add_one->EA,nodup_nil->EB,lookup->EC,forIn_cons->ED,any_map->EE,any_cons->EG,take_length->JX,mem_of_mem_take->JY,map_take->JZ,map_congr_left->KA,getElem_mem->KC,getElem?_append_left->KD,forIn_nil->KF,foldl_append->KG,mem_range'_1->VD,length_range'->VE,length_nil->VF,length_filter_le->VG,getElem?_append_right->VH,find?_eq_none->VI,filterMap_cons->VJ,drop_zero->VL,drop_eq_getElem_cons->VM,getElem?_replicate->Su,getD_eq_getElem?_getD->Sv,eraseIdx_cons_succ->Sw
open PySem.Heap renaming lt_size->cI,get?_push_of_some->cY,get?_push_size->eW,SameBut->tW,size_push->wO,ExtBut->AG,get?_update_self->KJ,get?_update_other->VO
open Option renaming bind_some->cM,map_eq_some_iff->pU,map_some->rP,isSome_map->JS,isSome_iff_exists->Ss
open Nat renaming le_refl->dA,ne_of_lt->fC,lt_of_lt_of_le->iE,le_trans->jW,ne_of_gt->kN,lt_irrefl->mD,zero_le->mS,le_succ->DV,le_of_lt->DX,le_of_eq->DY,min_eq_left->JU,lt_trans->JV,add_assoc->JW,min_eq_right->VC
open PySem.Value renaming ref->fZ,type->iM,none->jJ,int->DM,isStrOf->JO
open Option.some renaming inj->gW,injEq->DU
open PySem.NameKind renaming free->hV
open Bool renaming and_eq_true_iff->hW,eq_iff_iff->kQ,false_ne_true->mV,and_self->nZ,false_eq_true->oW,and_eq_true->tY,true_or->LB,true_and->LC,false_and->LD
open Sum renaming inr->iX,inl->wH
open PySem.PassesOwn renaming never->iZ
open PySem.Builtin.Int renaming intBits->jC
open Int renaming eq_ofNat_of_zero_le->jL,toNat_natCast->AE,mul_nonneg->KH,mul_le_mul->KI
open PyProof.Rows renaming boot_tuple->lB,seqObj->pO,envOfC->pQ,IntsAre->rS,AllBare->rV,callWith_type1->zX,boot_str->DR,slot_tuple_getitem->JG,slot_tuple_getitem->UZ,boot_list->VA,mulOk_of_bits->Sr
open PySem.Builtin.SmallTypes renaming nextOf->mG,ownedTupleIsFree->qE,ownedTupleHandOut->KW
open Ne renaming symm->mR
open True renaming intro->nU
open PySem.Str renaming ofString->nV
open PySem.Obj renaming mapSeq->oQ,data_mapFields->JT
open PySem.Paired renaming length->pT
open False renaming elim->qC
open PySem.F renaming slot_zip_next->tX,plainAttrs_list->zW,slot_dict_keyiterator_next->EH,slot_tuple_iterator_next->KM,slot_tuple_hash->KN,slot_enumerate_next->KO,entry_zip_next->KQ,args_zip_next_1->KR,type_list_append->UT,slot_tuple_add->UU,slot_list_append->UV,slot_dict_get->UW,entry_tuple_add->UX,args_tuple_add_2->UY,slot_zip_getattribute->VP,slot_list_getattribute->VQ,slot_dict_update->Sm,slot_dict_getitem->Sn,plainAttrs_dict->So,args_dict_get_3->Sq,entry_dict_keyiterator_next->Sx,args_dict_keyiterator_next_1->Sy
open PySem.Expr renaming Call->wQ
open PySem.Builtin.List renaming listExtendWith->wR,listTooLong->EI,listSameRef->VW
open ForInStep renaming yield->AH
open PySem.Builtin.Tuple renaming tupleHashOf->AI,tupleExact->AJ,tupleItemsOf->VT
open PySem.Around renaming under_plainId->AK
open Sum.inr renaming inj->JP
open PySem.Shared renaming heap->JQ
open PySem.Heap.SameBut renaming update->KL
open PySem.Calls renaming spliced_cons->KS,spliced_nil->VS
open PySem.Builtin.Str renaming occurrences->KU
open PySem.Builtin.Slice renaming slicePlaces->KZ,sliceAdjust->VU
open PySem.Builtin.Dict renaming updateFrom->LA
open Array renaming length_toList->LF,forIn_toList->LG
open PySem.PyData.tuple renaming inj->VB
open List.Nodup renaming length_le_of_subset->VN
open Classical renaming choose_spec->VR,propDecidable->Sz
theorem XBs {α β:Type}{x:Option α}{f:α->Option β}{b:β}(h:x.bind f=some b) : ∃ a,x=some a/\f a=some b:=Option.bind_eq_some_iff.mp h
set_option Elab.async false
set_option bootstrap.genMatcherCode false
set_option genSizeOfSpec false
set_option linter.all false
set_option maxRecDepth 100000
set_option exponentiation.threshold 2000
namespace L2
open PySem PySem.Spec PyProof.Rows
noncomputable instance decEqData:DecidableEq aA:=fun a b=>Sz (a=b)
mutual
noncomputable def cC:aA->Bool
 | .int _=>true
 | .str x=>fA (.str x)
 | .tuple ds=>dC ds
 | _=>false
noncomputable def dC:List aA->Bool
 | []=>true
 | d::r=>cC d&&dC r
end
mutual
theorem GF : ∀ d:aA,cC d=true->d.canLay0=true
 | .int _,_=>by simp[fA]
 | .str x,h=>by simpa [cC] using h
 | .tuple ds,h=>by
  simp only[fA]
  exact QE ds (by simpa [cC] using h)
 | .none,h=>by simp[cC] at h
 | .bool _,h=>by simp[cC] at h
 | .list _,h=>by simp[cC] at h
 | .dict _,h=>by simp[cC] at h
theorem QE : ∀ ds:List aA,dC ds=true->zY ds=true
 | [],_=>by simp[zY]
 | d::r,h=>by
  have h':cC d=true/\dC r=true:=by simpa [dC] using h
  simp only[zY,GF d h'.1,QE r h'.2,nZ]
end
mutual
theorem NY : ∀ x y:aA,cC x=true->cC y=true->bJ x y=decide (x=y)
 | .int i,.int j,_,_=>by
  by_cases e:i=j
  ·subst e; simp[bJ]
  ·have : ¬ bT i = .int j:=fun q=>e (PyData.int.inj q)
   simp[bJ,e]
 | .str i,.str j,_,_=>by
  by_cases e:i=j
  ·subst e; simp[bJ]
  ·simp[bJ,e]
 | .tuple xs,.tuple ys,h1,h2=>by
  have e:=GW xs ys (by simpa [cC] using h1) (by simpa [cC] using h2)
  simp only[bJ,e]
  by_cases q:xs=ys
  ·subst q; simp
  ·have : ¬ gU xs = .tuple ys:=fun z=>q (VB z)
   rw[decide_eq_false q,decide_eq_false this]
 | .int _,.str _,_,_=>by simp[bJ]
 | .int _,.tuple _,_,_=>by simp[bJ]
 | .str _,.int _,_,_=>by simp[bJ]
 | .str _,.tuple _,_,_=>by simp[bJ]
 | .tuple _,.int _,_,_=>by simp[bJ]
 | .tuple _,.str _,_,_=>by simp[bJ]
 | .none,_,h,_=>by simp[cC] at h
 | .bool _,_,h,_=>by simp[cC] at h
 | .list _,_,h,_=>by simp[cC] at h
 | .dict _,_,h,_=>by simp[cC] at h
 | .int _,.none,_,h=>by simp[cC] at h
 | .int _,.bool _,_,h=>by simp[cC] at h
 | .int _,.list _,_,h=>by simp[cC] at h
 | .int _,.dict _,_,h=>by simp[cC] at h
 | .str _,.none,_,h=>by simp[cC] at h
 | .str _,.bool _,_,h=>by simp[cC] at h
 | .str _,.list _,_,h=>by simp[cC] at h
 | .str _,.dict _,_,h=>by simp[cC] at h
 | .tuple _,.none,_,h=>by simp[cC] at h
 | .tuple _,.bool _,_,h=>by simp[cC] at h
 | .tuple _,.list _,_,h=>by simp[cC] at h
 | .tuple _,.dict _,_,h=>by simp[cC] at h
theorem GW : ∀ xs ys:List aA,dC xs=true->dC ys=true->fQ xs ys=decide (xs=ys)
 | [],[],_,_=>by simp[fQ]
 | [],_::_,_,_=>by simp[fQ]
 | _::_,[],_,_=>by simp[fQ]
 | x::xs,y::ys,h1,h2=>by
  have h1':cC x=true/\dC xs=true:=by simpa [dC] using h1
  have h2':cC y=true/\dC ys=true:=by simpa [dC] using h2
  simp only[fQ,NY x y h1'.1 h2'.1,GW xs ys h1'.2 h2'.2]
  by_cases e:x=y
  ·subst e
   by_cases q:xs=ys
   ·subst q; simp
   ·simp[q]
  ·simp[e]
end
mutual
noncomputable def sG (w:cA):aA->Int
 | .int i=>hashInt i
 | .str x=>hashStr w x
 | .tuple ds=>reduceHash (AI (lR w ds))
 | _=>0
noncomputable def lR (w:cA):List aA->List Int
 | []=>[]
 | d::r=>sG w d::lR w r
end
mutual
noncomputable def sE:aA->Nat
 | .tuple ds=>nA ds+1
 | _=>1
noncomputable def nA:List aA->Nat
 | []=>0
 | d::r=>sE d+nA r
end
theorem SH (a b:List aA):nA (a++b)=nA a+nA b:=by
 induction a with
 | nil=>simp[nA]
 | cons x r ih=>simp only[List.cons_append,nA,ih]; omega
theorem SJ (w:cA)(a b:List aA):lR w (a++b)=lR w a++lR w b:=by
 induction a with
 | nil=>rfl
 | cons x r ih=>simp only[List.cons_append,lR,ih]
section
variable {prog:cL}{w:cA}
theorem GV {h:bG}{v:aG}{ks:List aA}{as:List aD}(r:pS h v (.tuple ks) as) : ∃ a o vs n,v = .ref a/\h.get? a=some o/\o.cls = .type "tuple" /\ o.data = .seq vs n/\wI h vs.toList ks as:=by
 cases r with
 | tuple h1 h2 h3 h4=>exact⟨_,_,_,_,rfl,h1,h2,h3,h4⟩
mutual
theorem RM : ∀ (d:aA) {A:eD} {E:aG->aL->Prop} {s:aL} {v:aG} {as:List aD} {Q:Int->aL->Prop},A.units+d.depth<cLine->cC d=true->pS s.heap v d as ->
  Q (sG w d) { s with toks:=s.toks+sE d }->aO (bC prog w) A (pyHash v) Q E s
 | .int i,A,E,s,v,as,Q,hu,hk,r,h=>by
  cases r with
  | int _ t=>exact wpAny_pyHash_int (by simpa [sG,sE] using h)
 | .str x,A,E,s,v,as,Q,hu,hk,r,h=>by
  cases r with
  | str _ t=>exact wpAny_pyHash_str (by simpa [sG,sE] using h)
 | .tuple ks,A,E,s,v,as,Q,hu,hk,r,h=>by
  obtain⟨a,o,items,n,rfl,ho,hc,hd,hi⟩:=GV r
  have hT:s.TypeIs (.ref a) "tuple":=⟨o,ho,hc⟩
  have hdep:A.units+(bU ks+1)<cLine:=by simpa [cP] using hu
  unfold pyHash
  first | unfold pyHashByItsType | skip
  first | refine aJ (wpAny_cRoomFor_or (.inr (by omega)) ?_) | skip
  refine aJ (zR hT KN.lookup ?_)
  show aO _ _ (if (some (Value.builtin "tuple.__hash__") == some jJ)=true then _ else _) Q E s
  rw[if_neg (by rw[beq_builtin_none]; exact mV)]
  refine aJ (zR hT KN.lookup ?_)
  show aO _ _ (callSpecialIfBoundUnlessNone? (.ref a) "__hash__" _ >>= _) Q E s
  refine aJ (wpAny_callSpecialIfBoundUnlessNone?_slot hT KN (kK KN hT F.entry_tuple_hash ?_ (F.args_tuple_hash_1 _)))
  show aO _ _ (VT (.ref a) >>= _) _ _ s
  refine aJ (wpAny_tupleItemsOf ho hd ?_)
  refine aJ ?_
  rw[← LG]
  refine wpAny_forIn_list _
   (fun rest (b:Array Int) s'=>∃ done left bs,ks=done++left/\wI s.heap rest left bs/\b.toList=lR w done/\s' = { s with toks:=s.toks+nA done })
   _ ?_ ?_ _ _ ⟨[],ks,as,rfl,hi,rfl,rfl⟩
  ·rintro x rest b s' ⟨done,left,bs,e,hl,hb,rfl⟩
   cases hl with
   | @cons _ _ d ds as1 bs1 h1 hl'=>
    have hm:d∈ks:=by rw[e]; exact oR _ dF
    have hk':dC ks=true:=by simpa [cC] using hk
    refine aJ (SC ks hm (A:=A.in1) (by
     have:A.in1.units=A.units+1:=rfl
     omega) hk' (s:={ s with toks:=s.toks+nA done }) h1 ?_)
    first
     | exact bE ⟨done++[d],ds,bs1,by simp[e],hl',by simp[hb,SJ,lR],by simp[SH,nA,JW]⟩
     | exact aJ (bE (bE ⟨done++[d],ds,bs1,by simp[e],hl',by simp[hb,SJ,lR],by simp[SH,nA,JW]⟩))
  ·rintro b s' ⟨done,left,bs,e,hl,hb,rfl⟩
   cases hl
   rw[AC] at e
   subst e
   show aO _ _ (retInt (AI b.toList)) _ _ _
   rw[hb]
   refine wpAny_ret_mkInt ?_
   show aO _ _ (if (decide (-(2:Int) ^ 63≤AI (lR w ks))&&decide (AI (lR w ks)<2 ^ 63))=true then _ else _) Q E _
   simp only[sG,sE] at h
   unfold reduceHash at h
   by_cases hr:(decide (-(2:Int) ^ 63≤AI (lR w ks))&&decide (AI (lR w ks)<2 ^ 63))=true
   ·rw[if_pos hr]
    rw[if_pos hr] at h
    exact bE (by simpa [JW] using h)
   ·rw[if_neg hr]
    rw[if_neg hr] at h
    exact aJ (rJ (bE (by simpa [JW] using h)))
 | .none,A,E,s,v,as,Q,hu,hk,r,h=>by simp[cC] at hk
 | .bool _,A,E,s,v,as,Q,hu,hk,r,h=>by simp[cC] at hk
 | .list _,A,E,s,v,as,Q,hu,hk,r,h=>by simp[cC] at hk
 | .dict _,A,E,s,v,as,Q,hu,hk,r,h=>by simp[cC] at hk
theorem SC : ∀ (ks:List aA) {d:aA},d∈ks -> ∀ {A:eD} {E:aG->aL->Prop} {s:aL} {v:aG} {as:List aD} {Q:Int->aL->Prop},A.units+bU ks<cLine->dC ks=true->pS s.heap v d as ->
  Q (sG w d) { s with toks:=s.toks+sE d }->aO (bC prog w) A (pyHash v) Q E s
 | [],_,hm,_,_,_,_,_,_,_,_,_,_=>by simp at hm
 | k::ks,d,hm,A,E,s,v,as,Q,hu,hk,r,h=>by
  have hk':cC k=true/\dC ks=true:=by simpa [dC] using hk
  have hdep:A.units+max k.depth (bU ks)<cLine:=by simpa [bU] using hu
  by_cases e:d=k
  ·exact RM k (by omega) hk'.1 (e ▸ r) (by rw[← e]; exact h)
  ·have hm':d∈ks:=by
    rcases fG.mp hm with q | q
    ·exact absurd q e
    ·exact q
   exact SC ks hm' (by omega) hk'.2 r h
end
end
section
variable {prog:cL}{w:cA}
mutual
theorem QJ : ∀ (d:aA) (n:Nat) {A:eD} {E:aG->aL->Prop} {s:aL} {v:aG} {as:List aD} {Q:Bool->aL->Prop},d.depth≤n->cC d=true->pS s.heap v d as ->
  Q true s->aO (bC prog w) A (eqIsQuiet n v) Q E s
 | .int i,n,A,E,s,v,as,Q,hu,hk,r,h=>by
  cases r with
  | int _ t=>
   rw[eqIsQuiet_byValue n (by rfl)]
   exact bE h
 | .str x,n,A,E,s,v,as,Q,hu,hk,r,h=>by
  cases r with
  | str _ t=>
   rw[eqIsQuiet_byValue n (by rfl)]
   exact bE h
 | .tuple ks,n,A,E,s,v,as,Q,hu,hk,r,h=>by
  obtain⟨a,o,items,m,rfl,ho,hc,hd,hi⟩:=GV r
  have hT:s.TypeIs (.ref a) "tuple":=⟨o,ho,hc⟩
  have hdep:bU ks+1≤n:=by simpa [cP] using hu
  obtain⟨n,rfl⟩ : ∃ m,n=m+1:=⟨n - 1,by omega⟩
  have hk':dC ks=true:=by simpa [cC] using hk
  unfold eqIsQuiet
  refine aJ (zR hT F.slot_tuple_eq.lookup ?_)
  show aO _ _ (isInstance (.ref a) (.type "tuple") >>= _) _ _ s
  refine aJ (zT hT isSubtype_tuple_tuple ?_)
  simp only[Bool.not_true,oW,if_false]
  refine aJ (mP ho hd ?_)
  refine aJ ?_
  show aO _ _ (forIn items _ _) _ _ s
  rw[← LG]
  refine wpAny_forIn_list _ (fun rest r s'=>r.1=none/\s'=s /\ ∃ ds bs,wI s.heap rest ds bs /\ ∀ d∈ds,d∈ks) _ ?_ ?_ _ _ ⟨rfl,rfl,ks,as,hi,fun _ h=>h⟩
  ·rintro v rest r s' ⟨hr,rfl,ds,bs,hl,hall⟩
   cases hl with
   | @cons _ _ d ds as1 bs1 h1 hl'=>
    refine aJ (RK ks (hall d dF) n (by omega) hk' h1 ?_)
    simp only[Bool.not_true,oW,if_false]
    exact bE ⟨rfl,rfl,ds,bs1,hl',fun u hu'=>hall u (eR _ hu')⟩
  ·rintro⟨r1,r2⟩ s' ⟨hr,rfl,_⟩
   simp only at hr
   subst hr
   exact bE h
 | .none,n,A,E,s,v,as,Q,hu,hk,r,h=>by simp[cC] at hk
 | .bool _,n,A,E,s,v,as,Q,hu,hk,r,h=>by simp[cC] at hk
 | .list _,n,A,E,s,v,as,Q,hu,hk,r,h=>by simp[cC] at hk
 | .dict _,n,A,E,s,v,as,Q,hu,hk,r,h=>by simp[cC] at hk
theorem RK : ∀ (ks:List aA) {d:aA},d∈ks -> ∀ (n:Nat) {A:eD} {E:aG->aL->Prop} {s:aL} {v:aG} {as:List aD} {Q:Bool->aL->Prop},bU ks≤n->dC ks=true->pS s.heap v d as ->
  Q true s->aO (bC prog w) A (eqIsQuiet n v) Q E s
 | [],_,hm,_,_,_,_,_,_,_,_,_,_,_=>by simp at hm
 | k::ks,d,hm,n,A,E,s,v,as,Q,hu,hk,r,h=>by
  have hk':cC k=true/\dC ks=true:=by simpa [dC] using hk
  have hdep:max k.depth (bU ks)≤n:=by simpa [bU] using hu
  by_cases e:d=k
  ·exact QJ k n (by omega) hk'.1 (e ▸ r) h
  ·have hm':d∈ks:=by
    rcases fG.mp hm with q | q
    ·exact absurd q e
    ·exact q
   exact RK ks hm' n (by omega) hk'.2 r h
end
mutual
theorem RG {h h':bG}(kp : ∀ b o vs n,h.get? b=some o->o.cls = .type "tuple" -> o.data = .seq vs n->h'.get? b=some o) : ∀ (d:aA) {v:aG} {as:List aD},cC d=true->pS h v d as->pS h' v d as
 | .int i,v,as,hk,r=>by
  cases r with
  | int _ t=>exact .int i t
 | .str x,v,as,hk,r=>by
  cases r with
  | str _ t=>exact .str x t
 | .tuple ks,v,as,hk,r=>by
  obtain⟨a,o,items,m,rfl,ho,hc,hd,hi⟩:=GV r
  exact .tuple (kp _ _ _ _ ho hc hd) hc hd (SE kp ks (by simpa [cC] using hk) hi)
 | .none,v,as,hk,r=>by simp[cC] at hk
 | .bool _,v,as,hk,r=>by simp[cC] at hk
 | .list _,v,as,hk,r=>by simp[cC] at hk
 | .dict _,v,as,hk,r=>by simp[cC] at hk
theorem SE {h h':bG}(kp : ∀ b o vs n,h.get? b=some o->o.cls = .type "tuple" -> o.data = .seq vs n->h'.get? b=some o) : ∀ (ds:List aA) {vs:List aG} {as:List aD},dC ds=true->wI h vs ds as->wI h' vs ds as
 | [],vs,as,hk,r=>by
  cases r with
  | nil=>exact .nil
 | d::ds,vs,as,hk,r=>by
  have hk':cC d=true/\dC ds=true:=by simpa [dC] using hk
  cases r with
  | cons r1 r2=>exact .cons (RG kp d hk'.1 r1) (SE kp ds hk'.2 r2)
end
def Aum (h:bG)(ks:List aA)(a:aD):Prop:=dC ks=true/\bU ks≤6 /\ ∃ as,pS h (.ref a) (.tuple ks) as
theorem Aum.keep {h h':bG}{ks:List aA}{a:aD}(kp : ∀ b o vs n,h.get? b=some o->o.cls = .type "tuple" -> o.data = .seq vs n->h'.get? b=some o)(k:Aum h ks a):Aum h' ks a:=
 ⟨k.1,k.2.1,k.2.2.choose,RG kp (.tuple ks) (by simpa [cC] using k.1) k.2.2.choose_spec⟩
noncomputable def qT (prog:cL)(w:cA):HeapKind prog w (List aA) where
 is:=Aum
 hash:=fun ks=>sG w (.tuple ks)
 draws:=fun ks=>sE (.tuple ks)
 room:=fun A=>A.units+20<cLine
 inj:=fun {h a x y} hx hy=>by
  obtain⟨k1,_,as,r1⟩:=hx
  obtain⟨k2,_,bs,r2⟩:=hy
  exact VB (reads_det (fun _ _ e _=>e) r2 r1).1
 keeps:=fun {h h' k a d o es ep} x ho hd hs=>x.keep fun b ob vs n hb _ hd'=>by
  have hne:b≠d:=by
   rintro rfl
   rw[ho] at hb
   cases hb
   rw[hd] at hd'
   cases hd'
  exact(hs.2 b hne).trans hb
 pyHash:=fun {A E s k a Q} hu hk h=>by
  obtain⟨k1,k2,as,r⟩:=hk
  exact RM (.tuple k) (by simp only[cP]; omega) (by simpa [cC] using k1) r h
 eqBool:=fun {A E s x y a b Q} hu hx hy h=>by
  obtain⟨k1,d1,as,r1⟩:=hx
  obtain⟨k2,d2,bs,r2⟩:=hy
  have e:=NY (.tuple x) (.tuple y) (by simpa [cC] using k1) (by simpa [cC] using k2)
  have e2:decide ((gU x) = .tuple y)=decide (x=y):=by
   by_cases q:x=y
   ·subst q; simp
   ·rw[decide_eq_false q,decide_eq_false (fun z=>q (VB z))]
  have:=SeqAt.eqAt_reads (.tuple x) (.tuple y) A s (.ref a) (.ref b) as bs r1 r2 (GF _ (by simpa [cC] using k1)) (GF _ (by simpa [cC] using k2)) (by simp only[cP]; omega)
  rw[e,e2] at this
  exact this prog w E Q h
 quiet:=fun {A E s k a Q} hk h=>by
  obtain⟨k1,k2,as,r⟩:=hk
  exact QJ (.tuple k) 8 (by simp only[cP]; omega) (by simpa [cC] using k1) r h
end
abbrev aK:=Sum Int aE
noncomputable def uL:aK->aG->Bool
 | .inl k,v=>Value.isInt k v
 | .inr x,v=>JO x v
noncomputable def XJ (w:cA):aK->Int
 | .inl k=>hashInt k
 | .inr x=>hashStr w x
theorem pI : ∀ {k:aK} {v:aG},uL k v=true->(∃ i t,k=wH i/\v=DM i t) \/ (∃ x t,k=iX x/\v=Value.str x t)
 | .inl i,v,h=>by
  obtain⟨t,e⟩:=Value.isInt_shape (k:=i) (v:=v) h
  exact .inl ⟨i,t,rfl,e⟩
 | .inr x,v,h=>by
  obtain⟨t,e⟩:=Value.isStrOf_shape (x:=x) (v:=v) h
  exact .inr ⟨x,t,rfl,e⟩
theorem Dq (i:Int)(t:Tok):uL (.inl i) (.int i t)=true:=by simp[uL,Value.isInt]
theorem Cy (x:aE)(t:Tok):uL (.inr x) (.str x t)=true:=by simp[uL,JO]
theorem Ay (a b:Int):decide ((wH a:aK)=wH b)=(a == b):=by
 by_cases e:a=b
 ·subst e; simp
 ·have h : ¬ (wH a:aK)=wH b:=fun q=>e (Sum.inl.inj q)
  rw[decide_eq_false h]
  exact(beq_eq_false_iff_ne.mpr e).symm
theorem ZH (a b:aE):decide ((iX a:aK)=iX b)=decide (a=b):=by
 by_cases e:a=b
 ·subst e; simp
 ·have h : ¬ (iX a:aK)=iX b:=fun q=>e (JP q)
  rw[decide_eq_false h,decide_eq_false e]
theorem Bw (a:Int)(b:aE):decide ((wH a:aK)=iX b)=false:=decide_eq_false (fun q=>nomatch q)
theorem ZD (a:aE)(b:Int):decide ((iX a:aK)=wH b)=false:=decide_eq_false (fun q=>nomatch q)
noncomputable def fI (prog:cL)(w:cA):PySem.KeyKind prog w aK where
 is:=uL
 hash:=XJ w
 inj:=fun v a b ha hb=>by
  rcases pI ha with⟨i,t,rfl,rfl⟩ | ⟨x,t,rfl,rfl⟩
  ·rcases pI hb with⟨j,u,rfl,e⟩ | ⟨y,u,rfl,e⟩
   ·injection e with e1 _; rw[e1]
   ·exact nomatch e
  ·rcases pI hb with⟨j,u,rfl,e⟩ | ⟨y,u,rfl,e⟩
   ·exact nomatch e
   ·injection e with e1 _; rw[e1]
 byValue:=fun k v h=>by
  rcases pI h with⟨i,t,rfl,rfl⟩ | ⟨x,t,rfl,rfl⟩ <;> rfl
 pyHash:=fun hv h=>by
  rcases pI hv with⟨i,t,rfl,rfl⟩ | ⟨x,t,rfl,rfl⟩
  ·exact wpAny_pyHash_int h
  ·exact wpAny_pyHash_str h
 eqBool:=fun hu hv h=>by
  rcases pI hu with⟨i,t,rfl,rfl⟩ | ⟨x,t,rfl,rfl⟩
  ·rcases pI hv with⟨j,u,rfl,rfl⟩ | ⟨y,u,rfl,rfl⟩
   ·rw[Ay] at h; exact wpAny_eqBool_int h
   ·rw[Bw] at h; exact SeqAt.EqAt.int_str i t y u _ _ _ _ h
  ·rcases pI hv with⟨j,u,rfl,rfl⟩ | ⟨y,u,rfl,rfl⟩
   ·rw[ZD] at h; exact SeqAt.EqAt.str_int x t j u _ _ _ _ h
   ·rw[ZH] at h; exact wpAny_eqBool_str h
 «strs»:=fun k x t v h=>by
  rcases pI h with⟨i,u,rfl,e⟩ | ⟨y,u,rfl,e⟩
  ·exact nomatch e
  ·injection e with e1 _
   subst e1
   cases v <;> rfl
theorem Hg (prog:cL)(w:cA)(i:Int)(t:Tok):(fI prog w).is (.inl i) (.int i t)=true:=Dq i t
theorem Il (prog:cL)(w:cA)(x:aE)(t:Tok):(fI prog w).is (.inr x) (.str x t)=true:=Cy x t
inductive V where
 | non | bl (b:Bool) | int (i:Int) | str (x:aE) | byt (b:Array UInt8) | flt (b:UInt64) | ref (a:aD) | ty (n:String)
 deriving DecidableEq
def RelV:V->aG->Prop
 | .non,u=>u=jJ
 | .bl b,u=>u=Value.bool b
 | .int i,u=>∃ t,u=DM i t
 | .str x,u=>∃ t,u=Value.str x t
 | .byt b,u=>∃ t,u=Value.bytes b t
 | .flt b,u=>∃ t,u=Value.float b t
 | .ref a,u=>u=fZ a
 | .ty n,u=>u=iM n
abbrev Vals:List V->List aG->Prop:=gV RelV
theorem Vals.length {xs:List V}{us:List aG}(r:Vals xs us):xs.length=us.length:=pT r
theorem Vals.get : ∀ {xs:List V} {us:List aG} {i:Nat} {x:V},Vals xs us->xs[i]?=some x -> ∃ u,us[i]?=some u/\RelV x u
 | _,_,_,_,.nil,e=>by simp at e
 | _,_,0,_,.cons r _,e=>by simp at e; subst e; exact⟨_,rfl,r⟩
 | _,_,i+1,x,.cons _ t,e=>by
  obtain⟨u,h1,h2⟩:=Vals.get (i:=i) (x:=x) t (by simpa using e)
  exact⟨u,by simpa using h1,h2⟩
theorem Vals.set {x:V}{u:aG}(r:RelV x u) : ∀ {xs:List V} {us:List aG} (i:Nat),Vals xs us->Vals (xs.set i x) (us.set i u)
 | _,_,_,.nil=>.nil
 | _,_,0,.cons _ t=>.cons r t
 | _,_,i+1,.cons q t=>.cons q (Vals.set r i t)
theorem Vals.append : ∀ {xs ys:List V} {us ws:List aG},Vals xs us->Vals ys ws->Vals (xs++ys) (us++ws)
 | _,_,_,_,.nil,s=>s
 | _,_,_,_,.cons r t,s=>.cons r (Vals.append t s)
theorem Vals.take : ∀ {xs:List V} {us:List aG} (n:Nat),Vals xs us->Vals (xs.take n) (us.take n)
 | _,_,0,_=>.nil
 | _,_,_+1,.nil=>.nil
 | _,_,n+1,.cons r t=>.cons r (Vals.take n t)
theorem Vals.drop : ∀ {xs:List V} {us:List aG} (n:Nat),Vals xs us->Vals (xs.drop n) (us.drop n)
 | _,_,0,r=>r
 | _,_,_+1,.nil=>.nil
 | _,_,n+1,.cons _ t=>Vals.drop n t
def Au8:Option V->Option aG->Prop
 | some v,some u=>RelV v u
 | none,none=>True
 | _,_=>False
def KV {κ:Type}:List (κ×V)->List (κ×aG)->Prop:=gV fun(p:κ×V) (q:κ×aG)=>p.1=q.1/\RelV p.2 q.2
noncomputable def kV:aK->V
 | .inl i=>.int i
 | .inr x=>.str x
inductive HO where
 | lst (xs:List V)
 | tup (xs:List V)
 | dK (ep:Nat) (kvs:List (aK×V)) | dT (kvs:List (List aA×V))
 | set (S:Int->Bool) (n:Nat)
 | ins (C dx:aD) (fs:List (aE×V))
 | own (x:aD)
 | xd (fs:List (aE×V))
 | met (f x:aD)
 | rng (lo hi:Int)
 | frz (o:bP) (u:HO)
 | tbl (ps:Array aG)
 | ext (φ:bG->Prop)
abbrev Hp:=aD->Option HO
noncomputable def upd (H:Hp)(a:aD)(o:HO):Hp:=fun b=>if b=a then some o else H b
theorem gR {H:Hp}{a:aD}{o:HO}:upd H a o a=some o:=by unfold upd; rw[if_pos rfl]
theorem fH {H:Hp}{a b:aD}{o:HO}(h:b≠a):upd H a o b=H b:=by unfold upd; rw[if_neg h]
theorem Le {H:Hp}{a:aD}{o u:HO}:upd (upd H a o) a u=upd H a u:=by
 funext b; unfold upd; split <;> rfl
theorem YM {H:Hp}{a b:aD}{o u:HO}(h:H a=some o)(h':H b=some u)(d:o≠u):a≠b:=by
 intro e; subst e; rw[h] at h'; exact d (gW h')
theorem kJ {H:Hp}{a b:aD}{o:HO}(h:H a=some o)(h':H b=none):a≠b:=by
 intro e; subst e; rw[h] at h'; cases h'
mutual
def Ajr (H:Hp):aA->V->Prop
 | .int i,v=>v = .int i
 | .str x,v=>v = .str x
 | .tuple ds,v=>∃ a xs,v = .ref a/\H a=some (.tup xs)/\Af6 H ds xs
 | _,_=>False
def Af6 (H:Hp):List aA->List V->Prop
 | [],vs=>vs=[]
 | d::r,vs=>∃ x rr,vs=x::rr/\Ajr H d x/\Af6 H r rr
end
mutual
theorem Ajr.keep {H H':Hp}(ht : ∀ b xs,H b=some (.tup xs)->H' b=some (.tup xs)) : ∀ {d:aA} {v:V},Ajr H d v->Ajr H' d v
 | .int _,_,k=>by simpa [Ajr] using k
 | .str _,_,k=>by simpa [Ajr] using k
 | .tuple ds,_,k=>by
  simp only[Ajr] at k ⊢
  obtain⟨a,xs,e,h,ks⟩:=k
  exact⟨a,xs,e,ht _ _ h,Af6.keep ht ks⟩
 | .none,_,k=>by simp[Ajr] at k
 | .bool _,_,k=>by simp[Ajr] at k
 | .list _,_,k=>by simp[Ajr] at k
 | .dict _,_,k=>by simp[Ajr] at k
theorem Af6.keep {H H':Hp}(ht : ∀ b xs,H b=some (.tup xs)->H' b=some (.tup xs)) : ∀ {ds:List aA} {vs:List V},Af6 H ds vs->Af6 H' ds vs
 | [],_,k=>by simpa [Af6] using k
 | d::ds,_,k=>by
  simp only[Af6] at k ⊢
  obtain⟨x,r,e,k1,k2⟩:=k
  exact⟨x,r,e,Ajr.keep ht k1,Af6.keep ht k2⟩
end
def Aop (H:Hp)(ks:List aA)(a:aD):Prop:=dC ks=true/\bU ks≤6 /\ ∃ xs,H a=some (.tup xs)/\Af6 H ks xs
theorem Aop.keep {H H':Hp}{ks:List aA}{a:aD}(k:Aop H ks a)(ht : ∀ b xs,H b=some (.tup xs)->H' b=some (.tup xs)):Aop H' ks a:=
 ⟨k.1,k.2.1,k.2.2.choose,ht _ _ k.2.2.choose_spec.1,k.2.2.choose_spec.2.keep ht⟩
def A5l (h:bG)(a:aD)(its:Array aG):Prop:=IsTup h a its /\ ∃ o,h.get? a=some o/\o.dict=none
theorem A5l.new (h:bG)(its:Array aG):A5l (h.push { cls:=.type "tuple",data:=.seq its }) h.objs.size its:=⟨IsTup.new _ _,_,eW _ rfl,rfl⟩
section
variable (P:cL)(w:cA)
def Ady (H:Hp)(h:bG)(a:aD):HO->Prop
 | .lst xs=>xs.length≤sizeLine /\ ∃ (its:List aG) (n:Nat),Vals xs its/\h.get? a=some { cls:=.type "list",data:=.seq its.toArray n }
 | .tup xs=>xs.length≤sizeLine /\ ∃ its:List aG,Vals xs its/\A5l h a its.toArray
 | .dK ep kvs=>kvs.length≤sizeLine/\(a == iJ)=false /\ ∃ vs,KV kvs vs/\h.DictAt (fI P w) a vs ep
 | .dT kvs=>kvs.length≤sizeLine/\(a == iJ)=false /\ ∃ xs:List (List aA×aD×aG),
   gV (fun(p:List aA×V) (q:List aA×aD×aG)=>p.1=q.1/\Aop H p.1 q.2.1/\RelV p.2 q.2.2) kvs xs /\
   ∃ o es ep,h.get? a=some o/\o.ExactDict/\o.data = .dict es ep/\es.toList=xs.map (entryOfKey (qT P w))/\(xs.map (·.1)).Nodup
 | .set S n=>h.SetOf (intKind P w) a S n
 | .ins C dx fs=>H dx=some (.own a)/\fs.length≤1000/\dx≠a/\h.get? a=some (UR C dx) /\
   ∃ mA,h.Ns1 dx mA/\(∀ f,Au8 (fs.lookup f) (mA f))/\PySem.Within mA (fs.map (·.1))
 | .own _=>∃ o,h.get? a=some o
 | .xd fs=>∃ mA,h.Ns1 a mA /\ ∀ f,Au8 (fs.lookup f) (mA f)
 | .rng lo hi=>∃ t u v,h.get? a=some { cls:=.type "range",data:=.fields #[.int lo t,.int hi u,.int 1 v] }
 | .frz o u=>h.get? a=some o/\Ady H h a u
 | .tbl ps=>h.get? a=some { cls:=.none,data:=.fields ps }
 | .met f x=>h.get? a=some (UN (.ref f) (.ref x))
 | .ext φ=>φ h/\(∃ o,h.get? a=some o) /\ ∀ h1 h2:bG,φ h1->(∀ o,h1.get? a=some o->h2.get? a=some o)->φ h2
def HOk (H:Hp)(h:bG):Prop:=∀ a o,H a=some o->Ady P w H h a o
end
section
variable {P:cL}{w:cA}{H H':Hp}{h h':bG}{a:aD}{o:HO}
theorem Ady.lt (x:Ady P w H h a o):a<h.objs.size:=by
 cases o with
 | lst xs=>obtain⟨_,_,_,_,e⟩:=x; exact cI e
 | tup xs=>obtain⟨_,_,_,p⟩:=x; exact p.1.lt
 | dK ep kvs=>obtain⟨_,_,_,_,o,_,e,_⟩:=x; exact cI e
 | dT kvs=>obtain⟨_,_,_,_,o,_,_,e,_⟩:=x; exact cI e
 | set S n=>obtain⟨o,_,_,_,e,_⟩:=x; exact cI e
 | ins C dx fs=>obtain⟨_,_,_,e,_⟩:=x; exact cI e
 | own y=>obtain⟨_,e⟩:=x; exact cI e
 | xd fs=>obtain⟨_,⟨_,_,_,e,_⟩,_⟩:=x; exact cI e
 | rng lo hi=>obtain⟨_,_,_,e⟩:=x; exact cI e
 | frz ob u=>obtain⟨e,_⟩:=x; exact cI e
 | tbl ps=>exact cI (show h.get? a=some _ from x)
 | met f y=>exact cI (show h.get? a=some _ from x)
 | ext φ=>obtain⟨_,⟨_,e⟩,_⟩:=x; exact cI e
theorem Paired.mapP {α β:Type}{F G:α->β->Prop} : ∀ {l₁:List α} {l₂:List β},gV F l₁ l₂->(∀ a b,F a b->G a b)->gV G l₁ l₂:=by
 intro l₁ l₂ h
 induction h with
 | nil=>exact fun _=>.nil
 | cons r _ ih=>exact fun f=>.cons (f _ _ r) (ih f)
theorem Ady.stay (x:Ady P w H h a o)(k : ∀ b u,(b=a \/ H b=some (.own a))->h.get? b=some u->h'.get? b=some u)
  (ho : ∀ b,H b=some (.own a)->H' b=some (.own a)) (ht : ∀ b xs,H b=some (.tup xs)->H' b=some (.tup xs)):Ady P w H' h' a o:=by
 induction o with
 | lst xs=>obtain⟨z,its,n,r,e⟩:=x; exact⟨z,its,n,r,k _ _ (.inl rfl) e⟩
 | tup xs=>obtain⟨z,its,r,⟨ob,e,c⟩,ob2,e2,c2⟩:=x; exact⟨z,its,r,⟨ob,k _ _ (.inl rfl) e,c⟩,ob2,k _ _ (.inl rfl) e2,c2⟩
 | dK ep kvs=>obtain⟨z,y,vs,r,ob,es,e,c⟩:=x; exact⟨z,y,vs,r,ob,es,k _ _ (.inl rfl) e,c⟩
 | dT kvs=>
  obtain⟨z,y,xs,r,ob,es,ep,e,c⟩:=x
  exact⟨z,y,xs,Paired.mapP r fun p q z=>⟨z.1,z.2.1.keep ht,z.2.2⟩,ob,es,ep,k _ _ (.inl rfl) e,c⟩
 | set S n=>obtain⟨ob,es,ep,t,e,c⟩:=x; exact⟨ob,es,ep,t,k _ _ (.inl rfl) e,c⟩
 | ins C dx fs=>
  obtain⟨d,z,ne,e,mA,⟨od,es,ep,e2,c⟩,r⟩:=x
  exact⟨ho _ d,z,ne,k _ _ (.inl rfl) e,mA,⟨od,es,ep,k _ _ (.inr d) e2,c⟩,r⟩
 | own y=>obtain⟨ob,e⟩:=x; exact⟨ob,k _ _ (.inl rfl) e⟩
 | xd fs=>obtain⟨mA,⟨od,es,ep,e,c⟩,r⟩:=x; exact⟨mA,⟨od,es,ep,k _ _ (.inl rfl) e,c⟩,r⟩
 | rng lo hi=>obtain⟨t,u,v,e⟩:=x; exact⟨t,u,v,k _ _ (.inl rfl) e⟩
 | frz ob u ih=>obtain⟨e,q⟩:=x; exact⟨k _ _ (.inl rfl) e,ih q⟩
 | tbl ps=>
  have e:h.get? a=some { cls:=.none,data:=.fields ps }:=x
  show h'.get? a=some { cls:=.none,data:=.fields ps }
  exact k a _ (.inl rfl) e
 | met f y=>
  have e:h.get? a=some (UN (.ref f) (.ref y)):=x
  show h'.get? a=some (UN (.ref f) (.ref y))
  exact k a _ (.inl rfl) e
 | ext φ=>obtain⟨p,⟨o,e⟩,st⟩:=x; exact⟨st _ _ p fun o q=>k _ _ (.inl rfl) q,⟨o,k _ _ (.inl rfl) e⟩,st⟩
theorem HOk.lt (x:HOk P w H h)(e:H a=some o):a<h.objs.size:=(x a o e).lt
theorem HOk.fresh (x:HOk P w H h)(e:h.objs.size≤a):H a=none:=by
 cases q:H a with
 | none=>rfl
 | some u=>exact absurd (iE (x.lt q) e) (mD _)
theorem HOk.kept (x:HOk P w H h)(k : ∀ b u,h.get? b=some u->h'.get? b=some u):HOk P w H h':=fun a o e=>
 (x a o e).stay (fun b u _ q=>k b u q) (fun _ q=>q) fun _ _ q=>q
theorem HOk.laid (x:HOk P w H h)(k : ∀ b u,h.get? b=some u->h'.get? b=some u)(hp:h.objs.size≤a)(new:Ady P w (upd H a o) h' a o):HOk P w (upd H a o) h':=fun b u e=>by
 have hn:=x.fresh hp
 by_cases hb:b=a
 ·subst hb; rw[gR] at e; cases e; exact new
 ·rw[fH hb] at e
  exact(x b u e).stay (fun c v _ q=>k c v q) (fun c q=>by rw[fH (kJ q hn)]; exact q) fun c xs q=>by rw[fH (kJ q hn)]; exact q
end
def Rd (H:Hp)(a:aD)(u:HO):Prop:=H a=some u \/ ∃ o,H a=some (.frz o u)
theorem Rd.ok {P:cL}{w:cA}{H:Hp}{h:bG}{a:aD}{u:HO}(r:Rd H a u)(x:HOk P w H h):Ady P w H h a u:=by
 rcases r with r | ⟨o,r⟩
 ·exact x a u r
 ·obtain⟨_,q⟩:=x a _ r
  exact q
def wU:Option HO->Prop
 | some (.lst _)=>True
 | some (.dK _ _)=>True
 | some (.dT _)=>True
 | some (.set _ _)=>True
 | some (.ins _ _ _)=>True
 | some (.ext _)=>True
 | _=>False
section
variable {P:cL}{w:cA}{H:Hp}{h h':bG}{x e:aD}{o':HO}
theorem HOk.write (ok:HOk P w H h)(mu:wU (H x))(he:e=x \/ H e=some (.own x))(k : ∀ b u,b≠e->h.get? b=some u->h'.get? b=some u)(heo : ∃ u,h'.get? e=some u)
  (new:Ady P w (upd H x o') h' x o'):HOk P w (upd H x o') h':=fun b u q=>by
 have nown : ∀ c y,H c=some (.own y)->c≠x:=fun c y r z=>by subst z; rw[r] at mu; exact mu
 have ntup : ∀ c xs,H c=some (.tup xs)->c≠x:=fun c xs r z=>by subst z; rw[r] at mu; exact mu
 by_cases hb:b=x
 ·subst hb; rw[gR] at q; cases q; exact new
 ·rw[fH hb] at q
  by_cases hbe:b=e
  ·have q':H b=some (.own x):=by
    rcases he with z | z
    ·exact absurd (hbe.trans z) hb
    ·rw[hbe]; exact z
   rw[q] at q'; cases q'
   obtain⟨v,hv⟩:=heo
   exact⟨v,by rw[hbe]; exact hv⟩
  ·refine(ok b u q).stay (fun c v hc r=>k c v ?_ r) (fun c r=>by rw[fH (nown c b r)]; exact r) fun c xs r=>by rw[fH (ntup c xs r)]; exact r
   rcases hc with rfl | hc
   ·exact hbe
   ·rintro rfl
    rcases he with z | z
    ·exact nown c b hc z
    ·rw[hc] at z; cases z; exact hb rfl
end
structure Un (fs ex:List aD)(H H':Hp)(h h':bG):Prop where
 keep : ∀ b o,h.get? b=some o->H b=none->b∉fs->b∉ex->h'.get? b=some o
 slot : ∀ b o,h.get? b=some o->H b=none->b∈fs->b∉ex -> ∃ sl,h'.get? b=some { o with slots:=sl }
 free : ∀ b o,h.get? b=some o->H b=none->b∉ex->H' b=none
 there : ∀ b o,h.get? b=some o->b∉ex -> ∃ o',h'.get? b=some o'
 tups : ∀ b xs,H b=some (.tup xs)->H' b=some (.tup xs)
 frzs : ∀ b o u,H b=some (.frz o u)->H' b=some (.frz o u)
 tbls : ∀ b ps,H b=some (.tbl ps) -> ∃ more,H' b=some (.tbl (ps++more))
section
variable {fs fs' ex ex':List aD}{H H1 H2:Hp}{h h1 h2 h':bG}{a x e:aD}{o:HO}
theorem Un.any (u:Un fs ex H H1 h h1){b:aD}{ob:bP}(q:h.get? b=some ob)(n:H b=none)(hx:b∉ex) : ∃ sl,h1.get? b=some { ob with slots:=sl }:=by
 by_cases hb:b∈fs
 ·exact u.slot b ob q n hb hx
 ·exact⟨ob.slots,u.keep b ob q n hb hx⟩
theorem Un.kept (k : ∀ b u,h.get? b=some u->h'.get? b=some u):Un fs ex H H h h':=
 ⟨fun b ob q _ _ _=>k b ob q,fun b ob q _ _ _=>⟨ob.slots,k b ob q⟩,fun _ _ _ n _=>n,fun b ob q _=>⟨ob,k b ob q⟩,fun _ _ q=>q,fun _ _ _ q=>q,fun _ ps q=>⟨#[],by rw[q]; simp⟩⟩
theorem Un.refl:Un fs ex H H h h:=Un.kept fun _ _ q=>q
theorem Un.laid (k : ∀ b u,h.get? b=some u->h'.get? b=some u)(hp:h.objs.size≤a)(hn:H a=none):Un fs ex H (upd H a o) h h' where
 keep:=fun b u q _ _ _=>k b u q
 slot:=fun b u q _ _ _=>⟨u.slots,k b u q⟩
 free:=fun b u q n _=>by rw[fH (fC (iE (cI q) hp))]; exact n
 there:=fun b u q _=>⟨u,k b u q⟩
 tups:=fun b xs q=>by rw[fH (kJ q hn)]; exact q
 frzs:=fun b u xs q=>by rw[fH (kJ q hn)]; exact q
 tbls:=fun b ps q=>⟨#[],by rw[fH (kJ q hn),q]; simp⟩
theorem Un.write (mu:wU (H x))(he:e=x \/ H e=some (.own x))(k : ∀ b u,b≠e->h.get? b=some u->h'.get? b=some u)(heo : ∃ u,h'.get? e=some u):Un fs ex H (upd H x o) h h':=by
 have hx : ∀ b,H b=none->b≠x:=fun b n z=>by subst z; rw[n] at mu; exact mu
 have hb : ∀ b,H b=none->b≠e:=fun b n z=>by
  subst z
  rcases he with r | r
  ·exact hx b n r
  ·rw[n] at r; cases r
 have hm : ∀ b u,H b=some u -> ¬ wU (some u)->b≠x:=fun b u q nm z=>by subst z; rw[q] at mu; exact nm mu
 refine⟨fun b u q n _ _=>k b u (hb b n) q,fun b u q n _ _=>⟨u.slots,k b u (hb b n) q⟩,fun b u q n _=>by rw[fH (hx b n)]; exact n,fun b u q _=>?_,
  fun b xs q=>by rw[fH (hm b _ q fun z=>z)]; exact q,fun b u xs q=>by rw[fH (hm b _ q fun z=>z)]; exact q,fun b ps q=>⟨#[],by rw[fH (hm b _ q fun z=>z),q]; simp⟩⟩
 by_cases hbe:b=e
 ·subst hbe; exact heo
 ·exact⟨u,k b u hbe q⟩
end
noncomputable def trk (h:bG)(H:Hp):List aD:=(cE h.objs.size).filter fun a=>(H a).isSome
noncomputable def pJ (h:bG)(H:Hp):bG:=PySem.W.hideAll h (trk h H)
theorem Ex (h:bG)(H:Hp):(pJ h H).objs.size=h.objs.size:=PySem.W.hideAll_size _ _
theorem Qq {h:bG}{H:Hp}{b:aD}{o:bP}(e:h.get? b=some o)(n:H b=none):(pJ h H).get? b=some o:=
 PySem.W.hideAll_get _ e fun hm=>by
  have q:(H b).isSome=true:=(pV.mp hm).2
  rw[n] at q; simp at q
theorem Ms {h:bG}{H:Hp}{b:aD}{o:bP}(e:(pJ h H).get? b=some o):h.get? b=some o/\H b=none:=by
 have e':h.get? b=some o:=PySem.W.of_hideAll (trk h H) e
 refine⟨e',?_⟩
 cases q:H b with
 | none=>rfl
 | some x=>
  have hm:b∈trk h H:=pV.mpr ⟨jA.mpr (cI e'),by simp[q]⟩
  have z:(pJ h H).get? b=none:=PySem.W.hideAll_none (trk h H) hm
  rw[z] at e; cases e
noncomputable def Nd (g h:bG)(L:aD):List (aD×bP):=(cE h.objs.size).filterMap fun a=>if a=L \/ (g.get? a).isSome=true then none else(h.get? a).map fun o=>(a,o)
noncomputable def rest (g h:bG)(L d:aD):List (aD×bP):=(Nd g h L).filter fun p=>decide (p.1≠d)
structure Mod (K:aP)(mg:aE->Option aG)(base:bG):Prop where
 kin:K.In base
 glob:base.Ns eQ mg
 blt : ∃ mb,base.Ns builtinsNs mb /\ ∀ x:aE,x ≠ "__name__" -> mb x=mQ x
 nolimit:base.NoLimit
structure Cx where
 prog:cL
 w:cA
 K:aP
 mg:aE->Option aG
 base:bG
 A:eD
 N:List aE
 s₀:aL
 H₀:Hp
 env:Env
 outer:List Env
 stack:List Env
 ex:List aD
 fn:aE->Bool
 calm:Bool
 pn:List (aD×bP)
 xe:aG->aL->Prop
noncomputable def frs (l:List Env):List aD:=l.filterMap (·.frame)
noncomputable abbrev Cx.fs (X:Cx):List aD:=frs X.outer
def lH (sc:iY)(x:aE):Prop:=sc.names.lookup x=some .local \/ sc.names.lookup x=some .cell \/ sc.names.lookup x=some .free
def jY (sc:iY)(x:aE):Prop:=sc.names.lookup x=some .local \/ sc.names.lookup x=some .cell
def Look (env:Env)(h:bG)(m:aE->Option aG)(x:aE)(u:aG):Prop:=
 (env.kindOf x=some .local/\m x=some u) \/ ((env.kindOf x=some .cell \/ env.kindOf x=some .free) /\ ∃ c,env.cells.lookup x=some c/\h.IsCell c (some u))
structure Cx.Ok (X:Cx):Prop where
 mod:Mod X.K X.mg X.base
 kind:X.env.scope.kind = .function
 glob:X.env.globals=eQ
 blt:X.env.builtins=builtinsNs
 above:X.s₀.heap.objs.size≤X.env.locals
 inj : ∀ x y c,X.env.cells.lookup x=some c->X.env.cells.lookup y=some c->x=y
 has : ∀ x,(X.env.kindOf x=some .cell \/ X.env.kindOf x=some .free) -> ∃ c,X.env.cells.lookup x=some c
 cab : ∀ x c,X.fn x=true->X.env.cells.lookup x=some c->X.s₀.heap.objs.size≤c
 hd:X.calm=true->X.A.handled=none
 frames:X.A.frames=some X.stack
 stk:X.stack=X.outer \/ (X.stack=X.env::X.outer/\X.env.frame=some X.env.locals)
 exf : ∀ b∈X.ex,b≠X.env.locals /\ ∀ x c,X.env.cells.lookup x=some c->c≠b
 bs : ∀ b o,X.base.get? b=some o->X.s₀.heap.get? b=some o/\X.H₀ b=none
 bsz:X.base.objs.size≤X.s₀.heap.objs.size
 noex : ∀ b o,X.base.get? b=some o->b∉X.ex
 exfs : ∀ b∈X.ex,b∉X.fs
 funs:X.s₀.heap.FunFrames X.base X.outer
 frf : ∀ b∈X.fs,X.H₀ b=none
structure Inv (X:Cx)(pins:List (aD×bP))(σ:List (Option V))(H:Hp)(s:aL):Prop where
 ok:X.Ok
 os:s.os=X.s₀.os
 bare:rV s.gens
 base:Un X.fs X.ex X.H₀ H X.s₀.heap s.heap
 loc : ∃ m,s.heap.Ns X.env.locals m /\ ∀ (i:Nat) (x:aE) (v:V),X.N[i]?=some x->σ[i]?=some (some v)->lH X.env.scope x -> ∃ u,RelV v u/\Look X.env s.heap m x u
 cell : ∀ x c,X.env.cells.lookup x=some c -> ∃ v,s.heap.IsCell c v
 free:H X.env.locals=none
 Ad2 : ∀ x c,X.env.cells.lookup x=some c->H c=none
 pin : ∀ p∈X.pn++pins,s.heap.get? p.1=some p.2/\H p.1=none/\p.1≠X.env.locals/\p.1∉X.fs /\ ∀ v,p.2.data ≠ .cell v
 hok:HOk X.prog X.w H s.heap
 len:σ.length=X.N.length
section
variable {X:Cx}{pins:List (aD×bP)}{σ:List (Option V)}{H H':Hp}{s:aL}{h':bG}
theorem Cx.Ok.nofr (ok:X.Ok){b:aD}{o:bP}(e:X.base.get? b=some o):b∉X.fs:=fun hb=>by
 have:=(ok.funs.mem hb).1
 rw[e] at this; cases this
theorem Inv.bs (I:Inv X pins σ H s) : ∀ b o,X.base.get? b=some o->s.heap.get? b=some o/\H b=none:=fun b o e=>
 ⟨I.base.keep b o (I.ok.bs b o e).1 (I.ok.bs b o e).2 (I.ok.nofr e) (I.ok.noex b o e),I.base.free b o (I.ok.bs b o e).1 (I.ok.bs b o e).2 (I.ok.noex b o e)⟩
theorem Inv.bk (I:Inv X pins σ H s) : ∀ b o,X.base.get? b=some o->s.heap.get? b=some o:=fun b o e=>(I.bs b o e).1
theorem Inv.mod (I:Inv X pins σ H s):Mod X.K X.mg X.base:=I.ok.mod
theorem Inv.kIn (I:Inv X pins σ H s):X.K.In s.heap:=I.ok.mod.kin.keeps I.bk
theorem Inv.lt (I:Inv X pins σ H s):X.env.locals<s.heap.objs.size:=let ⟨_,hn,_⟩:=I.loc; hn.lt
theorem Inv.sz (I:Inv X pins σ H s):X.s₀.heap.objs.size≤s.heap.objs.size:=jW I.ok.above (DX I.lt)
theorem Inv.nofs (I:Inv X pins σ H s){a:aD}(h:s.heap.objs.size≤a):a∉X.fs:=fun hb=>by
 obtain⟨_,o,ho,_⟩:=I.ok.funs.mem hb
 exact absurd (iE (cI ho) (jW I.sz h)) (mD _)
theorem Inv.cne (I:Inv X pins σ H s) : ∀ x c,X.env.cells.lookup x=some c->c≠X.env.locals:=fun x c e z=>by
 obtain⟨v,o,ho,hd⟩:=I.cell x c e
 obtain⟨m,⟨o',es,ep,ho',hd',_⟩,_⟩:=I.loc
 rw[z,ho'] at ho; cases ho; rw[hd'] at hd; cases hd
theorem Inv.funs (I:Inv X pins σ H s):s.heap.FunFrames X.base X.outer:=by
 have all : ∀ (l:List Env),(∀ b∈frs l,b∈X.fs)->X.s₀.heap.FunFrames X.base l->s.heap.FunFrames X.base l:=by
  intro l
  induction l with
  | nil=>intro _ _; trivial
  | cons env r ih=>
   intro hs hl
   obtain⟨hk,⟨L,o,hf,hn,ho,hd⟩,hr⟩:=hl
   have hL:L∈X.fs:=hs L (by unfold frs; rw[VJ,hf]; exact dF)
   obtain⟨sl,e⟩:=I.base.slot L o ho (I.ok.frf L hL) hL fun z=>I.ok.exfs L z hL
   exact⟨hk,⟨L,_,hf,hn,e,hd⟩,ih (fun b hb=>hs b (by unfold frs; rw[VJ,hf]; exact eR _ hb)) hr⟩
 exact all X.outer (fun _ hb=>hb) I.ok.funs
theorem Inv.stack (I:Inv X pins σ H s):s.heap.FunFrames X.base X.stack:=by
 rcases I.ok.stk with e | ⟨e,hf⟩
 ·rw[e]; exact I.funs
 ·rw[e]
  obtain⟨m,hn,_⟩:=I.loc
  refine .cons (by rw[I.ok.kind]; decide) hf hn ?_ I.funs
  exact Heap.get?_none_of_le (jW I.ok.bsz I.ok.above)
theorem Inv.stkSub (I:Inv X pins σ H s) : ∀ b∈frs X.stack,b∈X.env.locals::X.fs:=fun b hb=>by
 rcases I.ok.stk with e | ⟨e,hf⟩
 ·rw[e] at hb; exact eR _ hb
 ·rw[e] at hb
  unfold frs at hb
  rw[VJ,hf] at hb
  exact hb
theorem Inv.stkFree (I:Inv X pins σ H s) : ∀ b∈frs X.stack,H b=none:=fun b hb=>by
 rcases fG.mp (I.stkSub b hb) with e | hb
 ·rw[e]; exact I.free
 ·obtain⟨_,o,ho,_⟩:=I.ok.funs.mem hb
  exact I.base.free b o ho (I.ok.frf b hb) fun z=>I.ok.exfs b z hb
theorem Inv.step {g':Array GenState}{t':Nat}{d':Drawn}{ch:List aD}(I:Inv X pins σ H s)
  (hch : ∀ b∈ch,(b∈X.ex \/ X.s₀.heap.objs.size≤b)/\b≠X.env.locals/\(∀ x c,X.env.cells.lookup x=some c->c≠b) /\ ∀ p∈X.pn++pins,p.1≠b)
  (keep : ∀ b o,b≠X.env.locals->b∉X.fs->b∉ch->s.heap.get? b=some o->H b=none->h'.get? b=some o)
  (slot : ∀ b o,b≠X.env.locals->b∈X.fs->b∉ch->s.heap.get? b=some o->H b=none -> ∃ sl,h'.get? b=some { o with slots:=sl }) (free : ∀ b o,b∉ch->s.heap.get? b=some o->H b=none->H' b=none)
  (there : ∀ b o,b∉ch->s.heap.get? b=some o -> ∃ o',h'.get? b=some o')
  (tups : ∀ b xs,H b=some (.tup xs)->H' b=some (.tup xs)) (frzs : ∀ b o u,H b=some (.frz o u)->H' b=some (.frz o u)) (tbls : ∀ b ps,H b=some (.tbl ps) -> ∃ more,H' b=some (.tbl (ps++more)))
  (ns : ∀ m,s.heap.Ns X.env.locals m->h'.Ns X.env.locals m) (hok:HOk X.prog X.w H' h') (hg:rV g') :
  Inv X pins σ H' { s with heap:=h',gens:=g',drawn:=d',toks:=t' }:=by
 have neL : ∀ b o,X.s₀.heap.get? b=some o->b≠X.env.locals:=fun b o e=>fC (iE (cI e) I.ok.above)
 have neC : ∀ b o,X.s₀.heap.get? b=some o->b∉X.ex->b∉ch:=fun b o e hx hb=>by
  rcases(hch b hb).1 with z | z
  ·exact hx z
  ·exact absurd (iE (cI e) z) (mD _)
 have cellK : ∀ x c,X.env.cells.lookup x=some c -> ∀ v,s.heap.IsCell c v->h'.IsCell c v:=fun x c e v gh=>by
  obtain⟨o,ho,hd⟩:=gh
  have nch:c∉ch:=fun z=>(hch c z).2.2.1 x c e rfl
  by_cases hc:c∈X.fs
  ·obtain⟨sl,q⟩:=slot c o (I.cne x c e) hc nch ho (I.Ad2 x c e)
   exact⟨_,q,hd⟩
  ·exact⟨o,keep c o (I.cne x c e) hc nch ho (I.Ad2 x c e),hd⟩
 refine⟨I.ok,I.os,hg,⟨fun b o e n hb hx=>?_,fun b o e n hb hx=>?_,fun b o e n hx=>?_,fun b o e hx=>?_,fun b xs e=>tups b xs (I.base.tups b xs e),fun b o xs e=>frzs b o xs (I.base.frzs b o xs e),fun b ps e=>?_⟩,?_,fun x c e=>?_,?_,fun x c e=>?_,fun p hp=>?_,hok,I.len⟩
 ·exact keep b o (neL b o e) hb (neC b o e hx) (I.base.keep b o e n hb hx) (I.base.free b o e n hx)
 ·obtain⟨sl,e1⟩:=I.base.slot b o e n hb hx
  obtain⟨sl',e2⟩:=slot b _ (neL b o e) hb (neC b o e hx) e1 (I.base.free b o e n hx)
  exact⟨sl',e2⟩
 ·obtain⟨o',e1⟩:=I.base.there b o e hx
  exact free b o' (neC b o e hx) e1 (I.base.free b o e n hx)
 ·obtain⟨o',e1⟩:=I.base.there b o e hx
  exact there b o' (neC b o e hx) e1
 ·obtain⟨m1,e1⟩:=I.base.tbls b ps e
  obtain⟨m2,e2⟩:=tbls b _ e1
  exact⟨m1++m2,by rw[e2,Array.append_assoc]⟩
 ·obtain⟨m,hn,hl⟩:=I.loc
  refine⟨m,ns m hn,fun i x v e1 e2 e3=>?_⟩
  obtain⟨u,r,l⟩:=hl i x v e1 e2 e3
  refine⟨u,r,?_⟩
  rcases l with l | ⟨k,c,e,z⟩
  ·exact .inl l
  ·exact .inr ⟨k,c,e,cellK x c e _ z⟩
 ·obtain⟨v,z⟩:=I.cell x c e
  exact⟨v,cellK x c e v z⟩
 ·obtain⟨m,⟨o,_,_,ho,_⟩,_⟩:=I.loc
  exact free _ o (fun z=>(hch _ z).2.1 rfl) ho I.free
 ·obtain⟨v,o,ho,hd⟩:=I.cell x c e
  exact free c o (fun z=>(hch c z).2.2.1 x c e rfl) ho (I.Ad2 x c e)
 ·obtain⟨e,n,ne,nf,d⟩:=I.pin p hp
  have nch:p.1∉ch:=fun z=>(hch p.1 z).2.2.2 p hp rfl
  exact⟨keep p.1 p.2 ne nf nch e n,free p.1 p.2 nch e n,ne,nf,d⟩
theorem Inv.un {t':Nat}(I:Inv X pins σ H s)(u:Un X.fs [] H H' s.heap h')(hok:HOk X.prog X.w H' h'):Inv X pins σ H' { s with heap:=h',toks:=t' }:=by
 obtain⟨m,⟨o,es,ep,ho,r⟩,_⟩:=id I.loc
 obtain⟨sl,hL⟩:=u.any ho I.free (by simp)
 exact I.step (g':=s.gens) (d':=s.drawn) (ch:=[]) (fun _ z=>nomatch z) (fun b o _ hb _ e n=>u.keep b o e n hb (by simp)) (fun b o _ hb _ e n=>u.slot b o e n hb (by simp)) (fun b o _ e n=>u.free b o e n (by simp)) (fun b o _ e=>u.there b o e (by simp)) u.tups u.frzs u.tbls (fun m' hm=>by
  obtain⟨o',es',ep',ho',r'⟩:=hm
  rw[ho] at ho'; cases ho'
  exact⟨_,es',ep',hL,r'⟩) hok I.bare
theorem Inv.call {g':Array GenState}{t':Nat}{d':Drawn}{ch:List aD}(I:Inv X pins σ H s)(u:Un (frs X.stack) ch H H' s.heap h')(hok:HOk X.prog X.w H' h')(hg:rV g')
  (hch : ∀ b∈ch,(b∈X.ex \/ X.s₀.heap.objs.size≤b)/\b≠X.env.locals/\(∀ x c,X.env.cells.lookup x=some c->c≠b) /\ ∀ p∈X.pn++pins,p.1≠b) :
  Inv X pins σ H' { s with heap:=h',gens:=g',drawn:=d',toks:=t' }:=by
 obtain⟨m,⟨o,es,ep,ho,r⟩,_⟩:=id I.loc
 obtain⟨sl,hL⟩:=u.any ho I.free fun z=>(hch _ z).2.1 rfl
 exact I.step (ch:=ch) hch (fun b o hL hb hc e n=>u.keep b o e n (fun z=>(fG.mp (I.stkSub b z)).elim hL hb) hc) (fun b o _ _ hc e n=>u.any e n hc) (fun b o hc e n=>u.free b o e n hc) (fun b o hc e=>u.there b o e hc) u.tups u.frzs u.tbls (fun m' hm=>by
  obtain⟨o',es',ep',ho',r'⟩:=hm
  rw[ho] at ho'; cases ho'
  exact⟨_,es',ep',hL,r'⟩) hok hg
theorem Inv.turned {t':Nat}{it:aD}(I:Inv X pins σ H s)(k : ∀ b o,b≠it->s.heap.get? b=some o->h'.get? b=some o)(hn:H it=none)(hL:it≠X.env.locals)
  (h1:it∈X.ex \/ X.s₀.heap.objs.size≤it) (h2 : ∀ x c,X.env.cells.lookup x=some c->c≠it) (h3 : ∀ p∈X.pn++pins,p.1≠it):Inv X pins σ H { s with heap:=h',toks:=t' }:=by
 have nit : ∀ b u,H b=some u->b≠it:=fun b u e z=>by rw[z,hn] at e; cases e
 refine I.step (g':=s.gens) (d':=s.drawn) (ch:=[it]) (fun b hb=>?_) (fun b o _ _ hc e _=>k b o (fun z=>hc (by simp[z])) e) (fun b o _ _ hc e _=>⟨o.slots,k b o (fun z=>hc (by simp[z])) e⟩) (fun _ _ _ _ n=>n)
  (fun b o hc e=>⟨o,k b o (fun z=>hc (by simp[z])) e⟩) (fun _ _ e=>e) (fun _ _ _ e=>e) (fun b ps e=>⟨#[],by rw[e]; simp⟩) (fun m hm=>?_) (fun b u e=>?_) I.bare
 ·have e:b=it:=by simpa using hb
  subst e
  exact⟨h1,hL,h2,h3⟩
 ·obtain⟨o,es,ep,ho,r⟩:=hm
  exact⟨o,es,ep,k _ o (mR hL) ho,r⟩
 ·refine(I.hok b u e).stay (fun c v hc q=>k c v ?_ q) (fun _ q=>q) fun _ _ q=>q
  rcases hc with z | z
  ·rw[z]; exact nit b u e
  ·exact nit c _ z
theorem Inv.tok (I:Inv X pins σ H s)(t:Nat):Inv X pins σ H { s with toks:=t }:=I.un (h':=s.heap) (t':=t) Un.refl I.hok
theorem Inv.kept {t':Nat}(I:Inv X pins σ H s)(k : ∀ b u,s.heap.get? b=some u->h'.get? b=some u):Inv X pins σ H { s with heap:=h',toks:=t' }:=I.un (Un.kept k) (I.hok.kept k)
theorem Inv.laid {a:aD}{o:HO}{t':Nat}(I:Inv X pins σ H s)(k : ∀ b u,s.heap.get? b=some u->h'.get? b=some u)(hp:s.heap.objs.size≤a)(new:Ady X.prog X.w (upd H a o) h' a o) :
  Inv X pins σ (upd H a o) { s with heap:=h',toks:=t' }:=I.un (Un.laid k hp (I.hok.fresh hp)) (I.hok.laid k hp new)
theorem Inv.write {x e:aD}{o:HO}{t':Nat}(I:Inv X pins σ H s)(mu:wU (H x))(he:e=x \/ H e=some (.own x))(k : ∀ b u,b≠e->s.heap.get? b=some u->h'.get? b=some u)(heo : ∃ u,h'.get? e=some u)
  (new:Ady X.prog X.w (upd H x o) h' x o):Inv X pins σ (upd H x o) { s with heap:=h',toks:=t' }:=I.un (Un.write mu he k heo) (I.hok.write mu he k heo new)
theorem Inv.pins_of {pins':List (aD×bP)}(I:Inv X pins σ H s)(h : ∀ p∈pins',s.heap.get? p.1=some p.2/\H p.1=none/\p.1≠X.env.locals/\p.1∉X.fs /\ ∀ v,p.2.data ≠ .cell v):Inv X pins' σ H s:=
 ⟨I.ok,I.os,I.bare,I.base,I.loc,I.cell,I.free,I.Ad2,fun p hp=>(jB.mp hp).elim (fun z=>I.pin p (List.mem_append_left _ z)) (h p),I.hok,I.len⟩
theorem OV {N:List aE}(hN:N.Nodup){i j:Nat}{x:aE}(a:N[i]?=some x)(b:N[j]?=some x):i=j:=by
 obtain⟨h1,e1⟩:=gE.mp a
 obtain⟨h2,e2⟩:=gE.mp b
 exact(List.getElem_inj hN).mp (e1.trans e2.symm)
theorem QO {M:Model}{A:eD}{E:aG->aL->Prop}{i:Nat}{x:aE}{v:V}{u:aG}{Q:Unit->aL->Prop}(I:Inv X pins σ H s)(hN:X.N.Nodup)(hi:X.N[i]?=some x)(hx:jY X.env.scope x)(r:RelV v u)
  (h : ∀ s',Inv X pins (σ.set i (some v)) H s'->(∃ a,tW a s.heap s'.heap/\(a=X.env.locals \/ X.env.cells.lookup x=some a))->Q () s') (hf:X.fn x=true \/ X.env.scope.names.lookup x=some .local:=by first | exact .inl rfl | exact .inr rfl | assumption):aO M A (storeName X.env x u) Q E s:=by
 obtain⟨m,hn,hl⟩:=id I.loc
 have hcls:(X.env.scope.kind == .class||(X.env.scope.kind == .module&&X.env.locals != X.env.globals))=false:=by rw[I.ok.kind]; rfl
 have hiσ:i<σ.length:=by rw[I.len]; exact(gE.mp hi).1
 have cne:=I.cne
 have tracked : ∀ {a:aD} {h':bG},(∃ o,s.heap.get? a=some o/\H a=none)->tW a s.heap h'->HOk X.prog X.w H h':=fun {a h'} ha hs b ob e=>by
  obtain⟨_,_,hfree⟩:=ha
  refine(I.hok b ob e).stay (fun c w' hc q=>(hs.2 c ?_).trans q) (fun _ q=>q) fun _ _ q=>q
  rintro rfl
  rcases hc with rfl | hc
  ·rw[hfree] at e; cases e
  ·rw[hfree] at hc; cases hc
 rcases hx with hk | hk
 ·refine wpAny_storeName_local hk hn (fun h' hn' hs=>?_) hcls
  obtain⟨oL,_,_,hoL,_⟩:=id hn
  refine h _ ⟨I.ok,I.os,I.bare,⟨fun b o e n hb hx=>?_,fun b o e n hb hx=>?_,I.base.free,fun b o e hx=>?_,I.base.tups,I.base.frzs,I.base.tbls⟩,⟨_,hn',fun j y v' e1 e2 e3=>?_⟩,fun y c e=>?_,I.free,I.Ad2,fun p hp=>?_,tracked ⟨oL,hoL,I.free⟩ hs,by simpa using I.len⟩ ⟨_,hs,.inl rfl⟩
  ·exact(hs.2 b (fC (iE (cI e) I.ok.above))).trans (I.base.keep b o e n hb hx)
  ·obtain⟨sl,e1⟩:=I.base.slot b o e n hb hx
   exact⟨sl,(hs.2 b (fC (iE (cI e) I.ok.above))).trans e1⟩
  ·obtain⟨o',e1⟩:=I.base.there b o e hx
   exact⟨o',(hs.2 b (fC (iE (cI e) I.ok.above))).trans e1⟩
  ·by_cases hj:j=i
   ·subst hj
    rw[hi] at e1; cases e1
    rw[rR hiσ] at e2
    cases e2
    exact⟨u,r,.inl ⟨hk,by simp⟩⟩
   ·rw[nY (mR hj)] at e2
    obtain⟨u',r',q⟩:=hl j y v' e1 e2 e3
    refine⟨u',r',?_⟩
    rcases q with⟨k,e⟩ | ⟨k,c,e,z⟩
    ·refine .inl ⟨k,?_⟩
     have:y≠x:=fun e=>hj (OV hN e1 (e ▸ hi))
     simp[this,e]
    ·exact .inr ⟨k,c,e,z.sameBut hs (cne y c e)⟩
  ·obtain⟨w',z⟩:=I.cell y c e
   exact⟨w',z.sameBut hs (cne y c e)⟩
  ·obtain⟨e,n,ne,nf,d⟩:=I.pin p hp
   exact⟨(hs.2 p.1 ne).trans e,n,ne,nf,d⟩
 ·have hfn:X.fn x=true:=by
   rcases hf with z | z
   ·exact z
   ·rw[z] at hk; cases hk
  obtain⟨c,hc⟩:=I.ok.has x (.inl hk)
  obtain⟨w',z⟩:=I.cell x c hc
  refine wpAny_storeName_cell I.ok.kind hk hc z (fun h' hc' hs=>?_)
  obtain⟨oc,hoc,hocd⟩:=id z
  refine h { s with heap:=h' } ⟨I.ok,I.os,I.bare,⟨fun b o e n hb hx=>?_,fun b o e n hb hx=>?_,I.base.free,fun b o e hx=>?_,I.base.tups,I.base.frzs,I.base.tbls⟩,⟨m,hn.sameBut hs (mR (cne x c hc)),fun j y v' e1 e2 e3=>?_⟩,fun y c' e=>?_,I.free,I.Ad2,fun p hp=>?_,tracked ⟨oc,hoc,I.Ad2 x c hc⟩ hs,by simpa using I.len⟩ ⟨c,hs,.inr hc⟩
  ·exact(hs.2 b (fC (iE (cI e) (I.ok.cab x c hfn hc)))).trans (I.base.keep b o e n hb hx)
  ·obtain⟨sl,e1⟩:=I.base.slot b o e n hb hx
   exact⟨sl,(hs.2 b (fC (iE (cI e) (I.ok.cab x c hfn hc)))).trans e1⟩
  ·obtain⟨o',e1⟩:=I.base.there b o e hx
   exact⟨o',(hs.2 b (fC (iE (cI e) (I.ok.cab x c hfn hc)))).trans e1⟩
  ·by_cases hj:j=i
   ·subst hj
    rw[hi] at e1; cases e1
    rw[rR hiσ] at e2
    cases e2
    exact⟨u,r,.inr ⟨.inl hk,c,hc,hc'⟩⟩
   ·rw[nY (mR hj)] at e2
    obtain⟨u',r',q⟩:=hl j y v' e1 e2 e3
    refine⟨u',r',?_⟩
    rcases q with q | ⟨k,c',e,z'⟩
    ·exact .inl q
    ·refine .inr ⟨k,c',e,z'.sameBut hs ?_⟩
     rintro rfl
     exact hj (OV hN e1 (I.ok.inj _ _ _ e hc ▸ hi))
  ·by_cases hcc:c'=c
   ·subst hcc; exact⟨_,hc'⟩
   ·obtain⟨w2,z2⟩:=I.cell y c' e
    exact⟨w2,z2.sameBut hs hcc⟩
  ·obtain⟨e,n,ne,nf,d⟩:=I.pin p hp
   refine⟨(hs.2 p.1 ?_).trans e,n,ne,nf,d⟩
   intro q
   rw[q,hoc] at e
   have q':oc=p.2:=gW e
   exact d w' (by rw[← q']; exact hocd)
theorem OX {M:Model}{A:eD}{E:aG->aL->Prop}{i:Nat}{x:aE}{v:V}{u:aG}{Q:Unit->aL->Prop}(I:Inv X pins σ H s)(hN:X.N.Nodup)(hi:X.N[i]?=some x)(hx:jY X.env.scope x)(r:RelV v u)
  (h : ∀ s',Inv X pins (σ.set i (some v)) H s'->Q () s') (hf:X.fn x=true \/ X.env.scope.names.lookup x=some .local:=by first | exact .inl rfl | exact .inr rfl | assumption):aO M A (storeName X.env x u) Q E s:=
 QO I hN hi hx r (fun s' I' _=>h s' I') hf
theorem Inv.call' {s':aL}{ch:List aD}(I:Inv X pins σ H s)(ho:s'.os=s.os)(u:Un (frs X.stack) ch H H' s.heap s'.heap)(hok:HOk X.prog X.w H' s'.heap)(hg:rV s'.gens)
  (hch : ∀ b∈ch,(b∈X.ex \/ X.s₀.heap.objs.size≤b)/\b≠X.env.locals/\(∀ x c,X.env.cells.lookup x=some c->c≠b) /\ ∀ p∈X.pn++pins,p.1≠b):Inv X pins σ H' s':=by
 obtain⟨h',g',d',t',o'⟩:=s'
 have e:o'=s.os:=ho
 subst e
 exact I.call (g':=g') (t':=t') (d':=d') u hok hg hch
end
abbrev XK:=aG->Option aD->Hp->Prop
abbrev St:=List (Option V)
abbrev VK:=V->Hp->Prop
abbrev TE:=St->Hp->VK->Prop
abbrev TT:=St->Hp->(Bool->Hp->Prop)->Prop
abbrev TA:=St->Hp->(List V->Hp->Prop)->Prop
structure Ends where
 nx:St->Hp->Prop
 rt:VK
 bk:St->Hp->Prop:=fun _ _=>False
 ct:St->Hp->Prop:=fun _ _=>False
abbrev TS:=Ends->St->Hp->Prop
def EP (X:Cx)(pins:List (aD×bP))(σ:St)(Q:VK)(u:aG)(s':aL):Prop:=∃ v H',Inv X pins σ H' s'/\RelV v u/\Q v H'
def TP (X:Cx)(pins:List (aD×bP))(σ:St)(Q:Bool->Hp->Prop)(b:Bool)(s':aL):Prop:=∃ H',Inv X pins σ H' s'/\Q b H'
def AP (X:Cx)(pins:List (aD×bP))(σ:St)(Q:List V->Hp->Prop)(us:List aG)(s':aL):Prop:=∃ vs H',Inv X pins σ H' s'/\Vals vs us/\Q vs H'
def SP (X:Cx)(pins:List (aD×bP))(D:Ends)(f:Flow)(s':aL):Prop:=
 match f with
 | .next=>∃ σ' H',Inv X pins σ' H' s'/\D.nx σ' H'
 | .brk=>∃ σ' H',Inv X pins σ' H' s'/\D.bk σ' H'
 | .cont=>∃ σ' H',Inv X pins σ' H' s'/\D.ct σ' H'
 | .ret u=>∃ v σ' H',Inv X pins σ' H' s'/\RelV v u/\D.rt v H'
def PE (X:Cx)(e:bA)(t:TE):Prop:=
 ∀ (pins:List (aD×bP)) (s:aL) (σ:St) (H:Hp) (Q:VK),Inv X pins σ H s->t σ H Q->aO (bC X.prog X.w) X.A (bX e X.env) (EP X pins σ Q) X.xe s
def PT (X:Cx)(e:bA)(t:TT):Prop:=
 ∀ (pins:List (aD×bP)) (s:aL) (σ:St) (H:Hp) (Q:Bool->Hp->Prop),Inv X pins σ H s->t σ H Q->aO (bC X.prog X.w) X.A (isTrue e X.env (bX e X.env)) (TP X pins σ Q) X.xe s
def PW (X:Cx)(e:bA)(t:TT):Prop:=
 ∀ (whole:Sem aG) (pins:List (aD×bP)) (s:aL) (σ:St) (H:Hp) (Q:Bool->Hp->Prop),Inv X pins σ H s->t σ H Q->aO (bC X.prog X.w) X.A (isTrue e X.env whole) (TP X pins σ Q) X.xe s
theorem PW.pt {X:Cx}{e:bA}{t:TT}(h:PW X e t):PT X e t:=h _
def PA (X:Cx)(es:List bA)(t:TA):Prop:=
 ∀ (pos:cD) (pins:List (aD×bP)) (s:aL) (σ:St) (H:Hp) (Q:List V->Hp->Prop),Inv X pins σ H s->t σ H Q->aO (bC X.prog X.w) X.A (spliced (fY pos (bL es X.env))) (AP X pins σ Q) X.xe s
def PS (X:Cx)(st:cG)(t:TS):Prop:=
 ∀ (pins:List (aD×bP)) (s:aL) (σ:St) (H:Hp) (D:Ends),Inv X pins σ H s->t D σ H->aO (bC X.prog X.w) X.A (exec st X.env) (SP X pins D) X.xe s
def PSs (X:Cx)(st:List cG)(t:TS):Prop:=
 ∀ (pins:List (aD×bP)) (s:aL) (σ:St) (H:Hp) (D:Ends),Inv X pins σ H s->t D σ H->aO (bC X.prog X.w) X.A (execs st X.env) (SP X pins D) X.xe s
theorem thn {α:Type}{t:Sem α}{Q Q':α->aL->Prop}{M:Model}{A:eD}{E:aG->aL->Prop}{s:aL}(h:aO M A t Q E s)(hQ : ∀ a s,Q a s->Q' a s):aO M A t Q' E s:=mC h hQ fun _ _ x=>x
section
variable {X:Cx}
noncomputable abbrev LP (i:Nat):TE:=fun σ H Q=>∃ v,σ[i]?=some (some v)/\Q v H
noncomputable abbrev tC (v:V):TE:=fun _ H Q=>Q v H
theorem nG {i:Nat}{x:aE}{pos:cD}(hN:X.N[i]?=some x)(hv:lH X.env.scope x)(hd:(x == ("__debug__" : aE))=false:=by decide)(hcd:(x == ("__classdict__" : aE))=false:=by decide):PE X (.Name x pos) (LP i):=by
 intro pins s σ H Q I h
 obtain⟨v,e,h⟩:=h
 obtain⟨m,hn,hl⟩:=I.loc
 obtain⟨u,r,l⟩:=hl i x v hN e hv
 have fin:EP X pins σ Q u s:=⟨v,H,I,r,h⟩
 rcases l with⟨hk,hm⟩ | ⟨hk,c,hc,hcell⟩
 ·exact wpAny_Name (wpAny_loadName_local I.ok.kind hk hn hm fin) hd
 ·rcases hk with hk | hk
  ·exact wpAny_Name (wpAny_loadName_cell I.ok.kind hk hc hcell fin) hd
  ·exact wpAny_Name (wpAny_loadName_free I.ok.kind hk hc hcell fin hcd) hd
theorem FH {i j pos}:PE X (.Constant (.int i) j pos) (tC (.int i)):=fun _ _ _ H _ I h=>wpAny_Constant_int ⟨.int i,H,I.tok _,⟨_,rfl⟩,h⟩
theorem LS {b j pos}:PE X (.Constant (.bool b) j pos) (tC (.bl b)):=fun _ _ _ H _ I h=>Constant_bool ⟨.bl b,H,I,rfl,h⟩
theorem UB {j pos}:PE X (.Constant .none j pos) (tC .non):=fun _ _ _ H _ I h=>Constant_none ⟨.non,H,I,rfl,h⟩
theorem Bz {x j pos}:PE X (.Constant (.str x) j pos) (tC (.str x)):=fun _ _ _ H _ I h=>Calls.Constant_str ⟨.str x,H,I.tok _,⟨_,rfl⟩,h⟩
def Gl (X:Cx)(x:aE):Prop:=X.env.kindOf x=some .globalImplicit
theorem UH {E:aG->aL->Prop}{pins:List (aD×bP)}{s:aL}{σ:St}{H:Hp}{x:aE}{u:aG}{pos:cD}{Q:aG->aL->Prop}(I:Inv X pins σ H s)(hg:Gl X x)(hm:X.mg x=some u)(h:Q u s)
  (hd:(x == ("__debug__" : aE))=false:=by decide):aO (bC X.prog X.w) X.A (bX (.Name x pos) X.env) Q E s:=
 Calls.Name_function_global I.ok.kind hg (Calls.loadGlobal_global (by rw[I.ok.glob]; exact I.mod.glob.keeps I.bk) hm h) hd
theorem qJ {E:aG->aL->Prop}{pins:List (aD×bP)}{s:aL}{σ:St}{H:Hp}{x:aE}{u:aG}{pos:cD}{Q:aG->aL->Prop}(I:Inv X pins σ H s)(hg:Gl X x)(hm:X.mg x=none)(hv:mQ x=some u)(h:Q u s)
  (hn:x ≠ "__name__":=by decide) (hd:(x == ("__debug__" : aE))=false:=by decide):aO (bC X.prog X.w) X.A (bX (.Name x pos) X.env) Q E s:=by
 obtain⟨mb,h1,h2⟩:=I.mod.blt
 exact Calls.Name_function_global I.ok.kind hg (Calls.loadGlobal_builtin (by rw[I.ok.glob]; exact I.mod.glob.keeps I.bk) hm (by rw[I.ok.blt]; exact h1.keeps I.bk) ((h2 x hn).trans hv) h) hd
theorem FN {x:aE}{v:V}{u:aG}{pos:cD}(hg:Gl X x)(hm:X.mg x=some u)(r:RelV v u)(hd:(x == ("__debug__" : aE))=false:=by decide):PE X (.Name x pos) (tC v):=
 fun _ _ _ H _ I h=>UH I hg hm ⟨v,H,I,r,h⟩ hd
theorem Mz {x:aE}{v:V}{u:aG}{pos:cD}(hg:Gl X x)(hm:X.mg x=none)(hv:mQ x=some u)(r:RelV v u)(hn:x ≠ "__name__":=by decide)(hd:(x == ("__debug__" : aE))=false:=by decide):PE X (.Name x pos) (tC v):=
 fun _ _ _ H _ I h=>qJ I hg hm hv ⟨v,H,I,r,h⟩ hn hd
variable {a b:bA}{ta tb:TE}{pos:cD}
noncomputable def tB (t:TE):TT:=fun σ H Q=>t σ H fun x H1=>∃ c,x = .bl c/\Q c H1
theorem ZA {e:bA}{t:TE}(h:PE X e t)(he : ∀ whole,isTrue e X.env whole=(do let v ← whole; standAt e.pos; holding [v] (truthy v)):=by intro _; rfl):PT X e (tB t):=by
 intro pins s σ H Q I hw
 refine isTrue_plain (thn (h pins s σ H _ I hw) fun v s1 ⟨x,H1,I1,r1,q1⟩=>?_) (he _)
 obtain⟨d,rfl,q⟩:=q1
 cases r1
 exact rH ⟨H1,I1,q⟩
variable {tA tB':TT}{rest:List bA}
noncomputable def WA (t u:TT):TT:=fun σ H Q=>t σ H fun c H1=>if c=true then u σ H1 Q else Q false H1
noncomputable def tOr (t u:TT):TT:=fun σ H Q=>t σ H fun c H1=>if c=true then Q true H1 else u σ H1 Q
noncomputable def VY (t:TT):TT:=fun σ H Q=>t σ H fun c H1=>Q (!c) H1
theorem Mk (ha:PT X a tA):PW X (.BoolOp .And [a] pos) tA:=by
 intro wh pins s σ H Q I h
 refine isTrue_and (thn (ha pins s σ H Q I h) fun c s1 e=>?_)
 cases c with
 | true=>exact isTrue_and_nil e
 | false=>exact e
theorem Bc (ha:PT X a tA):PW X (.BoolOp .Or [a] pos) tA:=by
 intro wh pins s σ H Q I h
 refine isTrue_or (thn (ha pins s σ H Q I h) fun c s1 e=>?_)
 cases c with
 | false=>exact isTrue_or_nil e
 | true=>exact e
theorem Al (ha:PT X a tA)(hb:PW X (.BoolOp .And (b::rest) pos) tB'):PW X (.BoolOp .And (a::b::rest) pos) (WA tA tB'):=by
 intro wh pins s σ H Q I h
 refine isTrue_and (thn (ha pins s σ H _ I h) fun c s1 gh=>?_)
 obtain⟨H1,I1,q1⟩:=gh
 cases c with
 | true=>exact hb wh pins s1 σ H1 Q I1 q1
 | false=>exact⟨H1,I1,q1⟩
theorem YU (ha:PT X a tA)(hb:PW X (.BoolOp .Or (b::rest) pos) tB'):PW X (.BoolOp .Or (a::b::rest) pos) (tOr tA tB'):=by
 intro wh pins s σ H Q I h
 refine isTrue_or (thn (ha pins s σ H _ I h) fun c s1 gh=>?_)
 obtain⟨H1,I1,q1⟩:=gh
 cases c with
 | true=>exact⟨H1,I1,q1⟩
 | false=>exact hb wh pins s1 σ H1 Q I1 q1
theorem Bh (ha:PT X a tA):PT X (.UnaryOp .Not a pos) (VY tA):=by
 intro pins s σ H Q I h
 exact isTrue_not (ha pins s σ H (fun c H1=>Q (!c) H1) I h)
noncomputable def YK (ta tb:TE):TE:=fun σ H Q=>ta σ H fun x H1=>∃ c,x = .bl c/\if c=true then tb σ H1 Q else Q (.bl false) H1
noncomputable def WJ (ta tb:TE):TE:=fun σ H Q=>ta σ H fun x H1=>∃ c,x = .bl c/\if c=true then Q (.bl true) H1 else tb σ H1 Q
noncomputable def YI (ta:TE):TE:=fun σ H Q=>ta σ H fun x H1=>∃ c,x = .bl c/\Q (.bl (!c)) H1
theorem Cu {op}{t:TE}(h:PE X a t):PE X (.BoolOp op [a] pos) t:=fun pins s σ H Q I hw=>BoolOp_one (h pins s σ H Q I hw)
theorem ZR (ha:PE X a ta)(hb:PE X (.BoolOp .And (b::rest) pos) tb):PE X (.BoolOp .And (a::b::rest) pos) (YK ta tb):=by
 intro pins s σ H Q I h
 refine BoolOp_and (thn (ha pins s σ H _ I h) fun v s1 gh=>?_)
 obtain⟨x,H1,I1,r1,q1⟩:=gh
 obtain⟨c,rfl,q1⟩:=q1
 cases r1
 refine rH ?_
 cases c with
 | true=>exact hb pins s1 σ H1 Q I1 q1
 | false=>exact⟨.bl false,H1,I1,rfl,q1⟩
theorem YS (ha:PE X a ta)(hb:PE X (.BoolOp .Or (b::rest) pos) tb):PE X (.BoolOp .Or (a::b::rest) pos) (WJ ta tb):=by
 intro pins s σ H Q I h
 refine BoolOp_or (thn (ha pins s σ H _ I h) fun v s1 gh=>?_)
 obtain⟨x,H1,I1,r1,q1⟩:=gh
 obtain⟨c,rfl,q1⟩:=q1
 cases r1
 refine rH ?_
 cases c with
 | false=>exact hb pins s1 σ H1 Q I1 q1
 | true=>exact⟨.bl true,H1,I1,rfl,q1⟩
theorem ZL (ha:PE X a ta):PE X (.UnaryOp .Not a pos) (YI ta):=by
 intro pins s σ H Q I h
 refine UnaryOp_ (thn (ha pins s σ H _ I h) fun v s1 gh=>?_)
 obtain⟨x,H1,I1,r1,q1⟩:=gh
 obtain⟨c,rfl,q1⟩:=q1
 cases r1
 exact not_of (rH ⟨.bl (!c),H1,I1,rfl,q1⟩)
noncomputable def tIf (t:TT)(ta tb:TE):TE:=fun σ H Q=>t σ H fun c H1=>if c=true then ta σ H1 Q else tb σ H1 Q
theorem Pn {c:bA}(hc:PT X c tA)(ha:PE X a ta)(hb:PE X b tb):PE X (.IfExp c a b pos) (tIf tA ta tb):=by
 intro pins s σ H Q I h
 refine wpAny_IfExp (thn (hc pins s σ H _ I h) fun d s1 gh=>?_)
 obtain⟨H1,I1,q1⟩:=gh
 cases d with
 | true=>exact ha pins s1 σ H1 Q I1 q1
 | false=>exact hb pins s1 σ H1 Q I1 q1
end
def SqL (K:aP)(H:Hp)(a:aD)(xs:List V):Prop:=
 Rd H a (.lst xs) \/
  ∃ (o:bP) (its:Array aG) (n:Nat),K.lookup a=some o/\o.cls = .type "list" /\ o.dict=none/\o.data = .seq its n/\its.size≤sizeLine/\Vals xs its.toList
def SqT (K:aP)(H:Hp)(a:aD)(xs:List V):Prop:=
 Rd H a (.tup xs) \/
  ∃ (o:bP) (its:Array aG) (n:Nat),K.lookup a=some o/\o.cls = .type "tuple" /\ o.data = .seq its n/\its.size≤sizeLine/\Vals xs its.toList
noncomputable def VZ:aG->Option V
 | .none=>some .non
 | .bool b=>some (.bl b)
 | .int i _=>some (.int i)
 | .str x _=>some (.str x)
 | .bytes b _=>some (.byt b)
 | .float b _=>some (.flt b)
 | .ref a=>some (.ref a)
 | .type n=>some (.ty n)
 | _=>none
theorem RelV.abs {x:V}{u:aG}(r:RelV x u):VZ u=some x:=by
 cases x with
 | non=>cases r; rfl
 | bl _=>cases r; rfl
 | int _=>obtain⟨t,rfl⟩:=r; rfl
 | str _=>obtain⟨t,rfl⟩:=r; rfl
 | byt _=>obtain⟨t,rfl⟩:=r; rfl
 | flt _=>obtain⟨t,rfl⟩:=r; rfl
 | ref _=>cases r; rfl
 | ty _=>cases r; rfl
theorem RelV.inj {x y:V}{u:aG}(r:RelV x u)(q:RelV y u):x=y:=gW (r.abs.symm.trans q.abs)
theorem Vals.inj : ∀ {xs ys:List V} {us:List aG},Vals xs us->Vals ys us->xs=ys:=by
 intro xs ys us h
 induction h generalizing ys with
 | nil=>intro h; cases h; rfl
 | cons r _ ih=>
  intro h
  cases h with
  | cons r' t'=>rw[r.inj r',ih t']
section
variable {X:Cx}{pins:List (aD×bP)}{σ:St}{H:Hp}{s:aL}{a:aD}{xs ys:List V}
theorem SqL.of {K:aP}(h:H a=some (.lst xs)):SqL K H a xs:=.inl (.inl h)
theorem SqT.of {K:aP}(h:H a=some (.tup xs)):SqT K H a xs:=.inl (.inl h)
theorem Inv.list (I:Inv X pins σ H s)(h:SqL X.K H a xs) : ∃ its:List aG,Vals xs its/\PlainL s.heap a its.toArray/\xs.length≤sizeLine:=by
 rcases h with h | ⟨o,its,n,hk,hc,hd,hs,hz,r⟩
 ·obtain⟨z,its,n,r,e⟩:=h.ok I.hok
  exact⟨its,r,⟨_,n,e,rfl,rfl,rfl⟩,z⟩
 ·refine⟨its.toList,r,⟨o,n,I.kIn a o hk,hc,hd,by simpa using hs⟩,?_⟩
  have e:=r.length
  simp only[LF] at e
  omega
theorem Inv.tuple (I:Inv X pins σ H s)(h:SqT X.K H a xs) : ∃ its:List aG,Vals xs its/\IsTup s.heap a its.toArray/\xs.length≤sizeLine:=by
 rcases h with h | ⟨o,its,n,hk,hc,hs,hz,r⟩
 ·obtain⟨z,its,r,p⟩:=h.ok I.hok
  exact⟨its,r,p.1,z⟩
 ·refine⟨its.toList,r,⟨o,I.kIn a o hk,hc,n,by simpa using hs⟩,?_⟩
  have e:=r.length
  simp only[LF] at e
  omega
theorem Inv.list_inj (I:Inv X pins σ H s)(h:SqL X.K H a xs)(h':SqL X.K H a ys):xs=ys:=by
 obtain⟨its,r,⟨o,n,e,_,_,d⟩,_⟩:=I.list h
 obtain⟨its',r',⟨o',n',e',_,_,d'⟩,_⟩:=I.list h'
 rw[e] at e'; cases e'
 rw[d] at d'
 injection d' with d1 _
 have:its=its':=by simpa using congrArg Array.toList d1
 subst this
 exact r.inj r'
theorem Inv.tuple_inj (I:Inv X pins σ H s)(h:SqT X.K H a xs)(h':SqT X.K H a ys):xs=ys:=by
 obtain⟨its,r,⟨o,e,_,n,d⟩,_⟩:=I.tuple h
 obtain⟨its',r',⟨o',e',_,n',d'⟩,_⟩:=I.tuple h'
 rw[e] at e'; cases e'
 rw[d] at d'
 injection d' with d1 _
 have:its=its':=by simpa using congrArg Array.toList d1
 subst this
 exact r.inj r'
end
noncomputable abbrev Cx.wish (X:Cx)(E:aG->aL->Prop):Cx:={ X with xe:=E }
noncomputable abbrev Cx.nox (X:Cx):Cx:=X.wish fun _ _=>False
theorem Cx.Ok.wish {X:Cx}(ok:X.Ok)(E:aG->aL->Prop):(X.wish E).Ok:=
 ⟨ok.mod,ok.kind,ok.glob,ok.blt,ok.above,ok.inj,ok.has,ok.cab,ok.hd,ok.frames,ok.stk,ok.exf,ok.bs,ok.bsz,ok.noex,ok.exfs,ok.funs,ok.frf⟩
theorem Cx.Ok.unwish {X:Cx}{E:aG->aL->Prop}(ok:(X.wish E).Ok):X.Ok:=
 ⟨ok.mod,ok.kind,ok.glob,ok.blt,ok.above,ok.inj,ok.has,ok.cab,ok.hd,ok.frames,ok.stk,ok.exf,ok.bs,ok.bsz,ok.noex,ok.exfs,ok.funs,ok.frf⟩
section
variable {X:Cx}{pins:List (aD×bP)}{σ:St}{H:Hp}{s:aL}{E:aG->aL->Prop}
theorem Inv.wish (I:Inv X pins σ H s)(E:aG->aL->Prop):Inv (X.wish E) pins σ H s:=⟨I.ok.wish E,I.os,I.bare,I.base,I.loc,I.cell,I.free,I.Ad2,I.pin,I.hok,I.len⟩
theorem Inv.unwish (I:Inv (X.wish E) pins σ H s):Inv X pins σ H s:=⟨I.ok.unwish,I.os,I.bare,I.base,I.loc,I.cell,I.free,I.Ad2,I.pin,I.hok,I.len⟩
theorem SP.unwish {D:Ends}{f:Flow}{s':aL}(h:SP (X.wish E) pins D f s'):SP X pins D f s':=by
 cases f with
 | next=>obtain⟨σ',H',I,q⟩:=h; exact⟨σ',H',I.unwish,q⟩
 | brk=>obtain⟨σ',H',I,q⟩:=h; exact⟨σ',H',I.unwish,q⟩
 | cont=>obtain⟨σ',H',I,q⟩:=h; exact⟨σ',H',I.unwish,q⟩
 | ret u=>obtain⟨v,σ',H',I,r,q⟩:=h; exact⟨v,σ',H',I.unwish,r,q⟩
theorem PSs.nox {st:List cG}{t:TS}(h:PSs X.nox st t):PSs X st t:=fun pins s σ H D I hw=>
 mC (h pins s σ H D (I.wish _) hw) (fun _ _ q=>q.unwish) fun _ _ z=>qC z
end
section
variable {X:Cx}{st:cG}{rest:List cG}{t u:TS}{e:bA}{te:TE}{pos:cD}
noncomputable def YT:TS:=fun D σ H=>D.nx σ H
noncomputable def WL (t u:TS):TS:=fun D σ H=>t { D with nx:=u D } σ H
theorem Cm:PSs X [] YT:=fun _ _ σ H _ I h=>JD ⟨σ,H,I,h⟩
theorem GB (h1:PS X st t)(h2:PSs X rest u):PSs X (st::rest) (WL t u):=by
 intro pins s σ H D I h
 refine wpAny_execs_cons (thn (h1 pins s σ H { D with nx:=u D } I h) fun f s1 q=>?_)
 cases f with
 | next=>
  obtain⟨σ',H',I',q⟩:=q
  exact h2 pins s1 σ' H' D I' q
 | ret v=>exact q
 | brk=>exact q
 | cont=>exact q
theorem FX (h1:PS X st t):PSs X [st] t:=by
 intro pins s σ H D I h
 refine wpAny_execs_cons (thn (h1 pins s σ H D I h) fun f s1 q=>?_)
 cases f with
 | next=>exact JD q
 | ret v=>exact q
 | brk=>exact q
 | cont=>exact q
theorem Inv.quiet {pins:List (aD×bP)}{σ:St}{H:Hp}{s:aL}(I:Inv X pins σ H s):interactive X.env=false:=by simp[interactive,I.ok.kind]
noncomputable def WR (te:TE):TS:=fun D σ H=>te σ H fun _ H1=>D.nx σ H1
theorem uU (he:PE X e te)(hs:nR e none pos.line X.env=pure false:=by rfl):PS X (.Expr e pos) (WR te):=by
 intro pins s σ H D I h
 exact wpAny_Expr_any (thn (he pins s σ H _ I h) fun v s1 ⟨x,H1,I1,r1,q1⟩=>⟨σ,H1,I1,q1⟩) I.quiet hs
noncomputable def XI (te:TE):TS:=fun D σ H=>te σ H D.rt
theorem xJ (he:PE X e te):PS X (.Return (some e) pos) (XI te):=by
 intro pins s σ H D I h
 exact wpAny_Return_some (thn (he pins s σ H _ I h) fun v s1 ⟨x,H1,I1,r1,q1⟩=>⟨x,σ,H1,I1,r1,q1⟩)
noncomputable def WE (c:TT)(t u:TS):TS:=fun D σ H=>c σ H fun b H1=>if b=true then t D σ H1 else u D σ H1
theorem XD {c:bA}{a b:List cG}{tc:TT}(hc:PT X c tc)(ha:PSs X a t)(hb:PSs X b u):PS X (.If c a b pos) (WE tc t u):=by
 intro pins s σ H D I h
 refine wpAny_If (thn (hc pins s σ H _ I h) fun d s1 gh=>?_)
 obtain⟨H1,I1,q1⟩:=gh
 cases d with
 | true=>exact ha pins s1 σ H1 D I1 q1
 | false=>exact hb pins s1 σ H1 D I1 q1
end
abbrev TG:=V->St->Hp->(St->Hp->Prop)->Prop
abbrev TGs:=List V->St->Hp->(St->Hp->Prop)->Prop
def PG (X:Cx)(target:bA)(t:TG):Prop:=
 ∀ (pins:List (aD×bP)) (s:aL) (σ:St) (H:Hp) (v:V) (u:aG) (Q:St->Hp->Prop),Inv X pins σ H s->RelV v u->t v σ H Q ->
  aO (bC X.prog X.w) X.A (kL target X.env u) (fun _ s'=>∃ σ' H',Inv X pins σ' H' s'/\Q σ' H') X.xe s
def PGs (X:Cx)(ts:List bA)(t:TGs):Prop:=
 ∀ (pins:List (aD×bP)) (s:aL) (σ:St) (H:Hp) (vs:List V) (us:List aG) (Q:St->Hp->Prop),Inv X pins σ H s->Vals vs us->t vs σ H Q ->
  aO (bC X.prog X.w) X.A (assignInOrder ((gL ts X.env).map (·.2)) us) (fun _ s'=>∃ σ' H',Inv X pins σ' H' s'/\Q σ' H') X.xe s
section
variable {X:Cx}{pos:cD}
noncomputable def CQ (i:Nat):TG:=fun v σ H Q=>Q (σ.set i (some v)) H
theorem pE {i:Nat}{x:aE}(hN:X.N.Nodup)(hi:X.N[i]?=some x)(hx:jY X.env.scope x)(hf:X.fn x=true \/ X.env.scope.names.lookup x=some .local:=by first | exact .inl rfl | exact .inr rfl | assumption):PG X (.Name x pos) (CQ i):=by
 intro pins s σ H v u Q I r h
 exact wpAny_assign_Name (OX I hN hi hx r (fun s' I'=>⟨_,H,I',h⟩) hf)
noncomputable def VX:TGs:=fun vs σ H Q=>vs=[]/\Q σ H
noncomputable def YJ (t:TG)(u:TGs):TGs:=fun vs σ H Q=>∃ v r,vs=v::r/\t v σ H fun σ' H'=>u r σ' H' Q
theorem FP:PGs X [] VX:=by
 intro pins s σ H vs us Q I r h
 obtain⟨e,h⟩:=h
 subst e
 cases r
 exact assignInOrder_nil ⟨σ,H,I,h⟩
theorem vC {e:bA}{es:List bA}{t:TG}{u:TGs}(h1:PG X e t)(h2:PGs X es u)
  (hs:(gL (e::es) X.env).map (·.2)=kL e X.env::(gL es X.env).map (·.2):=by rfl):PGs X (e::es) (YJ t u):=by
 intro pins s σ H vs us Q I r h
 obtain⟨v,vr,e1,h⟩:=h
 subst e1
 cases r with
 | cons r rr=>
  rw[hs]
  refine assignInOrder_cons (thn (h1 pins s σ H _ _ _ I r h) fun _ s1 gh=>?_)
  obtain⟨σ1,H1,I1,q1⟩:=gh
  exact h2 pins s1 σ1 H1 _ _ Q I1 rr q1
noncomputable def XO (K:aP)(n:Nat)(t:TGs):TG:=fun v σ H Q=>∃ a xs,v = .ref a/\SqT K H a xs/\xs.length=n/\t xs σ H Q
theorem SW {es:List bA}{k:Nat}{t:TGs}{n:Nat}(hc:X.calm=true)(h:PGs X es t)
  (hn:(gL es X.env).length=n:=by rfl) (hst:(gL es X.env).findIdx? (·.1)=none:=by rfl):PG X (.Tuple es k pos) (XO X.K n t):=by
 intro pins s σ H v u Q I r hw
 obtain⟨a,xs,e1,hq,hl,hw⟩:=hw
 subst e1
 cases r
 obtain⟨its,rv,ht,hz⟩:=I.tuple hq
 refine assign_Tuple_tuple (I.ok.hd hc) ht (by simp[hn,← hl,rv.length]) hst fun h' hx=>?_
 have I1:Inv X pins σ H { s with heap:=h' }:=I.kept (t':=s.toks) fun b o e=>hx b o (fC (cI e)) e
 exact h pins _ σ H xs _ Q I1 (by simpa using rv) hw
noncomputable def EL (te:TE)(g:TG):TS:=fun D σ H=>te σ H fun x H1=>g x σ H1 D.nx
theorem Bv {tg e:bA}{te:TE}{g:TG}(he:PE X e te)(hg:PG X tg g)(hs:swapsWithSole [tg] e pos.line X.env=pure false:=by rfl)(hw:swappedStores [tg] e X.env=pure none:=by rfl)
  (h1:(gL [tg] X.env).map (·.2)=[kL tg X.env]:=by rfl):PS X (.Assign [tg] e pos) (EL te g):=by
 intro pins s σ H D I h
 refine wpAny_Assign_stores (thn (he pins s σ H _ I h) fun v s1 ⟨x,H1,I1,r1,q1⟩=>?_) hs hw
 rw[h1]
 exact thn (hg pins s1 σ H1 x v _ I1 r1 q1) fun _ s2 q=>q
theorem SN {i:Nat}{x:aE}{e:bA}{te:TE}{pos':cD}(hN:X.N.Nodup)(hi:X.N[i]?=some x)(hx:jY X.env.scope x)(he:PE X e te)(hs:nR e (some (.Name x pos')) pos.line X.env=pure false:=by rfl)(hf:X.fn x=true \/ X.env.scope.names.lookup x=some .local:=by first | exact .inl rfl | exact .inr rfl | assumption) :
  PS X (.Assign [.Name x pos'] e pos) (EL te (CQ i)):=by
 intro pins s σ H D I h
 refine wpAny_Assign_Name (thn (he pins s σ H _ I h) fun v s1 ⟨y,H1,I1,r1,q1⟩=>?_) hs
 exact OX I1 hN hi hx r1 (fun s2 I2=>⟨_,H1,I2,q1⟩) hf
end
section
variable {X:Cx}{pos:cD}
noncomputable def An (c:TT)(tb:TS):TS:=fun D σ H=>∃ W:Nat->St->Hp->Prop,(∃ m,W m σ H) /\ ∀ m σ H,W m σ H ->
 c σ H fun b H1=>if b=true then ∃ N:St->Hp->Prop,(∀ σ' H',N σ' H' -> ∃ m',m'<m/\W m' σ' H')/\tb { D with nx:=N,ct:=N,bk:=D.nx } σ H1 else D.nx σ H1
theorem Pj {c:bA}{body:List cG}{tc:TT}{tb:TS}(hp:zZ (bC X.prog X.w) X.A X.env X.xe)(hc:PT X c tc)(hb:PSs X body tb):PS X (.While c body [] pos) (An tc tb):=by
 intro pins s σ H D I h
 obtain⟨W,⟨m0,w0⟩,turn⟩:=h
 refine wpAny_While (codeAny_whileLoop (fun n s'=>∃ σ' H',Inv X pins σ' H' s'/\W n σ' H') ?_ m0 ⟨σ,H,I,w0⟩)
 rintro n s1 ⟨σ1,H1,I1,w1⟩
 refine vY hp (thn (hc pins s1 σ1 H1 _ I1 (turn n σ1 H1 w1)) fun b s2 gh=>?_)
 obtain⟨H2,I2,q2⟩:=gh
 cases b with
 | true=>
  obtain⟨N,hN,q2⟩:=q2
  rw[if_pos rfl]
  refine vY hp (thn (hb pins s2 σ1 H2 _ I2 q2) fun f s3 q3=>?_)
  cases f with
  | next=>
   obtain⟨σ3,H3,I3,n3⟩:=q3
   obtain⟨m',hm,w3⟩:=hN σ3 H3 n3
   exact⟨m',hm,σ3,H3,I3,w3⟩
  | cont=>
   obtain⟨σ3,H3,I3,n3⟩:=q3
   obtain⟨m',hm,w3⟩:=hN σ3 H3 n3
   exact⟨m',hm,σ3,H3,I3,w3⟩
  | brk=>exact q3
  | ret v=>exact q3
 | false=>
  rw[if_neg mV]
  exact JD ⟨σ1,H2,I2,q2⟩
end
structure It where
 go:Nat->Hp->Prop
 yld:Nat->Hp->V->Hp->Prop
 stop:Nat->Hp->Prop
def jZ (X:Cx)(pins:List (aD×bP))(H:Hp)(b:aD):Prop:=
 H b=none/\b≠X.env.locals/\b∉X.fs/\(b∈X.ex \/ X.s₀.heap.objs.size≤b)/\(∀ x c,X.env.cells.lookup x=some c->c≠b) /\ ∀ p∈X.pn++pins,p.1≠b
theorem Inv.fpOk {X:Cx}{pins:List (aD×bP)}{σ:St}{H H':Hp}{s:aL}{b:aD}(I:Inv X pins σ H s)(hb:s.heap.objs.size≤b)(hn:H' b=none):jZ X pins H' b:=by
 refine⟨hn,kN (iE I.lt hb),I.nofs hb,.inr (jW I.sz hb),fun x c e z=>?_,fun p hp z=>?_⟩
 ·obtain⟨v,q⟩:=I.cell x c e
  exact absurd (iE q.lt (by rw[z]; exact hb)) (mD _)
 ·exact absurd (iE (cI (I.pin p hp).1) (by rw[z]; exact hb)) (mD _)
structure Turn (P:cL)(w:cA)(K:aP)(tg:bA)(J:It)(fp:List aD)(it:aD)(tn:Nat->bG->Prop):Prop where
 mem:it∈fp
 obj : ∀ i h,tn i h -> ∀ b∈fp,∃ o,h.get? b=some o /\ ∀ v,o.data ≠ .cell v
 keep : ∀ i h h',tn i h->(∀ b∈fp,∀ o,h.get? b=some o->h'.get? b=some o)->tn i h'
 item : ∀ (X:Cx),X.prog=P->X.w=w->X.K=K->X.calm=true -> ∀ (i:Nat) (pins:List (aD×bP)) (s:aL) (σ:St) (H:Hp) (E:aG->aL->Prop),Inv X pins σ H s->(∀ b∈fp,jZ X pins H b)->tn i s.heap->J.go i H ->
  aO (bC P w) X.A (hU (.ref it)) (fun r s1=>∃ u,r=some u /\
   aO (bC P w) X.A (JH tg (.ref it) u) (fun _ s2=>∃ x H',Inv X pins σ H' s2/\RelV x u/\J.yld i H x H'/\tn (i+1) s2.heap /\ ∀ b∈fp,H' b=none) E s1) E s
 done : ∀ (X:Cx),X.prog=P->X.w=w->X.K=K->X.calm=true -> ∀ (i:Nat) (pins:List (aD×bP)) (s:aL) (σ:St) (H:Hp) (E:aG->aL->Prop),Inv X pins σ H s->(∀ b∈fp,jZ X pins H b)->tn i s.heap->J.stop i H ->
  aO (bC P w) X.A (hU (.ref it)) (fun r s1=>r=none/\Inv X pins σ H s1) E s
 self : ∀ (A:eD) (i:Nat) (s:aL) (Q:aG->aL->Prop) (E:aG->aL->Prop),tn i s.heap->Q (.ref it) s->aO (bC P w) A (tP (.ref it)) Q E s
abbrev TI:=St->Hp->(It->Hp->Prop)->Prop
def PIE (X:Cx)(pins:List (aD×bP))(σ:St)(tg:bA)(R:It->Hp->Prop)(itv:aG)(s2:aL):Prop:=
 ∃ (it:aD) (fp:List aD) (tn:Nat->bG->Prop) (J:It) (H':Hp),itv = .ref it/\Inv X pins σ H' s2/\Turn X.prog X.w X.K tg J fp it tn/\tn 0 s2.heap/\(∀ b∈fp,jZ X pins H' b)/\R J H'
def PI (X:Cx)(tg iter:bA)(wi:TI):Prop:=
 ∀ (pins:List (aD×bP)) (s:aL) (σ:St) (H:Hp) (R:It->Hp->Prop),Inv X pins σ H s->wi σ H R ->
  aO (bC X.prog X.w) X.A (bX iter X.env) (fun v s1=>aO (bC X.prog X.w) X.A (tP v) (PIE X pins σ tg R) X.xe s1) X.xe s
theorem CS {M:Model}{A:eD}{E:aG->aL->Prop}{s:aL}{tg:bA}{it:aD}{u:aG}{o:bP}{n:String}{vs:Array aG}{Q:Unit->aL->Prop}(ho:s.heap.get? it=some o)(hc:o.cls = .type n)(hd:o.data = .fields vs)
    (hn:["enumerate","zip","dict_itemiterator","dict_reverseitemiterator","odict_iterator","itertools.zip_longest","itertools.pairwise"].contains n=false) (hQ:Q () s):aO M A (JH tg (.ref it) u) Q E s:=by
  unfold JH
  cases tg <;> first
    | exact bE hQ
    | (cases u <;> first
        | exact bE hQ
        | (refine aJ (wpAny_load ho ?_)
           rw[hc,hd]
           show aO M A (if (["enumerate","zip","dict_itemiterator","dict_reverseitemiterator","odict_iterator","itertools.zip_longest","itertools.pairwise"].contains n&&vs[0]? == some (iL _))=true then _ else _) Q E s
           rw[if_neg (by intro h; rw[hn,LD] at h; cases h)]
           exact bE hQ))
noncomputable def EJ (K:aP)(a:aD):It:=
 ⟨fun i H=>∃ xs x,SqL K H a xs/\xs[i]?=some x,fun i H x H'=>H'=H /\ ∀ xs,SqL K H a xs->xs[i]?=some x,fun i H=>∃ xs,SqL K H a xs/\xs.length≤i⟩
noncomputable def tZ (K:aP)(a:aD):It:=
 ⟨fun i H=>∃ xs x,SqT K H a xs/\xs[i]?=some x,fun i H x H'=>H'=H /\ ∀ xs,SqT K H a xs->xs[i]?=some x,fun i H=>∃ xs,SqT K H a xs/\xs.length≤i⟩
noncomputable def wV (lo:Int)(n:Nat):It:=⟨fun i _=>i<n,fun i H x H'=>H'=H/\x = .int (lo+i),fun i _=>n≤i⟩
theorem Ej {P:cL}{w:cA}{K:aP}{tg:bA}(a it:aD):Turn P w K tg (EJ K a) [it] it (fun i h=>h.IsListIter it a i) where
 mem:=by simp
 obj:=fun i h st b hb=>by
  have e:b=it:=by simpa using hb
  subst e
  obtain⟨o,e,c,d⟩:=st
  exact⟨o,e,fun v z=>by rw[d] at z; cases z⟩
 keep:=fun i h h' st k=>st.at fun o e=>k it (by simp) o e
 item:=by
  intro X hP hw hK hc i pins s σ H E I hf st hg
  subst hP hw hK
  obtain⟨xs,x,hq,hx⟩:=hg
  obtain⟨its,rv,p,hz⟩:=I.list hq
  obtain⟨u,hu,ru⟩:=rv.get hx
  obtain⟨f0,f1,f2,f3,f4,f5⟩:=hf it (by simp)
  refine wpAny_pyNext_list_item st p.isList (x:=u) (by simpa using hu) fun h' st' sb=>?_
  have I1:Inv X pins σ H { s with heap:=h' }:=I.turned (t':=s.toks) (fun b o hb e=>(sb.2 b hb).trans e) f0 f1 f3 f4 f5
  obtain⟨o,e,c,d⟩:=id st'
  exact⟨u,rfl,CS (s:={ s with heap:=h' }) e c d (by decide) ⟨x,H,I1,ru,⟨rfl,fun ys hy=>by rw[I.list_inj hy hq]; exact hx⟩,st',fun b hb=>(hf b hb).1⟩⟩
 done:=by
  intro X hP hw hK hc i pins s σ H E I hf st hg
  subst hP hw hK
  obtain⟨xs,hq,hx⟩:=hg
  obtain⟨its,rv,p,hz⟩:=I.list hq
  obtain⟨f0,f1,f2,f3,f4,f5⟩:=hf it (by simp)
  have hl:=rv.length
  exact wpAny_pyNext_list_end (I.ok.hd hc) st p.isList (by simp; omega) fun h' eb=>⟨rfl,I.turned (t':=s.toks) (fun b o hb e=>eb b o hb e) f0 f1 f3 f4 f5⟩
 self:=fun _ _ _ _ _ st h=>wpAny_pyIter_listiter st h
theorem Fw {P:cL}{w:cA}{K:aP}{tg:bA}(a it:aD):Turn P w K tg (tZ K a) [it] it (fun i h=>h.IsTupleIter it a i) where
 mem:=by simp
 obj:=fun i h st b hb=>by
  have e:b=it:=by simpa using hb
  subst e
  obtain⟨o,e,c,d⟩:=st
  exact⟨o,e,fun v z=>by rw[d] at z; cases z⟩
 keep:=fun i h h' st k=>st.at fun o e=>k it (by simp) o e
 item:=by
  intro X hP hw hK hc i pins s σ H E I hf st hg
  subst hP hw hK
  obtain⟨xs,x,hq,hx⟩:=hg
  obtain⟨its,rv,p,hz⟩:=I.tuple hq
  obtain⟨u,hu,ru⟩:=rv.get hx
  obtain⟨f0,f1,f2,f3,f4,f5⟩:=hf it (by simp)
  refine wpAny_pyNext_tuple_item st (show s.heap.IsTuple a its.toArray from p) (x:=u) (by simpa using hu) fun h' st' sb=>?_
  have I1:Inv X pins σ H { s with heap:=h' }:=I.turned (t':=s.toks) (fun b o hb e=>(sb.2 b hb).trans e) f0 f1 f3 f4 f5
  obtain⟨o,e,c,d⟩:=id st'
  exact⟨u,rfl,CS (s:={ s with heap:=h' }) e c d (by decide) ⟨x,H,I1,ru,⟨rfl,fun ys hy=>by rw[I.tuple_inj hy hq]; exact hx⟩,st',fun b hb=>(hf b hb).1⟩⟩
 done:=by
  intro X hP hw hK hc i pins s σ H E I hf st hg
  subst hP hw hK
  obtain⟨xs,hq,hx⟩:=hg
  obtain⟨its,rv,p,hz⟩:=I.tuple hq
  obtain⟨f0,f1,f2,f3,f4,f5⟩:=hf it (by simp)
  have hl:=rv.length
  exact wpAny_pyNext_tuple_end (I.ok.hd hc) st (show s.heap.IsTuple a its.toArray from p) (by simp; omega) fun h' eb=>⟨rfl,I.turned (t':=s.toks) (fun b o hb e=>eb b o hb e) f0 f1 f3 f4 f5⟩
 self:=fun _ _ _ _ _ st h=>wpAny_pyIter_tupleiter st h
theorem Gy {P:cL}{w:cA}{K:aP}{tg:bA}(it:aD)(lo:Int)(n:Nat):Turn P w K tg (wV lo n) [it] it (fun i h=>IsRangeIter h it (lo+(i:Nat)*1) ((n:Int) - (i:Nat)) 1) where
 mem:=by simp
 obj:=fun i h st b hb=>by
  have e:b=it:=by simpa using hb
  subst e
  exact⟨_,st,fun v z=>by
   have z':Data.fields _=Data.cell v:=z
   cases z'⟩
 keep:=fun i h h' st k=>k it (by simp) _ st
 item:=by
  intro X hP hw hK hc i pins s σ H E I hf st hg
  subst hP hw hK
  obtain⟨f0,f1,f2,f3,f4,f5⟩:=hf it (by simp)
  have W:=Walks.range (prog:=X.prog) (w:=X.w) (I.ok.hd hc) it lo 1 n
  refine W.item i s _ _ hg st fun v h' tk hv st' kk=>?_
  obtain⟨t,rfl⟩:=hv
  have I1:Inv X pins σ H { s with heap:=h',toks:=tk }:=I.turned (fun b o hb e=>kk b o (by simpa using hb) e) f0 f1 f3 f4 f5
  refine⟨_,rfl,CS (s:={ s with heap:=h',toks:=tk }) (n:="range_iterator") st' rfl rfl (by decide) ⟨.int (lo+i),H,I1,⟨t,?_⟩,⟨rfl,rfl⟩,st',fun b hb=>(hf b hb).1⟩⟩
  rw[Int.mul_one]
 done:=by
  intro X hP hw hK hc i pins s σ H E I hf st hg
  subst hP hw hK
  obtain⟨f0,f1,f2,f3,f4,f5⟩:=hf it (by simp)
  exact wpAny_pyNext_range_end (I.ok.hd hc) st (by have:n≤i:=hg; omega) fun h' eb=>⟨rfl,I.turned (t':=s.toks) (fun b o hb e=>eb b o hb e) f0 f1 f3 f4 f5⟩
 self:=fun _ _ _ _ _ st h=>wpAny_pyIter_rangeiter st h
section
variable {X:Cx}{tg:bA}
noncomputable def YA (K:aP)(tl:TE):TI:=fun σ H R=>tl σ H fun x H1=>∃ a,x = .ref a/\(∃ xs,SqL K H1 a xs)/\R (EJ K a) H1
noncomputable def WI (K:aP)(tl:TE):TI:=fun σ H R=>tl σ H fun x H1=>∃ a,x = .ref a/\(∃ xs,SqT K H1 a xs)/\R (tZ K a) H1
theorem Ma {l:bA}{tl:TE}(hl:PE X l tl):PI X tg l (YA X.K tl):=by
 intro pins s σ H R I h
 refine thn (hl pins s σ H _ I h) fun v s1 gh=>?_
 obtain⟨x,H1,I1,r1,q1⟩:=gh
 obtain⟨a,e,⟨xs,hq⟩,q⟩:=q1
 subst e
 cases r1
 obtain⟨its,rv,p,hz⟩:=I1.list hq
 refine zS p.isList ?_
 refine⟨s1.heap.objs.size,[s1.heap.objs.size],_,_,H1,rfl,I1.kept (t':=s1.toks) fun b o e=>cY _ e,Ej a _,⟨_,eW _ rfl,rfl,rfl⟩,fun b hb=>?_,q⟩
 have e:b=s1.heap.objs.size:=by simpa using hb
 subst e
 exact I1.fpOk (dA _) (I1.hok.fresh (dA _))
theorem TY {l:bA}{tl:TE}(hl:PE X l tl):PI X tg l (WI X.K tl):=by
 intro pins s σ H R I h
 refine thn (hl pins s σ H _ I h) fun v s1 gh=>?_
 obtain⟨x,H1,I1,r1,q1⟩:=gh
 obtain⟨a,e,⟨xs,hq⟩,q⟩:=q1
 subst e
 cases r1
 obtain⟨its,rv,p,hz⟩:=I1.tuple hq
 refine wpAny_pyIter_tuple (show s1.heap.IsTuple a its.toArray from p) ?_
 refine⟨s1.heap.objs.size,[s1.heap.objs.size],_,_,H1,rfl,I1.kept (t':=s1.toks) fun b o e=>cY _ e,Fw a _,⟨_,eW _ rfl,rfl,rfl⟩,fun b hb=>?_,q⟩
 have e:b=s1.heap.objs.size:=by simpa using hb
 subst e
 exact I1.fpOk (dA _) (I1.hok.fresh (dA _))
theorem OJ {pins:List (aD×bP)}{σ:St}{H:Hp}{s:aL}{R:It->Hp->Prop}{E:aG->aL->Prop}{lo hi:Int}{t u v:Tok}{tk:Nat}(I:Inv X pins σ H s)(h1 : -(2 ^ 62)≤lo)(h2:lo<2 ^ 62)(h3 : -(2 ^ 62)≤hi)(h4:hi<2 ^ 62)
  (q:R (wV lo (hi - lo).toNat) H):aO (bC X.prog X.w) X.A (tP (.ref s.heap.objs.size)) (PIE X pins σ tg R) E { s with heap:=s.heap.push { cls:=.type "range",data:=.fields #[.int lo t,.int hi u,.int 1 v] },toks:=tk }:=by
 refine wpAny_pyIter_range (IsRange.new ..) (small_one h1 h2 h3 h4) ?_
 have I1:Inv X pins σ H { s with heap:=s.heap.push { cls:=.type "range",data:=.fields #[.int lo t,.int hi u,.int 1 v] },toks:=tk }:=I.kept fun b o e=>cY _ e
 refine⟨(s.heap.push { cls:=.type "range",data:=.fields #[.int lo t,.int hi u,.int 1 v] }).objs.size,[(s.heap.push { cls:=.type "range",data:=.fields #[.int lo t,.int hi u,.int 1 v] }).objs.size],_,_,H,rfl,
  I1.kept (t':=tk) fun b o e=>cY _ e,Gy _ lo (hi - lo).toNat,?_,fun b hb=>?_,q⟩
 ·have e1:lo+((0:Nat):Int)*1=lo:=by simp
  have e2:(((hi - lo).toNat:Nat):Int) - ((0:Nat):Int)=Builtin.Range.rangeSize lo hi 1:=by rw[rangeSize_one]; split <;> omega
  show IsRangeIter _ _ (lo+((0:Nat):Int)*1) ((((hi - lo).toNat:Nat):Int) - ((0:Nat):Int)) 1
  rw[e1,e2]
  exact eW _ rfl
 ·have e:b=(s.heap.push { cls:=.type "range",data:=.fields #[.int lo t,.int hi u,.int 1 v] }).objs.size:=by simpa using hb
  subst e
  exact I1.fpOk (dA _) (I1.hok.fresh (dA _))
noncomputable def WX (ta:TA):TI:=fun σ H R=>ta σ H fun vs H1=>∃ j:Int,vs=[.int j] /\ -(2 ^ 62)≤j/\j<2 ^ 62/\R (wV 0 j.toNat) H1
noncomputable def XZ (ta:TA):TI:=fun σ H R=>ta σ H fun vs H1=>∃ i j:Int,vs=[.int i,.int j]/\(-(2 ^ 62)≤i/\i<2 ^ 62 /\ -(2 ^ 62)≤j/\j<2 ^ 62)/\R (wV i (j - i).toNat) H1
theorem Di {a:bA}{ta:TA}{p pos:cD}(hg:Gl X "range")(hm:X.mg "range" = none)(ha:PA X [a] ta)(hs:bL [a] X.env=[(false,bX a X.env)]:=by rfl):PI X tg (.Call (.Name "range" p) [a] [] pos) (WX ta):=by
 intro pins s σ H R I h
 refine Call_ (qJ I hg hm boot_range (zX (thn (ha pos pins s σ H _ I h) fun us s1 ⟨vs,H1,I1,r1,q1⟩=>?_) hs rfl))
 obtain⟨j,e,q1,q2,q⟩:=q1
 subst e
 cases r1 with
 | cons r rr=>
  cases rr
  obtain⟨t,rfl⟩:=r
  exact call_range_1 (OJ I1 (by omega) (by omega) q1 q2 (by simpa using q))
theorem Sj {a b:bA}{ta:TA}{p pos:cD}(hg:Gl X "range")(hm:X.mg "range" = none)(ha:PA X [a,b] ta)(hs:bL [a,b] X.env=[(false,bX a X.env),(false,bX b X.env)]:=by rfl)(hs2:bL [b] X.env=[(false,bX b X.env)]:=by rfl) :
  PI X tg (.Call (.Name "range" p) [a,b] [] pos) (XZ ta):=by
 intro pins s σ H R I h
 refine Call_ (qJ I hg hm boot_range (zX (thn (ha pos pins s σ H _ I h) fun us s1 ⟨vs,H1,I1,r1,q1⟩=>?_) (by rw[hs,hs2]) (by rw[hs2]; rfl)))
 obtain⟨i,j,e,⟨q1,q2,q3,q4⟩,q⟩:=q1
 subst e
 cases r1 with
 | cons r rr=>
  cases rr with
  | cons r' rr=>
   cases rr
   obtain⟨t,rfl⟩:=r
   obtain⟨t',rfl⟩:=r'
   exact call_range_2 (OJ I1 q1 q2 q3 q4 q)
noncomputable def WN (wi:TI)(g:TG)(tb:TS):TS:=fun D σ H=>wi σ H fun J H1=>∃ W:Nat->Nat->St->Hp->Prop,(∃ m,W 0 m σ H1) /\ ∀ i m σ H,W i m σ H ->
 (J.stop i H/\D.nx σ H) \/ (J.go i H /\ ∃ N:St->Hp->Prop,(∀ σ' H',N σ' H' -> ∃ m',m'<m/\W (i+1) m' σ' H') /\ ∀ x H',J.yld i H x H'->g x σ H' fun σ2 H2=>tb { D with nx:=N,ct:=N,bk:=D.nx } σ2 H2)
noncomputable def xM (fp:List aD)(h:bG):List (aD×bP):=fp.filterMap fun b=>(h.get? b).map fun o=>(b,o)
theorem CF {fp:List aD}{h:bG}{b:aD}{o:bP}(hb:b∈fp)(e:h.get? b=some o):(b,o)∈xM fp h:=List.mem_filterMap.mpr ⟨b,hb,by rw[e]; rfl⟩
theorem Eu {fp:List aD}{h:bG}{p:aD×bP}(hp:p∈xM fp h):p.1∈fp/\h.get? p.1=some p.2:=by
 obtain⟨b,hb,e⟩:=List.mem_filterMap.mp hp
 cases q:h.get? b with
 | none=>rw[q] at e; cases e
 | some o=>
  rw[q] at e
  have e':(b,o)=p:=gW e
  subst e'
  exact⟨hb,q⟩
theorem Inv.pinned {pins:List (aD×bP)}{σ:St}{H:Hp}{s:aL}{fp:List aD}(I:Inv X pins σ H s)(hf : ∀ b∈fp,jZ X pins H b)(ho : ∀ b∈fp,∃ o,s.heap.get? b=some o /\ ∀ v,o.data ≠ .cell v):Inv X (pins++xM fp s.heap) σ H s:=
 I.pins_of fun p hp=>(jB.mp hp).elim (fun z=>I.pin p (oR _ z)) fun z=>by
  obtain⟨hb,e⟩:=Eu z
  obtain⟨f0,f1,f2,_⟩:=hf p.1 hb
  obtain⟨o,e',d⟩:=ho p.1 hb
  rw[e] at e'; cases e'
  exact⟨e,f0,f1,f2,d⟩
theorem Inv.unpinned {pins pl:List (aD×bP)}{σ:St}{H:Hp}{s:aL}(I:Inv X (pins++pl) σ H s):Inv X pins σ H s:=I.pins_of fun p hp=>I.pin p (oR _ (List.mem_append_left _ hp))
theorem TF {iter:bA}{body:List cG}{wi:TI}{g:TG}{tb:TS}{pos:cD}(hp:zZ (bC X.prog X.w) X.A X.env X.xe)(hc:X.calm=true)(hi:PI X tg iter wi)(hg:PG X tg g)(hb:PSs X body tb)
  (hs : ∀ x,tQ iter X.env x=pure x:=by intro _; rfl):PS X (.For tg iter body [] pos) (WN wi g tb):=by
 intro pins s σ H D I h
 refine wpAny_For (thn (hi pins s σ H _ I h) fun v s1 h1=>thn h1 fun itv s2 h2=>?_) hs
 obtain⟨it,fp,tn,J,H2,e,I2,T,st2,f2,W,⟨m0,w0⟩,turn⟩:=h2
 subst e
 have stat : ∀ {H':Hp},(∀ b∈fp,H' b=none) -> ∀ b∈fp,jZ X pins H' b:=fun hn b hb=>⟨hn b hb,(f2 b hb).2⟩
 refine codeAny_forLoop_any (fun n s'=>∃ i σ' H',Inv X pins σ' H' s'/\tn i s'.heap/\(∀ b∈fp,H' b=none)/\W i n σ' H') ?_ m0 ⟨0,σ,H2,I2,st2,fun b hb=>(f2 b hb).1,w0⟩
 rintro n s3 ⟨i,σ3,H3,I3,st3,fr3,w3⟩
 rcases turn i n σ3 H3 w3 with⟨stop,qn⟩ | ⟨go,N,hN,step⟩
 ·refine vY hp (thn (T.done X rfl rfl rfl hc i pins s3 σ3 H3 X.xe I3 (stat fr3) st3 stop) fun r s4 gh=>?_)
  obtain⟨hr,I4⟩:=gh
  subst hr
  exact JD ⟨σ3,H3,I4,qn⟩
 ·refine vY hp (thn (T.item X rfl rfl rfl hc i pins s3 σ3 H3 X.xe I3 (stat fr3) st3 go) fun r s4 gh=>?_)
  obtain⟨u,hr,h4⟩:=gh
  subst hr
  refine vY hp (thn h4 fun _ s5 gh=>?_)
  obtain⟨x,H5,I5,r5,y5,st5,fr5⟩:=gh
  have I5':=I5.pinned (stat fr5) (T.obj _ _ st5)
  refine vY hp (thn (hg _ s5 σ3 H5 x u _ I5' r5 (step x H5 y5)) fun _ s6 gh=>?_)
  obtain⟨σ6,H6,I6,q6⟩:=gh
  refine vY hp (thn (hb _ s6 σ6 H6 _ I6 q6) fun f s7 q7=>?_)
  have again : ∀ {σ7:St} {H7:Hp},Inv X (pins++xM fp s5.heap) σ7 H7 s7->N σ7 H7 -> ∃ m,m<n /\ ∃ i σ' H',Inv X pins σ' H' s7/\tn i s7.heap/\(∀ b∈fp,H' b=none)/\W i m σ' H':=fun {σ7 H7} I7 n7=>by
   obtain⟨m',hm,w7⟩:=hN σ7 H7 n7
   refine⟨m',hm,i+1,σ7,H7,I7.unpinned,T.keep _ _ _ st5 fun b hb o e=>(I7.pin (b,o) (oR _ (oR _ (CF hb e)))).1,fun b hb=>?_,w7⟩
   obtain⟨o,e,d⟩:=T.obj _ _ st5 b hb
   exact(I7.pin (b,o) (oR _ (oR _ (CF hb e)))).2.1
  cases f with
  | next=>obtain⟨σ7,H7,I7,n7⟩:=q7; exact again I7 n7
  | cont=>obtain⟨σ7,H7,I7,n7⟩:=q7; exact again I7 n7
  | brk=>obtain⟨σ7,H7,I7,q7⟩:=q7; exact⟨σ7,H7,I7.unpinned,q7⟩
  | ret v=>obtain⟨x7,σ7,H7,I7,r7,q7⟩:=q7; exact⟨x7,σ7,H7,I7.unpinned,r7,q7⟩
end
theorem Nb {K:aP}{a:aD}{xs:List V}{g:TG}{tb:TS}{D:Ends}{σ:St}{H:Hp}(Pv:Nat->St->Hp->Prop)(h0:Pv 0 σ H)(hl : ∀ i σ H,i≤xs.length->Pv i σ H->SqT K H a xs)
  (hs : ∀ i x σ H,xs[i]?=some x->Pv i σ H->g x σ H fun σ2 H2=>tb { D with nx:=Pv (i+1),ct:=Pv (i+1),bk:=D.nx } σ2 H2) (hd : ∀ σ H,Pv xs.length σ H->D.nx σ H) :
  ∃ W:Nat->Nat->St->Hp->Prop,(∃ m,W 0 m σ H) /\ ∀ i m σ H,W i m σ H ->
   ((tZ K a).stop i H/\D.nx σ H) \/ ((tZ K a).go i H /\ ∃ N:St->Hp->Prop,(∀ σ' H',N σ' H' -> ∃ m',m'<m/\W (i+1) m' σ' H') /\ ∀ x H',(tZ K a).yld i H x H'->g x σ H' fun σ2 H2=>tb { D with nx:=N,ct:=N,bk:=D.nx } σ2 H2):=by
 refine⟨fun i m σ H=>m=xs.length - i/\i≤xs.length/\Pv i σ H,⟨xs.length,by simp,mS _,h0⟩,?_⟩
 rintro i m σ H ⟨rfl,hi,p⟩
 have q:=hl i σ H hi p
 by_cases hlt:i<xs.length
 ·refine .inr ⟨⟨xs,xs[i],q,by simp[hlt]⟩,Pv (i+1),fun σ' H' p'=>⟨xs.length - (i+1),by omega,rfl,hlt,p'⟩,fun x H' y=>?_⟩
  obtain⟨e,y⟩:=y
  subst e
  exact hs i x σ _ (y xs q) p
 ·have e:i=xs.length:=by omega
  subst e
  exact .inl ⟨⟨xs,q,dA _⟩,hd σ H p⟩
abbrev R2:=V->V->Hp->VK->Prop
def OpR (X:Cx)(f:aG->aG->Sem aG)(r:R2):Prop:=
 ∀ (pins:List (aD×bP)) (s:aL) (σ:St) (H:Hp) (x y:V) (v u:aG) (Q:VK),Inv X pins σ H s->RelV x v->RelV y u->r x y H Q ->
  aO (bC X.prog X.w) X.A (f v u) (EP X pins σ Q) X.xe s
def UnR (X:Cx)(f:aG->Sem aG)(r:V->Hp->VK->Prop):Prop:=
 ∀ (pins:List (aD×bP)) (s:aL) (σ:St) (H:Hp) (x:V) (v:aG) (Q:VK),Inv X pins σ H s->RelV x v->r x H Q ->
  aO (bC X.prog X.w) X.A (f v) (EP X pins σ Q) X.xe s
def Ae3 (X:Cx)(f:aG)(r:List V->Hp->VK->Prop):Prop:=
 ∀ (pins:List (aD×bP)) (s:aL) (σ:St) (H:Hp) (xs:List V) (us:List aG) (Q:VK),Inv X pins σ H s->Vals xs us->r xs H Q ->
  aO (bC X.prog X.w) X.A (call f us) (EP X pins σ Q) X.xe s
noncomputable def tOp (r:R2)(ta tb:TE):TE:=fun σ H Q=>ta σ H fun x H1=>tb σ H1 fun y H2=>r x y H2 Q
noncomputable def tUn (r:V->Hp->VK->Prop)(ta:TE):TE:=fun σ H Q=>ta σ H fun x H1=>r x H1 Q
noncomputable def rI (C:Int->Int->Prop)(g:Int->Int->V):R2:=fun x y H Q=>∃ i j,x = .int i/\y = .int j/\C i j/\Q (g i j) H
noncomputable def rI0 (g:Int->Int->V):R2:=fun x y H Q=>∃ i j,x = .int i/\y = .int j/\Q (g i j) H
def rU (g:Int->V):V->Hp->VK->Prop:=fun x H Q=>∃ i,x = .int i/\Q (g i) H
section
variable {X:Cx}{a b c:bA}{ta tb tc:TE}{pos:cD}
theorem EW (ha:PE X a ta)(hb:PE X b tb){pins:List (aD×bP)}{s:aL}{σ:St}{H:Hp}{R:V->V->Hp->Prop}(I:Inv X pins σ H s)
  (h:ta σ H fun x H1=>tb σ H1 fun y H2=>R x y H2) {Q:aG->aL->Prop} {f:aG->aG->Sem aG}
  (hf : ∀ v u s2 x y H2,Inv X pins σ H2 s2->RelV x v->RelV y u->R x y H2->aO (bC X.prog X.w) X.A (f v u) Q X.xe s2) :
  aO (bC X.prog X.w) X.A (bX a X.env) (fun v s₁=>aO (bC X.prog X.w) X.A (bX b X.env) (fun u s₂=>aO (bC X.prog X.w) X.A (f v u) Q X.xe s₂) X.xe s₁) X.xe s:=by
 refine thn (ha pins s σ H _ I h) fun v s1 gh=>?_
 obtain⟨x,H1,I1,r1,q1⟩:=gh
 refine thn (hb pins s1 σ H1 _ I1 q1) fun u s2 gh=>?_
 obtain⟨y,H2,I2,r2,q2⟩:=gh
 exact hf v u s2 x y H2 I2 r1 r2 q2
theorem YE {op:Operator}{r:R2}(ho:OpR X (jV op) r)(ha:PE X a ta)(hb:PE X b tb):PE X (.BinOp a op b pos) (tOp r ta tb):=by
 intro pins s σ H Q I h
 exact wpAny_BinOp (EW ha hb I h fun v u s2 x y H2 I2 rx ry q=>ho pins s2 σ H2 x y v u Q I2 rx ry q)
theorem ZV {op:UnaryOp}{r:V->Hp->VK->Prop}(ho:UnR X (unaryOp op) r)(ha:PE X a ta):PE X (.UnaryOp op a pos) (tUn r ta):=by
 intro pins s σ H Q I h
 exact UnaryOp_ (thn (ha pins s σ H _ I h) fun v s1 ⟨x,H1,I1,r1,q1⟩=>ho pins s1 σ H1 x v Q I1 r1 q1)
theorem opI {f:aG->aG->Sem aG}{C:Int->Int->Prop}{g:Int->Int->Int}
  (rule : ∀ (i j:Int) (t u:Tok) (s:aL) (Q:aG->aL->Prop) (E:aG->aL->Prop),C i j->Q (.int (g i j) s.toks) { s with toks:=s.toks+1 }->aO (bC X.prog X.w) X.A (f (.int i t) (.int j u)) Q E s) :
  OpR X f (rI C fun i j=>.int (g i j)):=by
 intro pins s σ H x y v u Q I rx ry h
 obtain⟨i,j,rfl,rfl,hc,q⟩:=h
 obtain⟨t,rfl⟩:=rx
 obtain⟨t',rfl⟩:=ry
 exact rule i j t t' s _ _ hc ⟨.int (g i j),H,I.tok _,⟨_,rfl⟩,q⟩
theorem LI {f:aG->aG->Sem aG}{g:Int->Int->Int}
  (rule : ∀ (i j:Int) (t u:Tok) (s:aL) (Q:aG->aL->Prop) (E:aG->aL->Prop),Q (.int (g i j) s.toks) { s with toks:=s.toks+1 }->aO (bC X.prog X.w) X.A (f (.int i t) (.int j u)) Q E s) :
  OpR X f (rI0 fun i j=>.int (g i j)):=by
 intro pins s σ H x y v u Q I rx ry h
 obtain⟨i,j,rfl,rfl,q⟩:=h
 obtain⟨t,rfl⟩:=rx
 obtain⟨t',rfl⟩:=ry
 exact rule i j t t' s _ _ ⟨.int (g i j),H,I.tok _,⟨_,rfl⟩,q⟩
theorem EO {f:aG->aG->Sem aG}{g:Int->Int->Bool}
  (rule : ∀ (i j:Int) (t u:Tok) (s:aL) (Q:aG->aL->Prop) (E:aG->aL->Prop),Q (.bool (g i j)) s->aO (bC X.prog X.w) X.A (f (.int i t) (.int j u)) Q E s) :
  OpR X f (rI0 fun i j=>.bl (g i j)):=by
 intro pins s σ H x y v u Q I rx ry h
 obtain⟨i,j,rfl,rfl,q⟩:=h
 obtain⟨t,rfl⟩:=rx
 obtain⟨t',rfl⟩:=ry
 exact rule i j t t' s _ _ ⟨.bl (g i j),H,I,rfl,q⟩
def WC (i j:Int):Prop:=0<j/\j<1073741824
def XG (i j:Int):Prop:=0≤j/\j≤1000000/\i.natAbs<2 ^ 64
def Be6 (i j:Int):Prop:=(-(2 ^ 64)<i/\i<2 ^ 64) \/ (-(2 ^ 64)<j/\j<2 ^ 64)
theorem Be6.ok {i j:Int}(h:Be6 i j):IntMulOk i j:=by
 rcases h with⟨h1,h2⟩ | ⟨h1,h2⟩
 ·exact .of_left (intBits_le_64 h1 h2)
 ·exact .of_right (intBits_le_64 h1 h2)
theorem Ba9:OpR X (jV .Add) (rI0 fun i j=>.int (i+j)):=LI fun _ _ _ _ _ _ _ q=>add_int q
theorem Bi:OpR X (jV .Sub) (rI0 fun i j=>.int (i - j)):=LI fun _ _ _ _ _ _ _ q=>sub_int q
theorem ZP:OpR X (jV .Mult) (rI Be6 fun i j=>.int (i*j)):=opI fun _ _ _ _ _ _ _ hc q=>mul_int q hc.ok
theorem Lo:OpR X (jV .FloorDiv) (rI WC fun i j=>.int (i / j)):=opI fun i j _ _ _ _ _ hc q=>by
 have h1:(0:Int)<j:=hc.1
 have h2:j<1073741824:=hc.2
 exact floordiv_int (by omega) (by rw[Int.fdiv_eq_ediv_of_nonneg i (by omega)]; exact q) (.inl (PyProof.noPylong_small (by omega)))
theorem Bq:OpR X (jV .Mod) (rI (fun _ j=>0<j) fun i j=>.int (i%j)):=opI fun i j _ _ _ _ _ hc q=>by
 have h1:(0:Int)<j:=hc
 exact mod_int' (by omega) (by rw[Int.fmod_eq_emod_of_nonneg i (by omega)]; exact q)
theorem Ax:OpR X (jV .Pow) (rI XG fun i j=>.int (i ^ j.toNat)):=opI fun _ _ _ _ _ _ _ hc q=>pow_int_small hc.1 hc.2.1 hc.2.2 q
theorem unI {f:aG->Sem aG}{g:Int->Int}
  (rule : ∀ (i:Int) (t:Tok) (s:aL) (Q:aG->aL->Prop) (E:aG->aL->Prop),Q (.int (g i) s.toks) { s with toks:=s.toks+1 }->aO (bC X.prog X.w) X.A (f (.int i t)) Q E s) :
  UnR X f (rU fun i=>.int (g i)):=by
 intro pins s σ H x v Q I rx h
 obtain⟨i,rfl,q⟩:=h
 obtain⟨t,rfl⟩:=rx
 exact rule i t s _ _ ⟨.int (g i),H,I.tok _,⟨_,rfl⟩,q⟩
theorem Ah:UnR X (unaryOp .USub) (rU fun i=>.int (-i)):=unI fun _ _ _ _ _ q=>neg_int q
end
section
variable {X:Cx}{a b c:bA}{ta tb tc:TE}{pos:cD}
theorem BB {pins:List (aD×bP)}{σ:St}{H:Hp}{s:aL}{Q:VK}{k k':Bool}(I:Inv X pins σ H s)(q:Q (.bl k) H)(e:k=k'):EP X pins σ Q (.bool k') s:=by
 subst e
 exact⟨.bl k,H,I,rfl,q⟩
theorem A2p:OpR X (gS .Lt) (rI0 fun i j=>.bl (decide (i<j))):=EO fun _ _ _ _ _ _ _ q=>lt_int q
theorem DH:OpR X (gS .Gt) (rI0 fun i j=>.bl (decide (j<i))):=EO fun _ _ _ _ _ _ _ q=>gt_int q
theorem xC:OpR X (gS .GtE) (rI0 fun i j=>.bl (decide (j≤i))):=EO fun _ _ _ _ _ _ _ q=>ge_int q
theorem BZ:OpR X (gS .Lt) (fun x y H Q=>∃ i j,x = .str i/\y = .str j/\Q (.bl (decide (i.cps.toList<j.cps.toList))) H):=by
 intro pins s σ H x y v u Q I rx ry h
 obtain⟨i,j,rfl,rfl,q⟩:=h
 obtain⟨t,rfl⟩:=rx
 obtain⟨t',rfl⟩:=ry
 exact lt_str (BB I q rfl)
theorem Se:OpR X (gS .In) (fun x y H Q=>∃ i j,x = .str i/\y = .str j/\Q (.bl (!(KU j i 0 j.length 1).isEmpty)) H):=by
 intro pins s σ H x y v u Q I rx ry h
 obtain⟨i,j,rfl,rfl,q⟩:=h
 obtain⟨t,rfl⟩:=rx
 obtain⟨t',rfl⟩:=ry
 exact in_str (BB I q rfl)
theorem IV:OpR X (gS .Is) (fun x y H Q=>y = .non/\Q (.bl (decide (x = .non))) H):=by
 intro pins s σ H x y v u Q I rx ry h
 obtain⟨rfl,q⟩:=h
 cases ry
 refine is_none_gen (BB I q ?_)
 cases x <;> first
  | (cases rx; rfl)
  | (obtain⟨t,rfl⟩:=rx; rfl)
theorem FR:OpR X (gS .IsNot) (fun x y H Q=>y = .non/\Q (.bl (!decide (x = .non))) H):=by
 intro pins s σ H x y v u Q I rx ry h
 obtain⟨rfl,q⟩:=h
 cases ry
 refine isnot_none_gen (BB I q ?_)
 cases x <;> first
  | (cases rx; rfl)
  | (obtain⟨t,rfl⟩:=rx; rfl)
theorem OpR.or {f:aG->aG->Sem aG}{r r':R2}(h:OpR X f r)(h':OpR X f r'):OpR X f (fun x y H Q=>r x y H Q \/ r' x y H Q):=by
 intro pins s σ H x y v u Q I rx ry q
 rcases q with q | q
 ·exact h pins s σ H x y v u Q I rx ry q
 ·exact h' pins s σ H x y v u Q I rx ry q
theorem cK (b:bA){op:CmpOp}(h:op ≠ .In:=by decide)(h2:op ≠ .NotIn:=by decide):wG op b=false:=by
 have e1:(op == CmpOp.In)=false:=by cases op <;> first | rfl | exact absurd rfl h
 have e2:(op == CmpOp.NotIn)=false:=by cases op <;> first | rfl | exact absurd rfl h2
 cases b <;> simp[wG,e1,e2]
theorem Ng {op:CmpOp}{r:R2}(ho:OpR X (gS op) r)(ha:PE X a ta)(hb:PE X b tb)(hm:wG op b=false):PE X (.Compare a [op] [b] pos) (tOp r ta tb):=by
 intro pins s σ H Q I h
 exact wpAny_Compare1 (EW ha hb I h fun v u s2 x y H2 I2 rx ry q=>ho pins s2 σ H2 x y v u Q I2 rx ry q) hm
noncomputable def MC (t:TE):TT:=fun σ H Q=>t σ H fun x H'=>∃ k,x = .bl k/\Q k H'
theorem MZ {op:CmpOp}{r:R2}(ho:OpR X (gS op) r)(ha:PE X a ta)(hb:PE X b tb)(hm:wG op b=false):PT X (.Compare a [op] [b] pos) (MC (tOp r ta tb)):=by
 intro pins s σ H Q I h
 refine wpAny_isTrue_Compare1 (thn (ha pins s σ H _ I h) fun v s1 ⟨x,H1,I1,r1,q1⟩=>thn (hb pins s1 σ H1 _ I1 q1) fun u s2 ⟨y,H2,I2,r2,q2⟩=>
  thn (ho pins s2 σ H2 x y v u _ I2 r1 r2 q2) fun c s3 ⟨z,H3,I3,r3,k,e,q3⟩=>?_) hm
 subst e
 cases r3
 exact rH ⟨H3,I3,q3⟩
noncomputable def SO (r r':R2)(ta tb tc:TE):TE:=fun σ H Q=>ta σ H fun x H1=>tb σ H1 fun y H2=>r x y H2 fun z H3=>∃ k,z = .bl k /\
 (if k=true then tc σ H3 fun w' H4=>r' y w' H4 Q else Q (.bl false) H3)
theorem Pp {op op':CmpOp}{r r':R2}(ho:OpR X (gS op) r)(ho':OpR X (gS op') r')(ha:PE X a ta)(hb:PE X b tb)(hc:PE X c tc)
  (hm:lastMarks [op,op'] [b,c]=false:=by with_unfolding_all rfl):PT X (.Compare a [op,op'] [b,c] pos) (MC (SO r r' ta tb tc)):=by
 intro pins s σ H Q I h
 refine isTrue_chain (thn (ha pins s σ H _ I h) fun v s1 ⟨x,H1,I1,r1,q1⟩=>test_link (thn (hb pins s1 σ H1 _ I1 q1) fun u s2 ⟨y,H2,I2,r2,q2⟩=>
  thn (ho pins s2 σ H2 x y v u _ I2 r1 r2 q2) fun d s3 ⟨z,H3,I3,r3,k,e,q3⟩=>?_)) hm
 subst e
 cases r3
 refine rH ?_
 cases k with
 | false=>
  obtain⟨k',e',q'⟩:=q3
  cases e'
  exact ite_ff ⟨H3,I3,q'⟩
 | true=>
  refine ite_tt (test_last (thn (hc pins s3 σ H3 _ I3 q3) fun w' s4 ⟨z',H4,I4,r4,q4⟩=>thn (ho' pins s4 σ H4 y z' u w' _ I4 r2 r4 q4) fun d' s5 gh=>?_))
  obtain⟨z2,H5,I5,r5,k2,e2,q5⟩:=gh
  subst e2
  cases r5
  exact rH ⟨H5,I5,q5⟩
theorem uR:(sizeLine:Nat)<2 ^ 63:=by rw[rL]; decide
theorem Av4:OpR X (jV .Add) (fun x y H Q=>∃ i j,x = .str i/\y = .str j/\i.length+j.length≤sizeLine/\Q (.str (i++j)) H):=by
 intro pins s σ H x y v u Q I rx ry h
 obtain⟨i,j,rfl,rfl,hz,q⟩:=h
 obtain⟨t,rfl⟩:=rx
 obtain⟨t',rfl⟩:=ry
 exact add_str (fun t' tk=>⟨.str (i++j),H,I.tok _,⟨_,rfl⟩,q⟩) hz
theorem vals1 {x:V}{us:List aG}(r:Vals [x] us) : ∃ u,us=[u]/\RelV x u:=by
 cases r with
 | cons r1 r2=>cases r2; exact⟨_,rfl,r1⟩
theorem vals2 {x y:V}{us:List aG}(r:Vals [x,y] us) : ∃ u w',us=[u,w']/\RelV x u/\RelV y w':=by
 cases r with
 | cons r1 r2=>
  cases r2 with
  | cons r3 r4=>cases r4; exact⟨_,_,rfl,r1,r3⟩
theorem Sd (hc:X.calm=true):Ae3 X (.builtin "max") (fun xs H Q=>∃ i j,xs=[.int i,.int j]/\Q (.int (if j > i then j else i)) H):=by
 intro pins s σ H xs us Q I r h
 obtain⟨i,j,rfl,q⟩:=h
 obtain⟨u,w',rfl,⟨t,rfl⟩,⟨t',rfl⟩⟩:=vals2 r
 refine max_two_ints (I.ok.hd hc) fun h' tk k=>⟨_,H,I.kept k,?_,q⟩
 by_cases hj:j > i
 ·rw[if_pos hj,if_pos hj]; exact⟨_,rfl⟩
 ·rw[if_neg hj,if_neg hj]; exact⟨_,rfl⟩
theorem Fj (hc:X.calm=true):Ae3 X (.builtin "min") (fun xs H Q=>∃ i j,xs=[.int i,.int j]/\Q (.int (if j<i then j else i)) H):=by
 intro pins s σ H xs us Q I r h
 obtain⟨i,j,rfl,q⟩:=h
 obtain⟨u,w',rfl,⟨t,rfl⟩,⟨t',rfl⟩⟩:=vals2 r
 refine min_two_ints (I.ok.hd hc) fun h' tk k=>⟨_,H,I.kept k,?_,q⟩
 by_cases hj:j<i
 ·rw[if_pos hj,if_pos hj]; exact⟨_,rfl⟩
 ·rw[if_neg hj,if_neg hj]; exact⟨_,rfl⟩
theorem Ec:Ae3 X (.type "int") (fun xs H Q=>(∃ i,xs=[.int i]/\Q (.int i) H) \/ ∃ k,xs=[.bl k]/\Q (.int (if k then 1 else 0)) H):=by
 intro pins s σ H xs us Q I r h
 rcases h with⟨i,rfl,q⟩ | ⟨k,rfl,q⟩
 ·obtain⟨u,rfl,t,rfl⟩:=vals1 r
  exact call_int_int ⟨.int i,H,I,⟨_,rfl⟩,q⟩
 ·obtain⟨u,rfl,r1⟩:=vals1 r
  cases r1
  exact call_int_bool ⟨.int (if k then 1 else 0),H,I.tok _,⟨_,rfl⟩,q⟩
end
structure ObjM (h:bG)(x dx C:aD)(mA:aE->Option aG):Prop where
 obj:h.get? x=some (UR C dx)
 ns:h.Ns1 dx mA
 ne:dx≠x
theorem Cw {h:bG}{dx:aD}{mA:aE->Option aG}(n:h.Ns1 dx mA) : ∃ od,h.get? dx=some od /\ ∀ name,UO name od=some (mA name):=by
 obtain⟨o,es,ep,ho,hd,hk,_,hm⟩:=n
 refine⟨o,ho,fun name=>?_⟩
 have e:=hm name
 unfold nsFind findBy at e
 rw[← Array.find?_toList] at e
 unfold UO
 rw[hd]
 dsimp only
 split
 ·rename_i y q
  rw[q] at e
  exact congrArg some e
 ·rename_i q
  rw[q] at e
  have a:es.toList.any (·.refKey)=false:=by
   rw[List.any_eq_false]
   intro y hy
   obtain⟨z,t,hkey⟩:=hk y (Array.mem_toList_iff.mp hy)
   simp[DictEntry.refKey,hkey]
  have a' : ¬ es.toList.any (·.refKey)=true:=by rw[a]; exact mV
  rw[if_neg a']
  exact congrArg some e
theorem ObjM.look {h:bG}{x dx C:aD}{mA:aE->Option aG}(I:ObjM h x dx C mA) : ∃ od,PySem.W.InstAt h x (UR C dx) C (some od) /\ ∀ name,UO name od=some (mA name):=
 let ⟨od,ho,hl⟩:=Cw I.ns
 ⟨od,⟨I.obj,rfl,rfl,ho⟩,hl⟩
theorem Au8.some_of {v:V}{o:Option aG}(r:Au8 (some v) o) : ∃ u,o=some u/\RelV v u:=by
 cases o with
 | none=>exact(show False from r).elim
 | some u=>exact⟨u,rfl,r⟩
section
variable {P:cL}{w:cA}{H H':Hp}{h h':bG}{a C dx:aD}{fs fs':List (aE×V)}
theorem Mm (hok:HOk P w H h)(e:H a=some (.ins C dx fs)) : ∃ mA,ObjM h a dx C mA/\(∀ f,Au8 (fs.lookup f) (mA f))/\PySem.Within mA (fs.map (·.1))/\fs.length≤1000/\H dx=some (.own a):=by
 obtain⟨d,z,ne,ob,mA,n,r,q⟩:=(show Ady P w H h a (.ins C dx fs) from hok a _ e)
 exact⟨mA,⟨ob,n,ne⟩,r,q,z,d⟩
end
structure Cls (K:aP)(C:aD):Prop where
 pg:PySem.W.plainGet K C Str.empty=true
 hd:PySem.W.hasDictIn K C=true
 po:PySem.W.plainOver K C=true
 sa:PySem.W.findIn K (.ref C) "__setattr__" = some (some (.builtin "object.__setattr__"))
theorem Cls.get {K:aP}{C:aD}(c:Cls K C)(f:aE):PySem.W.plainGet K C f=true:=c.pg
section
variable {X:Cx}{pins:List (aD×bP)}{σ:St}{H:Hp}{s:aL}{A:eD}{E:aG->aL->Prop}{Q:aG->aL->Prop}{c:aG}{b:Bool}
inductive TyOf (K:aP)(H:Hp):V->aG->Prop where
 | non:TyOf K H .non (.type "NoneType")
 | bl (x:Bool):TyOf K H (.bl x) (.type "bool")
 | int (i:Int):TyOf K H (.int i) (.type "int")
 | str (x:aE):TyOf K H (.str x) (.type "str")
 | flt (x:UInt64):TyOf K H (.flt x) (.type "float")
 | lst {a:aD} {xs:List V} (e:H a=some (.lst xs)):TyOf K H (.ref a) (.type "list")
 | frz {a:aD} {o:bP} {xs:List V} (e:H a=some (.frz o (.lst xs))):TyOf K H (.ref a) (.type "list")
 | tup {a:aD} {xs:List V} (e:H a=some (.tup xs)):TyOf K H (.ref a) (.type "tuple")
 | dK {a:aD} {ep:Nat} {kvs:List (aK×V)} (e:H a=some (.dK ep kvs)):TyOf K H (.ref a) (.type "dict")
 | dT {a:aD} {kvs:List (List aA×V)} (e:H a=some (.dT kvs)):TyOf K H (.ref a) (.type "dict")
 | ins {a C dx:aD} {fs:List (aE×V)} (e:H a=some (.ins C dx fs)) (cl:Cls K C) (ha:PySem.W.findIn K (.ref C) "__class__" = some (some (.builtin "object.__class__")))
   (hn:PySem.W.specialIn K (.builtin "object.__class__") "__get__" = some (some (.builtin "getset_descriptor.__get__"))) (htk:PySem.W.takesIn K (.builtin "object.__class__")=some true)
   (hm:PySem.W.mroIn K C (.type "object")=some true):TyOf K H (.ref a) (.ref C)
theorem Fi {x:V}{u t:aG}(I:Inv X pins σ H s)(rx:RelV x u)(ty:TyOf X.K H x t)(e:UQ X.K t c=some b)(h : ∀ tk,Q (.bool b) { s with toks:=tk }) :
  aO (bC X.prog X.w) A (call (.builtin "isinstance") [u,c]) Q E s:=by
 cases ty with
 | non=>cases(show u=jJ from rx); exact nW PySem.W.kitx_none I.kIn nU e (fun z=>nomatch z) h
 | bl y=>cases(show u=Value.bool y from rx); exact nW PySem.W.kitx_bool I.kIn nU e (fun z=>nomatch z) h
 | int i=>obtain⟨t,q⟩:=(show ∃ t,u=DM i t from rx); cases q; exact nW PySem.W.kitx_int I.kIn nU e (fun z=>nomatch z) h
 | str y=>obtain⟨t,q⟩:=(show ∃ t,u=Value.str y t from rx); cases q; exact nW PySem.W.kitx_str I.kIn nU e (fun z=>nomatch z) h
 | flt y=>obtain⟨t,q⟩:=(show ∃ t,u=Value.float y t from rx); cases q; exact nW PySem.W.kitx_float I.kIn nU e (fun z=>nomatch z) h
 | @lst a xs ea=>
  cases(show u=fZ a from rx)
  obtain⟨_,_,n,_,h1⟩:=(show Ady X.prog X.w H s.heap a (.lst xs) from I.hok a _ ea)
  exact nW UP I.kIn ⟨_,h1,rfl⟩ e (fun z=>nomatch z) h
 | @frz a ob xs ea=>
  cases(show u=fZ a from rx)
  obtain⟨_,_,_,n,_,h1⟩:=(show Ady X.prog X.w H s.heap a (.frz ob (.lst xs)) from I.hok a _ ea)
  exact nW UP I.kIn ⟨_,h1,rfl⟩ e (fun z=>nomatch z) h
 | @tup a xs ea=>
  cases(show u=fZ a from rx)
  obtain⟨_,_,_,p⟩:=(show Ady X.prog X.w H s.heap a (.tup xs) from I.hok a _ ea)
  obtain⟨o,h1,h2,_⟩:=p.1
  exact nW PySem.W.kitx_tuple I.kIn ⟨o,h1,h2⟩ e (fun z=>nomatch z) h
 | @dK a ep kvs ea=>
  cases(show u=fZ a from rx)
  obtain⟨_,_,vs,_,p⟩:=(show Ady X.prog X.w H s.heap a (.dK ep kvs) from I.hok a _ ea)
  obtain⟨o,es,h1,h2,_⟩:=p
  exact nW PySem.W.kitx_dict I.kIn ⟨o,h1,h2.1⟩ e (fun z=>nomatch z) h
 | @dT a kvs ea=>
  cases(show u=fZ a from rx)
  obtain⟨_,_,xs,_,o,es,ep,h1,h2,_⟩:=(show Ady X.prog X.w H s.heap a (.dT kvs) from I.hok a _ ea)
  exact nW PySem.W.kitx_dict I.kIn ⟨o,h1,h2.1⟩ e (fun z=>nomatch z) h
 | @ins a C dx fs ea cl ha hn htk hm=>
  cases(show u=fZ a from rx)
  obtain⟨mA,O,_⟩:=Mm I.hok ea
  obtain⟨od,J,_⟩:=O.look
  exact nW (PySem.W.kitx_own (cl.get _) cl.hd ha hn htk hm) I.kIn J e (fun z=>nomatch z) h
end
structure Room (k:Nat)(A:eD):Prop where
 hd:A.handled=none
 dp:A.depth+3*k+5<recursionLimit
 un:A.units+16*k+200<cLine
theorem Room.mono {j k:Nat}{A:eD}(r:Room k A)(h:j≤k):Room j A:=⟨r.hd,by have:=r.dp; omega,by have:=r.un; omega⟩
theorem Room.deeper {k:Nat}{A:eD}(r:Room (k+1) A)(env:Env):Room k (A.deeper env):=
 ⟨r.hd,by have:=r.dp; show A.depth+1+3*k+5<_; omega,by have:=r.un; show A.units+3+16*k+200<_; omega⟩
theorem Room.depth {k:Nat}{A:eD}(r:Room k A):A.depth<recursionLimit:=by have:=r.dp; omega
theorem Room.units {k:Nat}{A:eD}(r:Room k A):A.units+64<cLine:=by have:=r.un; omega
noncomputable abbrev WG:TA:=fun _ H Q=>Q [] H
noncomputable abbrev XU (ta:TE)(tr:TA):TA:=fun σ H Q=>ta σ H fun x H1=>tr σ H1 fun xs H2=>Q (x::xs) H2
section
variable {X:Cx}{e:bA}{es:List bA}{te:TE}{t:TA}{pos:cD}
theorem kU:PA X [] WG:=fun _ _ _ _ H Q I h=>VS ⟨[],H,I,.nil,h⟩
theorem iI (ha:PE X e te)(hr:PA X es t)(hs:bL (e::es) X.env=(false,bX e X.env)::bL es X.env:=by rfl):PA X (e::es) (XU te t):=by
 intro pos pins s σ H Q I h
 rw[hs]
 show aO _ _ (spliced ((false,bX e X.env)::fY pos (bL es X.env))) _ _ s
 refine KS (thn (ha pins s σ H _ I h) fun u s1 gh=>?_)
 obtain⟨x,H1,I1,r1,q1⟩:=gh
 exact thn (hr pos pins s1 σ H1 _ I1 q1) fun us s2 ⟨xs,H2,I2,r2,q2⟩=>⟨x::xs,H2,I2,.cons r1 r2,q2⟩
noncomputable def WD (t:TA):TE:=fun σ H Q=>t σ H fun xs H1=>xs.length≤sizeLine /\ ∀ p,H1 p=none->Q (.ref p) (upd H1 p (.tup xs))
noncomputable def XM (t:TA):TE:=fun σ H Q=>t σ H fun xs H1=>xs.length≤sizeLine /\ ∀ p,H1 p=none->Q (.ref p) (upd H1 p (.lst xs))
theorem FB {x1}(h:PA X es t):PE X (.Tuple es x1 pos) (WD t):=by
 intro pins s σ H Q I hq
 refine wpAny_Tuple_spliced (thn (h pos pins s σ H _ I hq) fun us s1 ⟨xs,H1,I1,r,z,q⟩=>⟨by rw[← r.length]; exact z,?_⟩)
 have hf:H1 s1.heap.objs.size=none:=I1.hok.fresh (dA _)
 refine⟨.ref s1.heap.objs.size,upd H1 s1.heap.objs.size (.tup xs),I1.laid (t':=s1.toks) (fun b u e=>cY _ e) (dA _) ?_,rfl,q _ hf⟩
 exact⟨z,us,r,⟨_,eW _ rfl,rfl,_,rfl⟩,_,eW _ rfl,rfl⟩
theorem ZQ (h:PA X es t):PE X (.List es pos) (XM t):=by
 intro pins s σ H Q I hq
 refine wpAny_List_spliced (thn (h pos pins s σ H _ I hq) fun us s1 ⟨xs,H1,I1,r,z,q⟩=>⟨by rw[← r.length]; exact z,?_⟩)
 have hf:H1 s1.heap.objs.size=none:=I1.hok.fresh (dA _)
 refine⟨.ref s1.heap.objs.size,upd H1 s1.heap.objs.size (.lst xs),I1.laid (t':=s1.toks) (fun b u e=>cY _ e) (dA _) ?_,rfl,q _ hf⟩
 exact⟨z,us,0,r,eW _ rfl⟩
end
abbrev Sp:=List V->Hp->VK->XK->Prop
abbrev CXT:=List Env->Hp->aL->XK->aG->aL->Prop
structure Env0 (P:cL)(w:cA)(K:aP)(mg:aE->Option aG)(base:bG)(A:eD)(outer:List Env)(s:aL)(H:Hp):Prop where
 frames:A.frames=some outer
 mod:Mod K mg base
 bs : ∀ b o,base.get? b=some o->s.heap.get? b=some o/\H b=none
 bsz:base.objs.size≤s.heap.objs.size
 funs:s.heap.FunFrames base outer
 frf : ∀ b∈frs outer,H b=none
 hok:HOk P w H s.heap
 bare:rV s.gens
def CE (outer:List Env)(P:cL)(w:cA)(H:Hp)(s:aL)(Q:VK)(u:aG)(s':aL):Prop:=
 ∃ v H',s'.os=s.os/\rV s'.gens/\Un (frs outer) [] H H' s.heap s'.heap/\HOk P w H' s'.heap/\RelV v u/\Q v H'
def CR (CX:CXT)(outer:List Env)(P:cL)(w:cA)(H:Hp)(s:aL)(Q:VK)(E:XK)(r:Result)(s':aL):Prop:=
 match r with
 | .ok (.ret u)=>CE outer P w H s Q u s'
 | .ok _=>False
 | .error e=>CX outer H s E e s'
structure FnOk (P:cL)(w:cA)(K:aP)(mg:aE->Option aG)(base:bG)(CX:CXT)(k:Nat)(f:aD)(fd:iA)(ps:List aE)(sp:Sp):Prop where
 len : ∀ vs H Q E,sp vs H Q E->vs.length=ps.length
 run : ∀ (A:eD) (outer:List Env) (s:aL) (H:Hp) (args:Args) (us:List aG) (vs:List V) (Q:VK) (E:XK),Room k A->Env0 P w K mg base A outer s H->BindsTo s fd args (ps.zip us)->Vals vs us->sp vs H Q E ->
  pR (bC P w) A (.call (.ref f) args) (CR CX outer P w H s Q E) s
theorem FnOk.imp {P:cL}{w:cA}{K:aP}{mg:aE->Option aG}{base:bG}{CX:CXT}{k:Nat}{f:aD}{fd:iA}{ps:List aE}{sp sp':Sp}(F:FnOk P w K mg base CX k f fd ps sp)
  (h : ∀ vs H Q E,sp' vs H Q E->sp vs H Q E):FnOk P w K mg base CX k f fd ps sp':=
 ⟨fun vs H Q E q=>F.len vs H Q E (h _ _ _ _ q),fun A outer s H args us vs Q E hr he hb hv hs=>F.run A outer s H args us vs Q E hr he hb hv (h _ _ _ _ hs)⟩
section
variable {X:Cx}{pins:List (aD×bP)}{σ:St}{H:Hp}{s s':aL}
theorem Inv.env0 (I:Inv X pins σ H s):Env0 X.prog X.w X.K X.mg X.base X.A X.stack s H:=
 ⟨I.ok.frames,I.ok.mod,I.bs,jW I.ok.bsz I.sz,I.stack,I.stkFree,I.hok,I.bare⟩
theorem Inv.after {Q:VK}{u:aG}(I:Inv X pins σ H s)(h:CE X.stack X.prog X.w H s Q u s'):EP X pins σ Q u s':=by
 obtain⟨v,H',os,bare,un,hok,r,q⟩:=h
 obtain⟨hh,g,d,t,os'⟩:=s'
 obtain rfl:os'=s.os:=os
 exact⟨v,H',I.call (h':=hh) (g':=g) (d':=d) (t':=t) (ch:=[]) un hok bare (fun b z=>absurd z (by simp)),r,q⟩
end
noncomputable def MH (sp:Sp)(dvs:List V)(E:XK)(t:TA):TE:=fun σ H Q=>t σ H fun vs H1=>sp (vs++dvs) H1 Q E
def Binds (K:aP)(fd:iA)(ps:List aE)(ds:List aG):Prop:=
 ∀ (s:aL) (us:List aG),K.In s.heap->(us++ds).length=ps.length->BindsTo s fd ⟨us,[]⟩ (ps.zip (us++ds))
theorem Binds.all {K:aP}{fd:iA}{ps:List aE}(h : ∀ us:List aG,us.length=ps.length->wF fd ⟨us,[]⟩=pure (ps.zip us)):Binds K fd ps []:=fun s us _ hl=>by
 rw[AC] at hl ⊢
 exact .of_eq (h us hl)
def Passes (CX:CXT)(X:Cx)(E:XK):Prop:=∀ (pins:List (aD×bP)) (σ:St) (H:Hp) (s:aL) (e:aG) (s':aL),Inv X pins σ H s->CX X.stack H s E e s'->X.xe e s'
section
variable {X:Cx}{CX:CXT}{k:Nat}{f C:aD}{fd:iA}{ps:List aE}{sp:Sp}{dvs:List V}{ds:List aG}{E:XK}{x m:aE}{p pos apos:cD}{e o:bA}{es:List bA}{ta:TE}{t:TA}
theorem Az {pins:List (aD×bP)}{σ:St}{H:Hp}{s:aL}{Q:VK}{us:List aG}{vs:List V}(F:FnOk X.prog X.w X.K X.mg X.base CX k f fd ps sp)(hr:Room k X.A)(hb:Binds X.K fd ps ds)(hd:Vals dvs ds)(hx:Passes CX X E)
  (I:Inv X pins σ H s) (r:Vals vs us) (h:sp (vs++dvs) H Q E):aO (bC X.prog X.w) X.A (call (.ref f) us) (EP X pins σ Q) X.xe s:=by
 have r2:Vals (vs++dvs) (us++ds):=r.append hd
 have hl:(us++ds).length=ps.length:=by rw[← r2.length]; exact F.len _ _ _ _ h
 refine wpAny_call (JM (F.run X.A X.stack s H ⟨us,[]⟩ (us++ds) (vs++dvs) Q E hr I.env0 (hb s us I.kIn hl) r2 h) fun r s' hq=>?_)
 cases r with
 | error e=>exact hx pins σ H s e s' I hq
 | ok fl=>
  cases fl with
  | ret u=>exact I.after hq
  | next=>exact qC hq
  | brk=>exact qC hq
  | cont=>exact qC hq
theorem Lu (F:FnOk X.prog X.w X.K X.mg X.base CX k f fd ps sp)(hr:Room k X.A)(hg:Gl X x)(hm:X.mg x=some (.ref f))(hk:tT X.K (.ref f)=true)(hb:Binds X.K fd ps ds)(hd:Vals dvs ds)(hx:Passes CX X E)
  (ha:PA X (e::es) t) (hdb:(x == ("__debug__" : aE))=false:=by decide) (he:bL (e::es) X.env=(false,bX e X.env)::bL es X.env:=by rfl) (hpl:(fY pos (bL es X.env)).any (·.1)=false:=by rfl) :
  PE X (.Call (.Name x p) (e::es) [] pos) (MH sp dvs E t):=by
 intro pins s σ H Q I h
 refine UL (UH I hg hm ?_ hdb)
 refine PySem.W.callWith_K (h₀:=X.base) I.ok.mod.kin hk (thn (ha pos pins s σ H _ I h) fun us s1 ⟨vs,H1,I1,r,q⟩=>⟨I1.kIn,?_⟩) he hpl
 exact Az F hr hb hd hx I1 r q
end
structure FnScope (N P:List aE)(sc:iY):Prop where
 kind:sc.kind = .function
 co:sc.isCoroutine=false
 gen:sc.isGenerator=false
 nd:N.Nodup
 pre:N.take P.length=P
 par : ∀ x∈P,sc.names.lookup x=some .local \/ sc.names.lookup x=some .cell
 nofree : ∀ y∈sc.names,y.2 ≠ .free
theorem QI {kindOf:aE->Option mT}{x:aE} : ∀ {binds:List (aE×aG)} {m:aE->Option aG},(∀ v,(x,v)∉binds)->bindL kindOf binds m x=m x
 | [],_,_=>rfl
 | (n,v)::r,m,h=>by
  unfold bindL
  rw[QI fun w hw=>h w (eR _ hw)]
  split
  ·have:x≠n:=by rintro rfl; exact h v dF
   simp[this]
  ·rfl
theorem PP {kindOf:aE->Option mT}{x:aE} : ∀ {binds:List (aE×aG)} {m:aE->Option aG},(∀ v,(x,v)∉binds)->bindC kindOf binds m x=m x
 | [],_,_=>rfl
 | (n,v)::r,m,h=>by
  unfold bindC
  rw[PP fun w hw=>h w (eR _ hw)]
  split
  ·rfl
  ·have:x≠n:=by rintro rfl; exact h v dF
   simp[this]
theorem QD {kindOf:aE->Option mT}{x:aE}{v:aG} : ∀ {P:List aE} {vs:List aG} {i:Nat} {m:aE->Option aG},P.Nodup->P[i]?=some x->vs[i]?=some v->kindOf x=some .local ->
  bindL kindOf (P.zip vs) m x=some v
 | [],_,_,_,_,h,_,_=>by simp at h
 | _::_,[],_,_,_,_,h,_=>by simp at h
 | p::P,w::vs,0,m,nd,h1,h2,hk=>by
  simp at h1 h2; subst h1; subst h2
  show bindL kindOf ((p,w)::P.zip vs) m p=_
  unfold bindL
  rw[QI fun v hv=>(mE.mp nd).1 (AA hv).1,if_pos hk]
  simp
 | p::P,w::vs,i+1,m,nd,h1,h2,hk=>by
  show bindL kindOf ((p,w)::P.zip vs) m x=_
  unfold bindL
  exact QD (i:=i) (mE.mp nd).2 (by simpa using h1) (by simpa using h2) hk
theorem PX {kindOf:aE->Option mT}{x:aE}{v:aG} : ∀ {P:List aE} {vs:List aG} {i:Nat} {m:aE->Option aG},P.Nodup->P[i]?=some x->vs[i]?=some v->kindOf x≠some .local ->
  bindC kindOf (P.zip vs) m x=some v
 | [],_,_,_,_,h,_,_=>by simp at h
 | _::_,[],_,_,_,_,h,_=>by simp at h
 | p::P,w::vs,0,m,nd,h1,h2,hk=>by
  simp at h1 h2; subst h1; subst h2
  show bindC kindOf ((p,w)::P.zip vs) m p=_
  unfold bindC
  rw[PP fun v hv=>(mE.mp nd).1 (AA hv).1,if_neg hk]
  simp
 | p::P,w::vs,i+1,m,nd,h1,h2,hk=>by
  show bindC kindOf ((p,w)::P.zip vs) m x=_
  unfold bindC
  exact PX (i:=i) (mE.mp nd).2 (by simpa using h1) (by simpa using h2) hk
noncomputable def start (N:List aE)(vs:List V):St:=vs.map some++fR (N.length - vs.length) none
noncomputable def tJ (CX:CXT)(P:cL)(w:cA)(K:aP)(mg:aE->Option aG)(base:bG)(N:List aE)(qual:aE)(scope:iY)(f:aD)(cd:aG)(A:eD)(outer:List Env)(s:aL)(H:Hp)(E:XK):Cx where
 prog:=P
 w:=w
 K:=K
 mg:=mg
 base:=base
 A:=A.deeper (pQ qual scope s.heap.objs.size f cd)
 N:=N
 s₀:=s
 H₀:=H
 env:=pQ qual scope s.heap.objs.size f cd
 outer:=outer
 stack:=pQ qual scope s.heap.objs.size f cd::outer
 ex:=[]
 calm:=true
 fn:=fun _=>true
 pn:=[]
 xe:=fun e s'=>aO (bC P w) (A.deeper (pQ qual scope s.heap.objs.size f cd)) (leaving (pQ qual scope s.heap.objs.size f cd) e) (fun _ s''=>CX outer H s E e s'') (fun e' s''=>CX outer H s E e' s'') s'
theorem NQ {sc:iY}{n:Nat}{x:aE}(h:sc.names.lookup x=some .cell) : ∃ c,(cellsFrom n sc.names []).lookup x=some c:=by
 have q:=PySem.W.cellsFrom_some sc.names n [] (.inl h)
 exact Ss.mp q
theorem Eo {CX:CXT}{P:cL}{w:cA}{K:aP}{mg:aE->Option aG}{base:bG}{N ps:List aE}{qual:aE}{scope:iY}{f:aD}{cd:aG}{A:eD}{outer:List Env}{s s1:aL}{H:Hp}{E:XK}{us:List aG}{vs:List V}
  (S:FnScope N ps scope) (hd:A.handled=none) (e0:Env0 P w K mg base A outer s H) (hl:vs.length=ps.length) (r:Vals vs us)
  (x:InCallC s s.heap.objs.size (bindL (pQ qual scope s.heap.objs.size f cd).kindOf (ps.zip us) fun _=>none) (cellsFrom (s.heap.objs.size+1) scope.names []) (bindC (pQ qual scope s.heap.objs.size f cd).kindOf (ps.zip us) fun _=>none) s1) :
  Inv (tJ CX P w K mg base N qual scope f cd A outer s H E) [] (start N vs) H s1:=by
 have hpl:ps.length≤N.length:=by have:=congrArg List.length S.pre; rw[wK] at this; omega
 obtain⟨h1,tk,rfl,hk⟩:=x.done
 have noA : ∀ b:aD,b∉(tJ CX P w K mg base N qual scope f cd A outer s H E).ex:=fun b z=>absurd (show b∈([]:List aD) from z) (by simp)
 refine⟨⟨e0.mod,S.kind,rfl,rfl,dA _,fun y z c h1 h2=>?_,fun y hy=>?_,fun y c _ h=>?_,fun _=>hd,Around.frames_deeper e0.frames,.inr ⟨rfl,rfl⟩,fun b z=>absurd z (noA b),e0.bs,e0.bsz,fun b _ _=>noA b,fun b z=>absurd z (noA b),e0.funs,e0.frf⟩,
  rfl,e0.bare,Un.kept hk,⟨_,x.toInCall.ns,fun i y v h1 h2 h3=>?_⟩,fun y c h=>⟨_,x.cell y c h⟩,e0.hok.fresh (dA _),fun y c h=>?_,fun p hp=>absurd (show p∈([]:List (aD×bP)) from hp) (by simp),e0.hok.kept hk,?_⟩
 ·exact name_of_addr x.apart (DN h1) (DN h2)
 ·have hy:scope.names.lookup y=some .cell \/ scope.names.lookup y=some .free:=hy
  rcases hy with hy | hy
  ·exact NQ hy
  ·exact absurd rfl (S.nofree _ (DN hy))
 ·exact DX (x.above y c (DN h))
 ·have hi:i<vs.length:=by
   unfold start at h2
   by_cases hi:i<vs.length
   ·exact hi
   ·rw[VH (by simpa using hi)] at h2
    rw[Su] at h2
    split at h2 <;> cases h2
  have ha:vs[i]?=some v:=by
   unfold start at h2
   rw[KD (by simpa using hi),gN] at h2
   cases e:vs[i]? with
   | none=>rw[e] at h2; cases h2
   | some a=>rw[e] at h2; cases h2; rfl
  obtain⟨u,hu,rv⟩:=r.get ha
  have hp:ps[i]?=some y:=by
   rw[← S.pre,List.getElem?_take_of_lt (by omega)]; exact h1
  have ndP:ps.Nodup:=by rw[← S.pre]; exact S.nd.sublist (List.take_sublist _ _)
  refine⟨u,rv,?_⟩
  rcases S.par y (mU hp) with k | k
  ·exact .inl ⟨k,QD ndP hp hu k⟩
  ·obtain⟨c,e⟩:=NQ (n:=s.heap.objs.size+1) k
   refine .inr ⟨.inl k,c,e,?_⟩
   have q:=x.cell y c e
   rw[PX ndP hp hu (by show scope.names.lookup y≠_; rw[k]; decide)] at q
   exact q
 ·exact e0.hok.fresh (DX (x.above y c (DN h)))
 ·unfold start
  show _=N.length
  rw[pW,gM,List.length_replicate]
  omega
theorem XW {CX:CXT}{P:cL}{w:cA}{K:aP}{mg:aE->Option aG}{base:bG}{k:Nat}{f:aD}{name qual:aE}{params:Arguments}{body:List cG}{scope:iY}{dV kV doc pm cdv ct oc:aG}{an od:Option aD}
  {osl:Array (Option aG)} {N ps:List aE} {sp:Sp} (lk:K.lookup f=some ⟨oc,od,.func (lA name qual params body scope dV kV doc pm an cdv ct),osl⟩) (hcd:zV K cdv qual=true) (S:FnScope N ps scope)
  (len : ∀ vs H Q E,sp vs H Q E->vs.length=ps.length)
  (hbody : ∀ (A:eD) (outer:List Env) (s:aL) (H:Hp) (vs:List V) (Q:VK) (E:XK),Room k (A.deeper (pQ qual scope s.heap.objs.size f cdv))->sp vs H Q E ->
   ∃ t,PSs (tJ CX P w K mg base N qual scope f cdv A outer s H E) body t/\t { nx:=fun _ H'=>Q .non H',rt:=Q } (start N vs) H) :
  FnOk P w K mg base CX (k+1) f (lA name qual params body scope dV kV doc pm an cdv ct) ps sp:=by
 refine⟨len,fun A outer s H args us vs Q E hr e0 hb r hsp=>?_⟩
 have hl:=len _ _ _ _ hsp
 have KX:K.In s.heap:=e0.mod.kin.keeps fun b o e=>(e0.bs b o e).1
 have lim:s.heap.NoLimit:=e0.mod.nolimit.keeps fun b o e=>(e0.bs b o e).1
 have hkind : ∀ y∈ps.zip us,scope.names.lookup y.1=some .local \/ (scope.names.lookup y.1=some .cell/\((cellsFrom (s.heap.objs.size+1) scope.names []).lookup y.1).isSome=true):=fun⟨n,v⟩ hy=>by
  rcases S.par n (AA hy).1 with q | q
  ·exact .inl q
  ·exact .inr ⟨q,PySem.W.cellsFrom_some _ _ _ (.inl q)⟩
 refine codeAny_call_function hr.depth (KX _ _ lk) rfl S.co S.gen rfl (PySem.W.codeRec_of KX hcd) (hb _ _ _ _ ?_)
 refine wpAny_newFunctionEnv_cells S.kind hkind fun env he s1 x=>?_
 subst he
 refine⟨lim.keeps x.toInCall.keep,codeAny_func ?_⟩
 obtain⟨t,ht,hq⟩:=hbody A outer s H vs Q E (hr.deeper _) hsp
 have I:Inv (tJ CX P w K mg base N qual scope f cdv A outer s H E) [] (start N vs) H s1:=Eo S hr.hd e0 hl r x
 refine mC (ht [] s1 (start N vs) H _ I hq) (fun fl s' hs=>?_) fun e s' hs=>hs
 have fin : ∀ {σ':St} {H':Hp} {v:V} {u:aG},Inv (tJ CX P w K mg base N qual scope f cdv A outer s H E) [] σ' H' s'->RelV v u->Q v H'->CE outer P w H s Q u s':=
  fun {σ' H' v u} J rv q=>⟨v,H',J.os,J.bare,J.base,J.hok,rv,q⟩
 cases fl with
 | ret u=>
  obtain⟨v,σ',H',J,rv,q⟩:=hs
  exact fin J rv q
 | next=>
  obtain⟨σ',H',J,q⟩:=hs
  exact fin (v:=V.non) (u:=jJ) J rfl q
 | brk=>
  obtain⟨_,_,_,q⟩:=hs
  exact qC q
 | cont=>
  obtain⟨_,_,_,q⟩:=hs
  exact qC q
section
variable {X:Cx}{x:aE}{p pos:cD}{e:bA}{es:List bA}{t:TA}{id T:String}{r:List V->Hp->VK->Prop}
noncomputable def tCB (r:List V->Hp->VK->Prop)(t:TA):TE:=fun σ H Q=>t σ H fun vs H1=>r vs H1 Q
theorem OS (hc:Ae3 X (.builtin id) r)(hg:Gl X x)(hm:X.mg x=none)(hv:mQ x=some (.builtin id))(ha:PA X (e::es) t)(hn:x ≠ "__name__":=by decide)(hdb:(x == ("__debug__" : aE))=false:=by decide)
  (he:bL (e::es) X.env=(false,bX e X.env)::bL es X.env:=by rfl) (hpl:(fY pos (bL es X.env)).any (·.1)=false:=by rfl):PE X (.Call (.Name x p) (e::es) [] pos) (tCB r t):=by
 intro pins s σ H Q I h
 refine UL (qJ I hg hm hv ?_ hn hdb)
 exact PyProof.Rows.callWith_builtin1 (thn (ha pos pins s σ H _ I h) fun us s1 ⟨vs,H1,I1,r1,q1⟩=>hc pins s1 σ H1 vs us Q I1 r1 q1) he hpl
theorem CC (hc:Ae3 X (.type T) r)(hg:Gl X x)(hm:X.mg x=none)(hv:mQ x=some (.type T))(ha:PA X (e::es) t)(hn:x ≠ "__name__":=by decide)(hdb:(x == ("__debug__" : aE))=false:=by decide)
  (he:bL (e::es) X.env=(false,bX e X.env)::bL es X.env:=by rfl) (hpl:(fY pos (bL es X.env)).any (·.1)=false:=by rfl):PE X (.Call (.Name x p) (e::es) [] pos) (tCB r t):=by
 intro pins s σ H Q I h
 refine UL (qJ I hg hm hv ?_ hn hdb)
 exact zX (thn (ha pos pins s σ H _ I h) fun us s1 ⟨vs,H1,I1,r1,q1⟩=>hc pins s1 σ H1 vs us Q I1 r1 q1) he hpl
end
section
variable {κ:Type}[DecidableEq κ]
noncomputable def gX (kvs:List (κ×V))(k:κ):Option V:=(kvs.find? fun kv=>decide (kv.1=k)).map (·.2)
noncomputable def putK (kvs:List (κ×V))(k:κ)(v:V):List (κ×V):=
 if (kvs.any fun kv=>decide (kv.1=k))=true then kvs.map (fun kv=>if kv.1=k then(kv.1,v) else kv) else kvs++[(k,v)]
theorem yB {p:κ×V}{r:List (κ×V)}{k:κ}(e:p.1=k):gX (p::r) k=some p.2:=by simp[gX,jX,e]
theorem yA {p:κ×V}{r:List (κ×V)}{k:κ}(e : ¬ p.1=k):gX (p::r) k=gX r k:=by simp[gX,jX,e]
theorem ON (k:κ) : ∀ kvs:List (κ×V),(kvs.any fun kv=>decide (kv.1=k))=(gX kvs k).isSome
 | []=>rfl
 | p::r=>by
  rw[EG]
  by_cases e:p.1=k
  ·simp only[yB e,decide_eq_true e,LB,Option.isSome_some]
  ·rw[yA e,decide_eq_false e,Bool.false_or]; exact ON k r
theorem CJ (kvs:List (κ×V))(k:κ)(v:V):(putK kvs k v).length≤kvs.length+1:=by
 unfold putK
 split
 ·rw[gM]; omega
 ·rw[pW,mF,VF]; omega
theorem Au8.isSome_eq {o:Option V}{u:Option aG}(r:Au8 o u):o.isSome=u.isSome:=by
 cases o with
 | none=>cases u with
  | none=>rfl
  | some _=>exact(show False from r).elim
 | some _=>cases u with
  | none=>exact(show False from r).elim
  | some _=>rfl
theorem Au8.getD {o:Option V}{u:Option aG}{d:V}{d':aG}(r:Au8 o u)(rd:RelV d d'):RelV (o.getD d) (u.getD d'):=by
 cases o with
 | none=>cases u with
  | none=>exact rd
  | some _=>exact(show False from r).elim
 | some _=>cases u with
  | none=>exact(show False from r).elim
  | some _=>exact r
theorem KV.val {kvs:List (κ×V)}{vs:List (κ×aG)}(r:KV kvs vs)(k:κ):Au8 (gX kvs k) (tO vs k):=by
 unfold KV at r
 induction r with
 | nil=>exact nU
 | @cons p q ps qs h t ih=>
  obtain⟨h1,h2⟩:=h
  by_cases e:p.1=k
  ·have e':q.1=k:=h1.symm.trans e
   have b:tO (q::qs) k=some q.2:=by simp[tO,jX,e']
   rw[yB e,b]; exact h2
  ·have e' : ¬ q.1=k:=fun z=>e (h1.trans z)
   have b:tO (q::qs) k=tO qs k:=by simp[tO,jX,e']
   rw[yA e,b]; exact ih
theorem KV.any {kvs:List (κ×V)}{vs:List (κ×aG)}(r:KV kvs vs)(k:κ):(kvs.any fun kv=>decide (kv.1=k))=vs.any fun kv=>decide (kv.1=k):=by
 unfold KV at r
 induction r with
 | nil=>rfl
 | cons h t ih=>rw[EG,EG,ih,h.1]
theorem KV.repl {kvs:List (κ×V)}{vs:List (κ×aG)}(r:KV kvs vs)(k:κ){y:V}{u:aG}(ry:RelV y u) :
  KV (kvs.map fun kv=>if kv.1=k then(kv.1,y) else kv) (vs.map fun kv=>if kv.1=k then(kv.1,u) else kv):=by
 unfold KV at r ⊢
 induction r with
 | nil=>exact .nil
 | @cons p q ps qs h t ih=>
  rw[fS,fS]
  refine .cons ?_ ih
  obtain⟨h1,h2⟩:=h
  by_cases e:p.1=k
  ·rw[if_pos e,if_pos (h1.symm.trans e)]; exact⟨h1,ry⟩
  ·rw[if_neg e,if_neg (fun z=>e (h1.trans z))]; exact⟨h1,h2⟩
theorem KV.put {kvs:List (κ×V)}{vs:List (κ×aG)}(r:KV kvs vs)(k:κ){y:V}{u:aG}(ry:RelV y u):KV (putK kvs k y) (rK vs k u):=by
 unfold putK rK
 rw[r.any k]
 by_cases e:(vs.any fun kv=>decide (kv.1=k))=true
 ·rw[if_pos e,if_pos e]; exact r.repl k ry
 ·rw[if_neg e,if_neg e]; exact Paired.snoc r ⟨rfl,ry⟩
theorem KV.length {kvs:List (κ×V)}{vs:List (κ×aG)}(r:KV kvs vs):kvs.length=vs.length:=pT r
end
theorem oD {P:cL}{w:cA}{k:aK}{u:aG}(r:RelV (kV k) u):(fI P w).is k u=true:=by
 cases k with
 | inl i=>obtain⟨t,e⟩:=(show ∃ t,u=DM i t from r); subst e; exact Hg P w i t
 | inr x=>obtain⟨t,e⟩:=(show ∃ t,u=Value.str x t from r); subst e; exact Il P w x t
abbrev KT (H:Hp):List (List aA×V)->List (List aA×aD×aG)->Prop:=gV fun p q=>p.1=q.1/\Aop H p.1 q.2.1/\RelV p.2 q.2.2
theorem KT.val {H:Hp}{kvs:List (List aA×V)}{xs:List (List aA×aD×aG)}(r:KT H kvs xs)(k:List aA):Au8 (gX kvs k) ((atKey xs k).map (·.2)):=by
 induction r with
 | nil=>exact nU
 | @cons p q ps qs h t ih=>
  obtain⟨h1,_,h2⟩:=h
  by_cases e:p.1=k
  ·have e':q.1=k:=h1.symm.trans e
   have b:atKey (q::qs) k=some q.2:=by simp[atKey,jX,e']
   rw[yB e,b]; exact h2
  ·have e' : ¬ q.1=k:=fun z=>e (h1.trans z)
   have b:atKey (q::qs) k=atKey qs k:=by simp[atKey,jX,e']
   rw[yA e,b]; exact ih
theorem KT.repl {H:Hp}{kvs:List (List aA×V)}{xs:List (List aA×aD×aG)}(r:KT H kvs xs)(k:List aA){y:V}{u:aG}(ry:RelV y u) :
  KT H (kvs.map fun kv=>if kv.1=k then(kv.1,y) else kv) (xs.map (putAt k u)):=by
 induction r with
 | nil=>exact .nil
 | @cons p q ps qs h t ih=>
  rw[fS,fS]
  refine .cons ?_ ih
  obtain⟨h1,h2,h3⟩:=h
  unfold putAt
  by_cases e:p.1=k
  ·rw[if_pos e,if_pos (h1.symm.trans e)]; exact⟨h1,h2,ry⟩
  ·rw[if_neg e,if_neg (fun z=>e (h1.trans z))]; exact⟨h1,h2,h3⟩
theorem KT.put {H:Hp}{kvs:List (List aA×V)}{xs:List (List aA×aD×aG)}(r:KT H kvs xs)(k:List aA){b:aD}{y:V}{u:aG}(hb:Aop H k b)(ry:RelV y u) :
  KT H (putK kvs k y) (storedH xs k b u):=by
 have e:(kvs.any fun kv=>decide (kv.1=k))=(atKey xs k).isSome:=by
  rw[ON,(r.val k).isSome_eq,JS]
 unfold putK storedH
 rw[e]
 by_cases q:(atKey xs k).isSome=true
 ·rw[if_pos q,if_pos q]; exact r.repl k ry
 ·rw[if_neg q,if_neg q]; exact Paired.snoc r ⟨rfl,hb,ry⟩
theorem KT.keeps {H H':Hp}{kvs:List (List aA×V)}{xs:List (List aA×aD×aG)}(r:KT H kvs xs)(ht : ∀ b ys,H b=some (.tup ys)->H' b=some (.tup ys)):KT H' kvs xs:=
 Paired.mapP r fun _ _ z=>⟨z.1,z.2.1.keep ht,z.2.2⟩
section
variable {P:cL}{w:cA}{H:Hp}{h:bG}{a:aD}
theorem LY {u:HO}(ok:HOk P w H h)(e:Rd H a u):Ady P w H h a u:=e.ok ok
theorem YC {ep:Nat}{kvs:List (aK×V)}(ok:HOk P w H h)(e:Rd H a (.dK ep kvs)):kvs.length≤sizeLine/\(a == iJ)=false /\ ∃ vs,KV kvs vs/\h.DictAt (fI P w) a vs ep:=
 show Ady P w H h a (.dK ep kvs) from LY ok e
theorem qI {ep:Nat}{kvs:List (aK×V)}(ok:HOk P w H h)(e:Rd H a (.dK ep kvs)):kvs.length≤sizeLine/\(a == iJ)=false /\ ∃ vs,KV kvs vs/\h.DictOf (fI P w) a vs:=
 let ⟨z,y,vs,r,d⟩:=YC ok e; ⟨z,y,vs,r,d.dictOf⟩
theorem CT {ep:Nat}{kvs:List (aK×V)}(ok:HOk P w H h)(e:H a=some (.dK ep kvs)):kvs.length≤sizeLine/\(a == iJ)=false /\ ∃ vs,KV kvs vs/\h.DictOf (fI P w) a vs:=qI ok (.inl e)
theorem zK {P:cL}{w:cA}{A:eD}(hu:A.units+40<cLine):(qT P w).room A.in1:=by
 show A.in1.units+20<cLine
 have:A.in1.units=A.units+1:=rfl
 omega
mutual
theorem PQ (ok:HOk P w H h) : ∀ (d:aA) {v:V} {u:aG},Ajr H d v->RelV v u -> ∃ as,pS h u d as
 | .int i,v,u,k,r=>by
  have e:v = .int i:=by simpa [Ajr] using k
  subst e
  obtain⟨t,rfl⟩:=r
  exact⟨_,.int i t⟩
 | .str x,v,u,k,r=>by
  have e:v = .str x:=by simpa [Ajr] using k
  subst e
  obtain⟨t,rfl⟩:=r
  exact⟨_,.str x t⟩
 | .tuple ds,v,u,k,r=>by
  simp only[Ajr] at k
  obtain⟨a,xs,rfl,e,ks⟩:=k
  cases r
  obtain⟨_,its,rv,⟨o,h1,h2,n,h3⟩,_⟩:=(show Ady P w H h a (.tup xs) from ok a _ e)
  obtain⟨as,ra⟩:=PY ok ds ks rv
  exact⟨as,.tuple h1 h2 h3 (by simpa using ra)⟩
 | .none,v,u,k,r=>by simp[Ajr] at k
 | .bool _,v,u,k,r=>by simp[Ajr] at k
 | .list _,v,u,k,r=>by simp[Ajr] at k
 | .dict _,v,u,k,r=>by simp[Ajr] at k
theorem PY (ok:HOk P w H h) : ∀ (ds:List aA) {vs:List V} {us:List aG},Af6 H ds vs->Vals vs us -> ∃ as,wI h us ds as
 | [],vs,us,k,r=>by
  have e:vs=[]:=by simpa [Af6] using k
  subst e
  cases r
  exact⟨_,.nil⟩
 | d::ds,vs,us,k,r=>by
  simp only[Af6] at k
  obtain⟨x,rr,rfl,k1,k2⟩:=k
  cases r with
  | cons r1 r2=>
   obtain⟨as,ra⟩:=PQ ok d k1 r1
   obtain⟨bs,rb⟩:=PY ok ds k2 r2
   exact⟨_,.cons ra rb⟩
end
theorem uP {ks:List aA}(ok:HOk P w H h)(e:Aop H ks a):(qT P w).is h ks a:=by
 obtain⟨k1,k2,xs,e,ks'⟩:=e
 refine⟨k1,k2,?_⟩
 exact PQ ok (.tuple ks) (v:=.ref a) (u:=.ref a) (by simp only[Ajr]; exact⟨a,xs,rfl,e,ks'⟩) rfl
theorem rY {kvs:List (List aA×V)}(ok:HOk P w H h)(e:Rd H a (.dT kvs)):kvs.length≤sizeLine/\(a == iJ)=false /\
  ∃ xs,KT H kvs xs/\h.DictOfH (qT P w) a xs:=by
 obtain⟨z,y,xs,r,o,es,ep,h1,h2,h3,h4,h5⟩:=(show Ady P w H h a (.dT kvs) from LY ok e)
 refine⟨z,y,xs,r,o,es,ep,h1,h2,h3,h4,fun x hx=>?_,h5⟩
 have all : ∀ {l:List (List aA×V)} {m:List (List aA×aD×aG)},KT H l m -> ∀ x∈m,(qT P w).is h x.1 x.2.1:=by
  intro l m q
  induction q with
  | nil=>intro x hx; exact nomatch hx
  | @cons p q ps qs hq t ih=>
   intro x hx
   rcases fG.mp hx with e | hx
   ·subst e
    exact uP ok (by rw[← hq.1]; exact hq.2.1)
   ·exact ih x hx
 exact all r x hx
theorem YN {kvs:List (List aA×V)}(ok:HOk P w H h)(e:H a=some (.dT kvs)):kvs.length≤sizeLine/\(a == iJ)=false /\
  ∃ xs,KT H kvs xs/\h.DictOfH (qT P w) a xs:=rY ok (.inl e)
end
def A1d (H:Hp)(a:aD)(y:V)(r:Option V):Prop:=
 (∃ ep kvs k,Rd H a (.dK ep kvs)/\y=kV k/\r=gX kvs k) \/ ∃ kvs k b,Rd H a (.dT kvs)/\y = .ref b/\Aop H k b/\r=gX kvs k
def Bd0 (H:Hp)(a:aD)(y v:V)(H':Nat->Hp):Prop:=
 (∃ ep kvs k,H a=some (.dK ep kvs)/\y=kV k/\kvs.length<sizeLine/\H'=fun n=>upd H a (.dK n (putK kvs k v))) \/
 ∃ kvs k b,H a=some (.dT kvs)/\y = .ref b/\Aop H k b/\kvs.length<sizeLine/\H'=fun _=>upd H a (.dT (putK kvs k v))
theorem A1d.t {H:Hp}{a b:aD}{kvs:List (List aA×V)}{k:List aA}(e:H a=some (.dT kvs))(eb:Aop H k b):A1d H a (.ref b) (gX kvs k):=.inr ⟨kvs,k,b,.inl e,rfl,eb,rfl⟩
theorem Bd0.t {H:Hp}{a b:aD}{kvs:List (List aA×V)}{k:List aA}{v:V}(e:H a=some (.dT kvs))(eb:Aop H k b)(hl:kvs.length<sizeLine) :
  Bd0 H a (.ref b) v (fun _=>upd H a (.dT (putK kvs k v))):=.inr ⟨kvs,k,b,e,rfl,eb,hl,rfl⟩
section
variable {X:Cx}{pins:List (aD×bP)}{σ:St}{H:Hp}{s:aL}{a:aD}{y v:V}{u r:aG}{o:Option V}{A:eD}{E:aG->aL->Prop}
theorem Inv.big (I:Inv X pins σ H s):iJ<s.heap.objs.size:=by
 have h:eQ<s.heap.objs.size:=(I.mod.glob.keeps I.bk).lt
 exact JV (by decide) h
theorem En {Q:aG->aL->Prop}(hu:A.units+40<cLine)(I:Inv X pins σ H s)(g:A1d H a y (some v))(ry:RelV y u)(h : ∀ w' s',Inv X pins σ H s'->RelV v w'->Q w' s') :
  aO (bC X.prog X.w) A (pP (.ref a) u) Q E s:=by
 rcases g with⟨ep,kvs,k,e,ey,l⟩ | ⟨kvs,k,b,e,ey,eb,l⟩
 ·subst ey
  obtain⟨z,hd,vs,rel,dd⟩:=qI I.hok e
  obtain⟨w',hw,rw'⟩:=Au8.some_of (v:=v) (o:=tO vs k) (by rw[l]; exact rel.val k)
  exact wpAny_getItem_of (oD ry) dd.mapOf hw (h w' _ (I.tok _) rw')
 ·subst ey
  cases(show u=fZ b from ry)
  obtain⟨z,hd,xs,rel,dd⟩:=rY I.hok e
  obtain⟨w',hw,rw'⟩:=Au8.some_of (v:=v) (o:=(atKey xs k).map (·.2)) (by rw[l]; exact rel.val k)
  obtain⟨p,hp,hp2⟩:=pU.mp hw
  refine wpAny_getItem_heap (zK hu) (uP I.hok eb) dd hp ?_
  rw[hp2]
  exact h w' _ (I.tok _) rw'
theorem WM {Q:aG->aL->Prop}(hu:A.units+40<cLine)(I:Inv X pins σ H s)(g:A1d H a y o)(ry:RelV y u)(h : ∀ s',Inv X pins σ H s'->Q (.bool o.isSome) s') :
  aO (bC X.prog X.w) A (gS .In u (.ref a)) Q E s:=by
 rcases g with⟨ep,kvs,k,e,ey,l⟩ | ⟨kvs,k,b,e,ey,eb,l⟩
 ·subst ey
  obtain⟨z,hd,vs,rel,dd⟩:=qI I.hok e
  refine wpAny_in_of (oD ry) hd dd.mapOf ?_
  rw[← (rel.val k).isSome_eq,← l]
  exact h _ (I.tok _)
 ·subst ey
  cases(show u=fZ b from ry)
  obtain⟨z,hd,xs,rel,dd⟩:=rY I.hok e
  refine wpAny_in_heap (zK hu) (uP I.hok eb) hd dd ?_
  have q:=(rel.val k).isSome_eq
  rw[JS] at q
  rw[← q,← l]
  exact h _ (I.tok _)
theorem Cp {Q:aG->aL->Prop}(hu:A.units+40<cLine)(I:Inv X pins σ H s)(g:A1d H a y o)(ry:RelV y u)(h : ∀ s',Inv X pins σ H s'->Q (.bool (!o.isSome)) s') :
  aO (bC X.prog X.w) A (gS .NotIn u (.ref a)) Q E s:=by
 rcases g with⟨ep,kvs,k,e,ey,l⟩ | ⟨kvs,k,b,e,ey,eb,l⟩
 ·subst ey
  obtain⟨z,hd,vs,rel,dd⟩:=qI I.hok e
  refine wpAny_notIn_of (oD ry) hd dd.mapOf ?_
  rw[← (rel.val k).isSome_eq,← l]
  exact h _ (I.tok _)
 ·subst ey
  cases(show u=fZ b from ry)
  obtain⟨z,hd,xs,rel,dd⟩:=rY I.hok e
  refine wpAny_notIn_heap (zK hu) (uP I.hok eb) hd dd ?_
  have q:=(rel.val k).isSome_eq
  rw[JS] at q
  rw[← q,← l]
  exact h _ (I.tok _)
theorem BM {h':bG}{t':Nat}{ob:HO}(I:Inv X pins σ H s)(mu:wU (H a))(hs:tW a s.heap h')(he : ∃ q,h'.get? a=some q)(new:Ady X.prog X.w (upd H a ob) h' a ob) :
  Inv X pins σ (upd H a ob) { s with heap:=h',toks:=t' }:=
 I.write (x:=a) (e:=a) mu (.inl rfl) (fun b q hb z=>(hs.2 b hb).trans z) he new
theorem xH {P:cL}{w:cA}{H':Hp}{h':bG}{kvs:List (aK×V)}{vs:List (aK×aG)}(z:kvs.length≤sizeLine)(hd:(a == iJ)=false)(rel:KV kvs vs){ep:Nat}(dd:h'.DictAt (fI P w) a vs ep) :
  Ady P w H' h' a (.dK ep kvs):=⟨z,hd,vs,rel,dd⟩
theorem Sl {H':Nat->Hp}{Q:Unit->aL->Prop}(hu:A.units+40<cLine)(I:Inv X pins σ H s)(g:Bd0 H a y v H')(ry:RelV y u)(rv:RelV v r)(h : ∀ n s',Inv X pins σ (H' n) s'->Q () s') :
  aO (bC X.prog X.w) A (setItem (.ref a) u r) Q E s:=by
 rcases g with⟨ep,kvs,k,e,ey,l,eH⟩ | ⟨kvs,k,b,e,ey,eb,l,eH⟩
 ·subst ey eH
  obtain⟨z,hd,vs,rel,dd⟩:=CT I.hok e
  have hz:vs.length≤sizeLine:=by rw[← rel.length]; exact z
  have hl:(putK kvs k v).length≤sizeLine:=by have:=CJ kvs k v; omega
  refine wpAny_setItem_pairs (hsz:=hz) (oD ry) dd fun h' dd' hs=>?_
  have he : ∃ q,h'.get? a=some q:=let ⟨q,_,_,hq,_⟩:=dd'; ⟨q,hq⟩
  obtain⟨n,da⟩:=dd'.dictAt
  exact h n _ (BM I (by rw[e]; exact nU) hs he (xH hl hd (rel.put k rv) da))
 ·subst ey eH
  cases(show u=fZ b from ry)
  obtain⟨z,hd,xs,rel,dd⟩:=YN I.hok e
  have hz:xs.length≤sizeLine:=by rw[← pT rel]; exact z
  have hl:(putK kvs k v).length≤sizeLine:=by have:=CJ kvs k v; omega
  refine wpAny_setItem_heap (hsz:=hz) (zK hu) (uP I.hok eb) dd fun h' dd' hs=>h 0 _ ?_
  obtain⟨q,es,ep,hq,h2,h3,h4,_,h5⟩:=dd'
  refine BM I (by rw[e]; exact nU) hs ⟨q,hq⟩ ⟨hl,hd,_,(rel.put k eb rv).keeps fun c ys ec=>?_,q,es,ep,hq,h2,h3,h4,h5⟩
  rw[fH (YM ec e (fun z=>nomatch z))]
  exact ec
end
section
variable {X:Cx}{pins:List (aD×bP)}{σ:St}{H:Hp}{s:aL}{a:aD}{kvs:List (aK×V)}{k:aK}{u:aG}{A:eD}{E:aG->aL->Prop}
theorem WV {ep:Nat}{Q:aG->aL->Prop}(I:Inv X pins σ H s)(e:Rd H a (.dK ep kvs))(h : ∀ t s',Inv X pins σ H s'->Q (.int kvs.length t) s'):aO (bC X.prog X.w) A (call (.builtin "len") [.ref a]) Q E s:=by
 obtain⟨z,hd,vs,rel,dd⟩:=qI I.hok e
 refine call_len_dict hd dd (by rw[← rel.length]; rw[rL] at z; omega) ?_
 rw[← rel.length]
 exact h _ _ (I.tok _)
end
def EV (i:bA):Prop:=∀ ov iv,JF i false ov iv=operate [ov,iv] (pP ov iv)
theorem UG {prog:cL}{w:cA}{A:eD}{E:aG->aL->Prop}{s:aL}{env:Env}{value slice:bA}{pos:cD}{T id:String}{Q:aG->aL->Prop}
  (hl:vZ (.type T) "__getitem__" = pure (some (.builtin id))) (hs:EV slice)
  (h:aO (bC prog w) A (bX value env) (fun o s₁=>aO (bC prog w) A (bX slice env) (fun i s₂=>s₂.TypeIs o T/\aO (bC prog w) A (pP o i) Q E s₂) E s₁) E s) :
  aO (bC prog w) A (bX (.Subscript value slice pos) env) Q E s:=by
 refine Subscript_ (mC h (fun o s₁ h₁=>mC h₁ (fun i s₂ h₂=>?_) fun _ _ x=>x) fun _ _ x=>x)
 obtain⟨hT,h₂⟩:=h₂
 unfold subscriptTail
 refine aJ ?_
 rw[getitemInPython_of_ne hT.not_modules]
 refine aJ (zR hT hl ?_)
 have fin:aO (bC prog w) A (JF slice false o i) (fun r s₃=>aO (bC prog w) A (letTemporaryGo value o r >>= fun _=>pure r) Q E s₃) E s₂:=by
  rw[hs o i]
  exact wpAny_operating (mC h₂ (fun r s₃ h₃=>aJ (wpAny_letTemporaryGo (bE h₃))) fun _ _ x=>x)
 first
  | exact bE (aJ fin)
  | exact aJ (bE (aJ fin))
  | exact aJ fin
theorem Ho {X:Cx}{pins:List (aD×bP)}{σ:St}{H:Hp}{s:aL}{a:aD}{y:V}{o:Option V}(I:Inv X pins σ H s)(g:A1d H a y o):s.TypeIs (.ref a) "dict":=by
 rcases g with⟨ep,kvs,k,e,_,_⟩ | ⟨kvs,k,b,e,_,_,_⟩
 ·obtain⟨_,_,vs,_,dd⟩:=qI I.hok e
  exact dd.typeIs
 ·obtain⟨_,_,xs,_,dd⟩:=rY I.hok e
  exact dd.typeIs
noncomputable def ZW (td ty:TE):TE:=fun σ H Q=>td σ H fun x H1=>ty σ H1 fun y H2=>∃ a v,x = .ref a/\A1d H2 a y (some v)/\Q v H2
noncomputable def XY (td ty tv:TE):TS:=fun D σ H=>tv σ H fun v H1=>td σ H1 fun x H2=>ty σ H2 fun y H3=>∃ a H4,x = .ref a/\Bd0 H3 a y v H4 /\ ∀ n,D.nx σ (H4 n)
section
variable {X:Cx}{o i e value:bA}{pos pos' tpos:cD}{td ty tv:TE}
theorem Nl (hu:X.A.units+40<cLine)(ho:PE X o td)(hi:PE X i ty)(hs:EV i):PE X (.Subscript o i pos) (ZW td ty):=by
 intro pins s σ H Q I h
 refine UG Sn.lookup hs (thn (ho pins s σ H _ I h) fun u s1 ⟨x,H1,I1,rx,q1⟩=>thn (hi pins s1 σ H1 _ I1 q1) fun iv s2 gh=>?_)
 obtain⟨y,H2,I2,ry,a,v,ex,g,q2⟩:=gh
 subst ex
 obtain rfl:u=fZ a:=rx
 exact⟨Ho I2 g,En hu I2 g ry fun w' s3 I3 rw'=>⟨v,H2,I3,rw',q2⟩⟩
theorem Oe (hu:X.A.units+40<cLine)(ho:PE X o td)(hi:PE X i ty)(hv:PE X value tv)(hs:nR value (some (.Subscript o i pos')) pos.line X.env=pure false) :
  PS X (.Assign [.Subscript o i pos'] value pos) (XY td ty tv):=by
 intro pins s σ H D I h
 refine wpAny_Assign_Subscript (thn (hv pins s σ H _ I h) fun r s1 ⟨v,H1,I1,rv,q1⟩=>thn (ho pins s1 σ H1 _ I1 q1) fun u s2 ⟨x,H2,I2,rx,q2⟩=>thn (hi pins s2 σ H2 _ I2 q2) fun iv s3 ⟨y,H3,I3,ry,a,H4,ex,g,q3⟩=>?_) hs
 subst ex
 obtain rfl:u=fZ a:=rx
 exact Sl hu I3 g ry rv fun n s4 I4=>⟨σ,H4 n,I4,q3 n⟩
end
theorem Qs {P:cL}{w:cA}{H:Hp}(h:bG)(hb:iJ<h.objs.size):Ady P w H (h.push { cls:=.type "dict",data:=.dict #[] }) h.objs.size (.dK 0 []):=
 ⟨mS _,beq_eq_false_iff_ne.mpr (mR (fC hb)),[],.nil,_,#[],eW _ rfl,⟨rfl,rfl,rfl⟩,rfl,fun _ he=>by simp at he,Pairs.nil,EB⟩
theorem Qm {P:cL}{w:cA}{H:Hp}(h:bG)(hb:iJ<h.objs.size):Ady P w H (h.push { cls:=.type "dict",data:=.dict #[] }) h.objs.size (.dT []):=
 ⟨mS _,beq_eq_false_iff_ne.mpr (mR (fC hb)),[],.nil,_,#[],0,eW _ rfl,⟨rfl,rfl,rfl⟩,rfl,rfl,EB⟩
noncomputable def ZK:TE:=fun _ H Q=>∀ p,H p=none->Q (.ref p) (upd H p (.dT []))
section
variable {X:Cx}{pos:cD}
theorem Qh:PE X (.Dict [] [] pos) ZK:=fun pins s σ H Q I h=>
 wpAny_Dict_empty ⟨.ref s.heap.objs.size,_,I.laid (a:=s.heap.objs.size) (o:=.dT []) (t':=s.toks) (fun _ _ q=>cY _ q) (dA _) (Qm s.heap I.big),rfl,h _ (I.hok.fresh (dA _))⟩
end
def TU:List (TE×TE)->St->Hp->(List (V×V)->Hp->Prop)->Prop
 | [],_,H,Q=>Q [] H
 | (tk,tv)::r,σ,H,Q=>tk σ H fun x H1=>tv σ H1 fun y H2=>TU r σ H2 fun ps H3=>Q ((x,y)::ps) H3
abbrev VV:List (V×V)->List (aG×aG)->Prop:=gV fun p q=>RelV p.1 q.1/\RelV p.2 q.2
def PPs (X:Cx)(pos:cD)(keys:List (Option bA))(values:List bA)(trs:List (TE×TE)):Prop:=
 ∀ (pins:List (aD×bP)) (s:aL) (σ:St) (H:Hp) (Q:List (V×V)->Hp->Prop),Inv X pins σ H s->TU trs σ H Q ->
  aO (bC X.prog X.w) X.A (evalPairs (pairTrees keys values X.env pos)) (fun vs s'=>∃ ps H',Inv X pins σ H' s'/\VV ps vs/\Q ps H') X.xe s
theorem Lf {X:Cx}{pos:cD}:PPs X pos [] [] []:=fun pins s σ H Q I h=>pairTrees_nil_walk ⟨[],H,I,.nil,h⟩
theorem Ow {X:Cx}{pos:cD}{k v:bA}{ks:List (Option bA)}{vs:List bA}{tk tv:TE}{trs:List (TE×TE)}(hk:PE X k tk)(hv:PE X v tv)(hr:PPs X pos ks vs trs) :
  PPs X pos (some k::ks) (v::vs) ((tk,tv)::trs):=fun pins s σ H Q I h=>
 pairTrees_cons_walk (thn (hk pins s σ H _ I h) fun u s1 ⟨x,H1,I1,rx,q1⟩=>thn (hv pins s1 σ H1 _ I1 q1) fun w2 s2 ⟨y,H2,I2,ry,q2⟩=>
  thn (hr pins s2 σ H2 _ I2 q2) fun ws s3 ⟨ps,H3,I3,rel,q3⟩=>⟨(x,y)::ps,H3,I3,.cons ⟨rx,ry⟩ rel,q3⟩)
noncomputable def kT (kvs more:List (aK×V)):List (aK×V):=more.foldl (fun acc kv=>putK acc kv.1 kv.2) kvs
theorem KV.merge : ∀ {more:List (aK×V)} {rs:List (aK×aG)} {kvs:List (aK×V)} {vs:List (aK×aG)},KV more rs->KV kvs vs->KV (kT kvs more) (iT vs rs):=by
 intro more rs kvs vs r
 unfold KV at r
 induction r generalizing kvs vs with
 | nil=>intro q; exact q
 | @cons p q ps qs h t ih=>
  intro r0
  have e:KV (putK kvs p.1 p.2) (rK vs q.1 q.2):=by
   have:=r0.put p.1 h.2
   rw[← h.1]; exact this
  exact ih e
theorem CN : ∀ (more kvs:List (aK×V)),(kT kvs more).length≤kvs.length+more.length
 | [],kvs=>by show kvs.length≤kvs.length+0; omega
 | p::r,kvs=>by
  have h1:=CN r (putK kvs p.1 p.2)
  have h2:=CJ kvs p.1 p.2
  show(kT (putK kvs p.1 p.2) r).length≤_
  rw[mF]; omega
theorem QT {P:cL}{w:cA} : ∀ {kvs:List (aK×V)} {ws:List (aG×aG)},VV (kvs.map fun kv=>(kV kv.1,kv.2)) ws -> ∃ rs,Carries (fI P w) ws rs/\KV kvs rs
 | [],_,r=>by rw[List.map_nil] at r; cases r; exact⟨[],nU,.nil⟩
 | p::kvs,_,r=>by
  rw[fS] at r
  cases r with
  | @cons a b as bs h t=>
   obtain⟨rs,c,q⟩:=QT (P:=P) (w:=w) t
   obtain⟨b1,b2⟩:=b
   exact⟨(p.1,b2)::rs,⟨oD h.1,rfl,c⟩,.cons ⟨rfl,h.2⟩ q⟩
structure M2 (X:Cx)(o:bA)(m:aE)(apos:cD)(e f:bA)(cpos:cD):Prop where
 base:rO o m X.env (bX o X.env)=bX o X.env
 few:((fY cpos (bL [e,f] X.env)).all (fun x=>!x.1)&&(rN cpos (rM [] X.env)).all (fun x=>x.1.isSome)
  && decide (([e,f]:List bA).length+([]:List jK).length+(if ([]:List jK).isEmpty then 0 else 1)<30))=true
 line:(apos.endLine == cpos.line)=true
 trees:fY cpos (bL [e,f] X.env)=[(false,bX e X.env),(false,bX f X.env)]
def IsD (H:Hp)(a:aD):Prop:=(∃ ep kvs,Rd H a (.dK ep kvs)) \/ ∃ kvs,Rd H a (.dT kvs)
theorem Ao {X:Cx}{pins:List (aD×bP)}{σ:St}{H:Hp}{s:aL}{a:aD}(I:Inv X pins σ H s)(d:IsD H a) :
  s.TypeIs (.ref a) "dict" /\ (∀ b,fZ a = .ref b -> ∃ ob,s.heap.get? b=some ob/\ob.dict=none)/\(a == iJ)=false:=by
 rcases d with⟨ep,kvs,e⟩ | ⟨kvs,e⟩
 ·obtain⟨_,hd,vs,_,dd⟩:=qI I.hok e
  refine⟨dd.typeIs,fun b q=>?_,hd⟩
  cases q
  obtain⟨ob,_,_,h1,h2,_⟩:=dd
  exact⟨ob,h1,h2.2.1⟩
 ·obtain⟨_,hd,xs,_,dd⟩:=rY I.hok e
  refine⟨dd.typeIs,fun b q=>?_,hd⟩
  cases q
  obtain⟨ob,_,_,h1,h2,_⟩:=dd
  exact⟨ob,h1,h2.2.1⟩
section
variable {X:Cx}{pins:List (aD×bP)}{σ:St}{H:Hp}{s:aL}{a:aD}{y d:V}{u r:aG}{o:Option V}{A:eD}{E:aG->aL->Prop}
theorem YZ {Q:aG->aL->Prop}(hu:A.units+40<cLine)(I:Inv X pins σ H s)(g:A1d H a y o)(ry:RelV y u)(rd:RelV d r)(h : ∀ w' s',Inv X pins σ H s'->RelV (o.getD d) w'->Q w' s') :
  aO (bC X.prog X.w) A (call (.builtin "dict.get") [.ref a,u,r]) Q E s:=by
 rcases g with⟨ep,kvs,k,e,ey,l⟩ | ⟨kvs,k,b,e,ey,eb,l⟩
 ·subst ey
  obtain⟨z,hd,vs,rel,dd⟩:=qI I.hok e
  refine call_meetsIn UW dd.typeIs PySem.F.entry_dict_get (Sq _ _ _) (meets_dict_get_default (fI X.prog X.w) a (oD ry) hd r) ⟨_,dd.mapOf,h _ _ (I.tok _) ?_⟩
  rw[l]
  exact(rel.val k).getD rd
 ·subst ey
  cases(show u=fZ b from ry)
  obtain⟨z,hd,xs,rel,dd⟩:=rY I.hok e
  refine call_meetsIn UW dd.typeIs PySem.F.entry_dict_get (Sq _ _ _) (meetsH_dict_get_default (qT X.prog X.w) a b hd r) ⟨zK hu,k,xs,uP I.hok eb,dd,h _ _ (I.tok _) ?_⟩
  rw[l]
  exact(rel.val k).getD rd
end
noncomputable def Bj (td ty tx:TE):TE:=fun σ H Q=>td σ H fun x H1=>∃ a,x = .ref a/\IsD H1 a/\ty σ H1 fun y H2=>tx σ H2 fun z H3=>∃ o,A1d H3 a y o/\Q (o.getD z) H3
section
variable {X:Cx}{o e f:bA}{apos cpos:cD}{td ty tx:TE}
theorem Px (hu:X.A.units+40<cLine)(ho:PE X o td)(he:PE X e ty)(hf:PE X f tx)(m:M2 X o "get" apos e f cpos):PE X (.Call (.Attribute o "get" apos) [e,f] [] cpos) (Bj td ty tx):=by
 intro pins s σ H Q I h
 refine wpAny_Call_method m.base m.few m.line So UW PySem.F.type_dict_get (thn (ho pins s σ H _ I h) fun u s1 gh=>?_)
 obtain⟨x,H1,I1,rx,a,ex,d,q1⟩:=gh
 subst ex
 obtain rfl:u=fZ a:=rx
 obtain⟨t1,t2,_⟩:=Ao I1 d
 refine⟨t1,t2,?_⟩
 rw[m.trees]
 refine Calls.callWith_builtin rfl (Calls.evalArgs_plain (KS (thn (he pins s1 σ H1 _ I1 q1) fun iv s2 ⟨y,H2,I2,ry,q2⟩=>
  KS (thn (hf pins s2 σ H2 _ I2 q2) fun fv s3 ⟨z,H3,I3,rz,ov,g,q3⟩=>VS ?_))))
 exact YZ hu I3 g ry rz fun w' s4 I4 rw'=>⟨_,H3,I4,rw',q3⟩
end
end L2
namespace HT
open PySem PyProof.Rows
section
variable {prog:cL}{w:cA}{A:eD}{E:aG->aL->Prop}{s:aL}
theorem A8i {t b:aD}{vs ws:List aG}{Q:aG->aL->Prop}(ht:IsTup s.heap t vs.toArray)(hb:IsTup s.heap b ws.toArray)(hv:vs≠[])
  (h1:ws=[]->Q (.ref t) s) (h2:ws≠[]->Q (.ref s.heap.objs.size) { s with heap:=s.heap.push { cls:=.type "tuple",data:=.seq (vs++ws).toArray } })
  (hsz:vs.length+ws.length≤sizeLine):aO (bC prog w) A (jV .Add (.ref t) (.ref b)) Q E s:=by
 obtain⟨⟨cls,dd,data,sl⟩,ho,hc,n,hd⟩:=id ht
 obtain⟨⟨cls2,dd2,data2,sl2⟩,ho2,hc2,n2,hd2⟩:=id hb
 simp only at hc hd hc2 hd2
 subst hc hd hc2 hd2
 have e:vs.toArray++ws.toArray=(vs++ws).toArray:=by simp
 by_cases hw:ws=[]
 ·exact JL ⟨_,ho,rfl⟩ ⟨_,ho2,rfl⟩ UM seq_tuple_add UU UX (UY _ _)
   (tuple_addW1 t b vs.toArray ws.toArray n n2 dd dd2 sl sl2 (by simpa using hv) (by simp[hw])) ⟨ho,ho2,h1 hw⟩
 ·refine JL ⟨_,ho,rfl⟩ ⟨_,ho2,rfl⟩ UM seq_tuple_add UU UX (UY _ _)
   (tuple_addW2 t b vs.toArray ws.toArray n n2 dd dd2 sl sl2 (by simpa using hv) (by simpa using hw) (by rw[fW,fW]; exact hsz)) ⟨ho,ho2,?_⟩
  rw[e]
  exact h2 hw
noncomputable def sIx (n d:Nat):Option Int->Nat
 | none=>d
 | some v=>if v<0 then(v+(n:Int)).toNat else min v.toNat n
theorem Avm (n d:Nat):sIx n d none=d:=rfl
theorem Ayp (n d k:Nat):sIx n d (some (k:Int))=min k n:=by
 show(if (k:Int)<0 then((k:Int)+(n:Int)).toNat else min (k:Int).toNat n)=min k n
 rw[if_neg (by omega),AE]
theorem Ba (n d:Nat)(hd:d≤n)(o:Option Int):sIx n d o≤n:=by
 cases o with
 | none=>exact hd
 | some v=>
  show(if v<0 then(v+(n:Int)).toNat else min v.toNat n)≤n
  by_cases hv:v<0
  ·rw[if_pos hv]; omega
  ·rw[if_neg hv]; exact Nat.min_le_right _ _
theorem NB (v:Int)(n d:Nat):(if v<0 then max (v+(n:Int)) 0 else min v (n:Int))=((sIx n d (some v):Nat):Int):=by
 show(if v<0 then max (v+(n:Int)) 0 else min v (n:Int))=(((if v<0 then(v+(n:Int)).toNat else min v.toNat n):Nat):Int)
 by_cases hv:v<0
 ·simp only[if_pos hv]; omega
 ·simp only[if_neg hv]; omega
theorem Gn (lo hi:Option Int)(n:Nat):VU lo hi 1 (n:Int)=(((sIx n 0 lo:Nat):Int),((sIx n n hi:Nat):Int)):=by
 have h1 : ¬ ((1:Int)<0):=by omega
 unfold VU
 simp only[h1,if_false]
 refine Prod.ext ?_ ?_
 ·cases lo with
  | none=>rfl
  | some v=>exact NB v n 0
 ·cases hi with
  | none=>rfl
  | some v=>exact NB v n n
theorem He (i j:Nat):KZ (i:Int) (j:Int) 1=j - i:=by
 unfold KZ
 have h1:(1:Int) > 0:=by omega
 simp only[h1,if_true,Int.ediv_one]
 split <;> omega
theorem QU {v:aG}{o:Option Int}{Q:Option Int->aL->Prop}(p:qA v o)(h:Q o s):aO (bC prog w) A (Builtin.Slice.slicePartIndex v) Q E s:=by
 cases p with
 | none=>exact slicePart_none h
 | int i t=>exact slicePart_int h
theorem Ah4 {sl:aD}{vl vu:aG}{lo hi:Option Int}{n:Nat}{Q:Int×Int×Nat->aL->Prop}(hs:s.heap.IsSliceOf sl vl vu .none)(pl:qA vl lo)(pu:qA vu hi)
  (h:Q (((sIx n 0 lo:Nat):Int),1,sIx n n hi - sIx n 0 lo) s):aO (bC prog w) A (Builtin.Slice.sliceApplied (.ref sl) (pure (n:Int))) Q E s:=by
 obtain⟨os,hos,hcs,hds⟩:=id hs
 unfold Builtin.Slice.sliceApplied Builtin.Slice.sliceFields
 refine aJ (aJ (gK hos hds (x:=vl) rfl (aJ (gK hos hds (x:=vu) rfl (aJ (gK hos hds (x:=.none) rfl (bE ?_)))))))
 refine aJ (slicePart_none ?_)
 show aO _ _ (if ((1:Int) == 0)=true then _ else _) _ _ s
 rw[if_neg (by decide)]
 refine aJ (QU pl (aJ (QU pu (aJ (bE ?_)))))
 show aO _ _ (match VU lo hi 1 (n:Int) with | (lo,hi)=>pure (lo,(1:Int),KZ lo hi 1)) _ _ s
 rw[Gn lo hi n]
 show aO _ _ (pure (((sIx n 0 lo:Nat):Int),(1:Int),KZ ((sIx n 0 lo:Nat):Int) ((sIx n n hi:Nat):Int) 1)) _ _ s
 rw[He]
 exact bE h
theorem Qz (xs:Array aG)(i k:Nat):((cE k).filterMap fun(m:Nat)=>xs[((i:Int)+(m:Int)*1).toNat]?).toArray=((xs.toList.drop i).take k).toArray:=by
 have e:(fun(m:Nat)=>xs[((i:Int)+(m:Int)*1).toNat]?)=fun m=>xs[i+m]?:=by
  funext m
  have:((i:Int)+(m:Int)*1).toNat=i+m:=by omega
  rw[this]
 rw[e]
 have:=pick_run xs i k
 rw[List.filterMap_map] at this
 have e2:((fun x=>xs[x]?)∘fun x=>i+x)=fun m=>xs[i+m]?:=rfl
 rw[e2] at this
 rw[this]
theorem Akk {t sl:aD}{items:Array aG}{vl vu:aG}{lo hi:Option Int}{Q:aG->aL->Prop}(ht:IsTup s.heap t items)(hs:s.heap.IsSliceOf sl vl vu .none)(pl:qA vl lo)(pu:qA vu hi)
  (hw : ¬ (sIx items.size 0 lo=0/\sIx items.size items.size hi=items.size))
  (h:Q (.ref s.heap.objs.size) { s with heap:=s.heap.push { cls:=.type "tuple",data:=.seq ((items.toList.drop (sIx items.size 0 lo)).take (sIx items.size items.size hi - sIx items.size 0 lo)).toArray } })
  (hsz:items.size≤sizeLine):aO (bC prog w) A (pP (.ref t) (.ref sl)) Q E s:=by
 have htake:sizeOk (.seq ((items.toList.drop (sIx items.size 0 lo)).take (sIx items.size items.size hi - sIx items.size 0 lo)).toArray):=by
  show((items.toList.drop (sIx items.size 0 lo)).take (sIx items.size items.size hi - sIx items.size 0 lo)).toArray.size≤sizeLine
  rw[fW,wK,List.length_drop,LF]
  omega
 have hj:sIx items.size items.size hi≤items.size:=Ba _ _ (dA _) hi
 obtain⟨os,hos,hcs,hds⟩:=id hs
 have hTs:s.TypeIs (.ref sl) "slice":=⟨os,hos,hcs⟩
 unfold pP
 try with_reducible refine jI ?_
 first | refine aJ (bE ?_) | skip
 refine aJ (wpAny_sequenceKey ht.typeIs (by decide) ?_)
 refine aJ (nQ (name:=nV "__getitem__") ht.typeIs UZ
  (kK UZ ht.typeIs entry_tuple_getitem ?_ (args_tuple_getitem _ _)))
 show aO _ _ (VT (.ref t) >>= _) _ _ s
 refine aJ (tupleItemsOf_ ht ?_)
 refine aJ (nM hTs ?_)
 rw[if_pos (by decide)]
 refine aJ (Ah4 hs pl pu ?_)
 have hno : ¬ ((((sIx items.size 0 lo:Nat):Int) == 0&&(1:Int) == 1&&(sIx items.size items.size hi - sIx items.size 0 lo) == items.size)=true):=by
  intro q
  rw[tY,tY] at q
  have q1:((sIx items.size 0 lo:Nat):Int)=0:=eq_of_beq q.1.1
  have q2:sIx items.size items.size hi - sIx items.size 0 lo=items.size:=eq_of_beq q.2
  exact hw ⟨by omega,by omega⟩
 show aO _ _ (if (((sIx items.size 0 lo:Nat):Int) == 0&&(1:Int) == 1&&(sIx items.size items.size hi - sIx items.size 0 lo) == items.size)=true then _ else _) _ _ s
 rw[if_neg hno,Qz]
 first
  | exact aJ (m:=AJ _) (nP (bE ⟨_,rfl,bE h⟩) htake)
  | exact aJ (m:=AJ _) (nP (aJ (bE (bE ⟨_,rfl,bE h⟩))) htake)
  | exact aJ (aJ (m:=AJ _) (nP (bE (bE ⟨_,rfl,bE h⟩)) htake))
  | exact aJ (aJ (m:=AJ _) (nP (bE ⟨_,rfl,bE h⟩) htake))
end
end HT
namespace L2
open PySem PySem.Spec PyProof.Rows
abbrev TO:=St->Hp->(Option Int->Hp->Prop)->Prop
def PO (X:Cx)(e:Option bA)(t:TO):Prop:=
 ∀ (pins:List (aD×bP)) (s:aL) (σ:St) (H:Hp) (Q:Option Int->Hp->Prop),Inv X pins σ H s->t σ H Q ->
  aO (bC X.prog X.w) X.A (evalPart e X.env) (fun u s'=>∃ o H',Inv X pins σ H' s'/\qA u o/\Q o H') X.xe s
noncomputable def Nx:TO:=fun _ H Q=>Q none H
noncomputable def YQ (t:TE):TO:=fun σ H Q=>t σ H fun x H1=>∃ i,x = .int i/\Q (some i) H1
section
variable {X:Cx}{e:bA}{te:TE}{lo hi:Option bA}{tl th:TO}{pos p2:cD}
theorem Ca:PO X none Nx:=by
 intro pins s σ H Q I h
 rw[evalPart_none]
 exact bE ⟨none,H,I,.none,h⟩
theorem Nn (h:PE X e te):PO X (some e) (YQ te):=by
 intro pins s σ H Q I hw
 rw[evalPart_some]
 refine thn (h pins s σ H _ I hw) fun u s1 gh=>?_
 obtain⟨x,H1,I1,r1,q1⟩:=gh
 obtain⟨i,rfl,q⟩:=q1
 obtain⟨t,rfl⟩:=r1
 exact⟨some i,H1,I1,.int i t,q⟩
def SlR (X:Cx)(r:V->Option Int->Option Int->Hp->VK->Prop):Prop:=
 ∀ (pins:List (aD×bP)) (s:aL) (σ:St) (H:Hp) (x:V) (v vl vu:aG) (lo hi:Option Int) (sl:aD) (Q:VK),Inv X pins σ H s->RelV x v->s.heap.IsSliceOf sl vl vu .none->qA vl lo->qA vu hi->r x lo hi H Q ->
  ∃ T id,vZ (.type T) "__getitem__" = pure (some (.builtin id))/\s.TypeIs v T/\aO (bC X.prog X.w) X.A (pP v (.ref sl)) (EP X pins σ Q) X.xe s
theorem SlR.or {r r':V->Option Int->Option Int->Hp->VK->Prop}(h:SlR X r)(h':SlR X r'):SlR X (fun x lo hi H Q=>r x lo hi H Q \/ r' x lo hi H Q):=by
 intro pins s σ H x v vl vu lo hi sl Q I rx hs pl pu q
 rcases q with q | q
 ·exact h pins s σ H x v vl vu lo hi sl Q I rx hs pl pu q
 ·exact h' pins s σ H x v vl vu lo hi sl Q I rx hs pl pu q
noncomputable def tSl (r:V->Option Int->Option Int->Hp->VK->Prop)(te:TE)(tl th:TO):TE:=fun σ H Q=>te σ H fun x H1=>tl σ H1 fun l H2=>th σ H2 fun u H3=>r x l u H3 Q
theorem NX {r:V->Option Int->Option Int->Hp->VK->Prop}(hr:SlR X r)(he:PE X e te)(hl:PO X lo tl)(hu:PO X hi th):PE X (.Subscript e (.Slice lo hi none p2) pos) (tSl r te tl th):=by
 intro pins s σ H Q I h
 refine Subscript_ (thn (he pins s σ H _ I h) fun v s1 gh=>?_)
 obtain⟨x,H1,I1,r1,q1⟩:=gh
 refine wpAny_Slice (thn (hl pins s1 σ H1 _ I1 q1) fun vl s2 ⟨l,H2,I2,pl,q2⟩=>thn (hu pins s2 σ H2 _ I2 q2) fun vu s3 gh=>?_)
 obtain⟨u,H3,I3,pu,q3⟩:=gh
 rw[evalPart_none]
 refine bE ?_
 have I4:Inv X pins σ H3 { s3 with heap:=s3.heap.push { cls:=.type "slice",data:=.fields #[vl,vu,.none] } }:=I3.kept (t':=s3.toks) fun b ob q=>cY _ q
 obtain⟨T,id,hT,ht,hg⟩:=hr pins { s3 with heap:=s3.heap.push { cls:=.type "slice",data:=.fields #[vl,vu,.none] } } σ H3 x v vl vu l u s3.heap.objs.size Q I4 r1 (Heap.IsSliceOf.new ..) pl pu q3
 show aO (bC X.prog X.w) X.A (subscriptTail e (.Slice lo hi none p2) v (.ref s3.heap.objs.size)) (EP X pins σ Q) X.xe { s3 with heap:=s3.heap.push { cls:=.type "slice",data:=.fields #[vl,vu,.none] } }
 exact tail_any (ops:=[.ref s3.heap.objs.size,v]) ht hT hg (by with_unfolding_all rfl)
noncomputable def rG (xs:List V)(lo hi:Option Int):List V:=(xs.drop (HT.sIx xs.length 0 lo)).take (HT.sIx xs.length xs.length hi - HT.sIx xs.length 0 lo)
theorem SD (xs:List V)(lo hi:Option Int):(rG xs lo hi).length≤xs.length:=by
 unfold rG
 rw[wK,List.length_drop]
 omega
def WH (K:aP):V->Option Int->Option Int->Hp->VK->Prop:=fun x lo hi H Q=>∃ a xs,x = .ref a/\SqT K H a xs /\
 ¬ (HT.sIx xs.length 0 lo=0/\HT.sIx xs.length xs.length hi=xs.length) /\ ∀ p,H p=none->Q (.ref p) (upd H p (.tup (rG xs lo hi)))
theorem ZY:SlR X (WH X.K):=by
 intro pins s σ H x v vl vu lo hi sl Q I rx hs pl pu h
 obtain⟨a,xs,rfl,hx,hw,q⟩:=h
 cases rx
 obtain⟨its,r,ht,hz⟩:=I.tuple hx
 have hlen:its.toArray.size=xs.length:=by rw[fW]; exact r.length.symm
 refine⟨"tuple",_,UZ.lookup,ht.typeIs,?_⟩
 refine HT.Akk ht hs pl pu (by rw[hlen]; exact hw) ?_ (by rw[hlen]; exact hz)
 rw[hlen]
 refine⟨.ref s.heap.objs.size,_,I.laid (t':=s.toks) (o:=.tup (rG xs lo hi)) (fun b ob q=>cY _ q) (dA _) ?_,rfl,q _ (I.hok.fresh (dA _))⟩
 exact⟨jW (SD xs lo hi) hz,_,(r.drop (HT.sIx xs.length 0 lo)).take (HT.sIx xs.length xs.length hi - HT.sIx xs.length 0 lo),A5l.new _ _⟩
noncomputable def IS (K:aP):R2:=fun x y H Q=>∃ a b xs ys,x = .ref a/\y = .ref b/\SqT K H a xs/\SqT K H b ys/\xs≠[]/\xs.length+ys.length≤sizeLine /\
 (ys=[]->Q (.ref a) H)/\(ys≠[] -> ∀ p,H p=none->Q (.ref p) (upd H p (.tup (xs++ys))))
theorem Vals.nil_iff {xs:List V}{us:List aG}(r:Vals xs us):us=[]↔xs=[]:=by
 cases r with
 | nil=>simp
 | cons _ _=>simp
theorem Aw2:OpR X (jV .Add) (IS X.K):=by
 intro pins s σ H x y v u Q I rx ry h
 obtain⟨a,b,xs,ys,rfl,rfl,ha,hb,hx,hz,q1,q2⟩:=h
 cases rx
 cases ry
 obtain⟨its,r1,p1,_⟩:=I.tuple ha
 obtain⟨its2,r2,p2,_⟩:=I.tuple hb
 refine HT.A8i p1 p2 (fun z=>hx (r1.nil_iff.mp z)) (fun z=>⟨.ref a,H,I,rfl,q1 (r2.nil_iff.mp z)⟩) (fun z=>?_) (by rw[← r1.length,← r2.length]; exact hz)
 refine⟨.ref s.heap.objs.size,_,I.laid (t':=s.toks) (o:=.tup (xs++ys)) (fun b ob q=>cY _ q) (dA _) ?_,rfl,q2 (fun w=>z (r2.nil_iff.mpr w)) _ (I.hok.fresh (dA _))⟩
 exact⟨by rw[pW]; exact hz,_,r1.append r2,A5l.new _ _⟩
end
noncomputable def ixN (n:Nat)(i:Int):Option Nat:=if 0≤i then(if i<n then some i.toNat else none) else if -(n:Int)≤i then some (i+n).toNat else none
noncomputable def atI {α:Type}(xs:List α)(i:Int):Option α:=(ixN xs.length i).bind fun j=>xs[j]?
theorem NL {n:Nat}{i:Int}{j:Nat}(h:ixN n i=some j):seqIndex? i n=some j/\j<n /\ -(n:Int)≤i/\i<n:=by
 unfold ixN at h
 by_cases h0:0≤i
 ·rw[if_pos h0] at h
  by_cases h1:i<n
  ·rw[if_pos h1] at h
   have e:i.toNat=j:=gW h
   exact⟨by rw[seqIndex_of h0 h1,e],by omega,by omega,h1⟩
  ·rw[if_neg h1] at h; cases h
 ·rw[if_neg h0] at h
  by_cases h1 : -(n:Int)≤i
  ·rw[if_pos h1] at h
   have e:(i+n).toNat=j:=gW h
   exact⟨by rw[seqIndex_neg (by omega) h1,e],by omega,h1,by omega⟩
  ·rw[if_neg h1] at h; cases h
theorem FU {α:Type}{xs:List α}{i:Int}{v:α}(h:atI xs i=some v) : ∃ j,seqIndex? i xs.length=some j/\xs[j]?=some v/\j<xs.length /\ -(xs.length:Int)≤i/\i<xs.length:=by
 unfold atI at h
 cases e:ixN xs.length i with
 | none=>rw[e] at h; cases h
 | some j=>
  rw[e] at h
  obtain⟨h1,h2,h3,h4⟩:=NL e
  exact⟨j,h1,h,h2,h3,h4⟩
theorem sS {α:Type}{xs:List α}{j:Nat}{v:α}(h:xs[j]?=some v):atI xs (j:Int)=some v:=by
 have hj:j<xs.length:=(gE.mp h).1
 have e:ixN xs.length (j:Int)=some j:=by
  unfold ixN
  rw[if_pos (by omega),if_pos (by omega)]; simp
 unfold atI; rw[e]; exact h
def FY (b:bA):Prop:=∀ o i,JF b false o i=operate [o,i] (pP o i)
def IxR (X:Cx)(r:R2):Prop:=
 ∀ (value slice:bA) (pins:List (aD×bP)) (s:aL) (σ:St) (H:Hp) (x y:V) (v u:aG) (Q:VK),Inv X pins σ H s->RelV x v->RelV y u->r x y H Q ->
  JF slice false v u=operate [v,u] (pP v u)->aO (bC X.prog X.w) X.A (subscriptTail value slice v u) (EP X pins σ Q) X.xe s
def MtR (X:Cx)(id:String)(r:V->List V->Hp->VK->Prop):Prop:=
 ∀ (pins:List (aD×bP)) (s:aL) (σ:St) (H:Hp) (x:V) (xs:List V) (v:aG) (us:List aG) (Q:VK),Inv X pins σ H s->RelV x v->Vals xs us->r x xs H Q ->
  aO (bC X.prog X.w) X.A (call (.builtin id) (v::us)) (EP X pins σ Q) X.xe s
section
variable {X:Cx}{a b:bA}{ta tb:TE}{pos:cD}
theorem IxR.or {r r':R2}(h:IxR X r)(h':IxR X r'):IxR X (fun x y H Q=>r x y H Q \/ r' x y H Q):=by
 intro value slice pins s σ H x y v u Q I rx ry q hs
 rcases q with q | q
 ·exact h value slice pins s σ H x y v u Q I rx ry q hs
 ·exact h' value slice pins s σ H x y v u Q I rx ry q hs
theorem LZ {r:R2}(hr:IxR X r)(ha:PE X a ta)(hb:PE X b tb)(hs:FY b):PE X (.Subscript a b pos) (tOp r ta tb):=by
 intro pins s σ H Q I h
 exact Subscript_ (EW ha hb I h fun v u s2 x y H2 I2 rx ry q=>hr a b pins s2 σ H2 x y v u Q I2 rx ry q (hs _ _))
noncomputable def LL (K:aP):R2:=fun x y H Q=>∃ p xs i v,x = .ref p/\y = .int i/\SqL K H p xs/\atI xs i=some v/\Q v H
noncomputable def LJ (K:aP):R2:=fun x y H Q=>∃ p xs i v,x = .ref p/\y = .int i/\SqT K H p xs/\atI xs i=some v/\Q v H
noncomputable def LM:R2:=fun x y H Q=>∃ z i c,x = .str z/\y = .int i/\z.length≤sizeLine/\atI z.cps.toList i=some c/\Q (.str ⟨#[c]⟩) H
theorem A7g:IxR X (LL X.K):=by
 intro value slice pins s σ H x y v u Q I rx ry h hs
 obtain⟨p,xs,i,z,rfl,rfl,hq,he,q⟩:=h
 cases rx
 obtain⟨t,rfl⟩:=ry
 obtain⟨its,r,pl,hz⟩:=I.list hq
 obtain⟨j,h1,h2,h3,h4,h5⟩:=FU he
 obtain⟨w,ew,rw'⟩:=r.get h2
 have hl:=r.length
 have hn:=uR
 have fin:EP X pins σ Q w s:=⟨z,H,I,rw',q⟩
 by_cases h0:0≤i
 ·have hj:i.toNat=j:=by
   rw[seqIndex_of h0 h5] at h1
   exact gW h1
  exact item_listR pl.isList h0 (by omega) (by rw[hj]; simpa using ew) fin hs
 ·have hj:(i+(its.toArray.size:Int)).toNat=j:=by
   rw[seqIndex_neg (by omega) h4] at h1
   rw[fW,← hl]
   exact gW h1
  exact subscriptTail_builtinR (x:=w) pl.isList.typeIs slot_list_getitem.lookup
   (wpAny_getItem_list_neg (Q:=fun r s'=>r=w/\EP X pins σ Q r s') pl.isList (by omega) (by rw[fW] <;> omega) (by omega) (by rw[hj]; simpa using ew) ⟨rfl,fin⟩) hs
theorem Ba0:IxR X (LJ X.K):=by
 intro value slice pins s σ H x y v u Q I rx ry h hs
 obtain⟨p,xs,i,z,rfl,rfl,hq,he,q⟩:=h
 cases rx
 obtain⟨t,rfl⟩:=ry
 obtain⟨its,r,pl,hz⟩:=I.tuple hq
 obtain⟨j,h1,h2,h3,h4,h5⟩:=FU he
 obtain⟨w,ew,rw'⟩:=r.get h2
 have hl:=r.length
 have hn:=uR
 have fin:EP X pins σ Q w s:=⟨z,H,I,rw',q⟩
 exact subscriptTail_builtinR (x:=w) pl.typeIs JG.lookup
  (getItem_tuple (j:=j) (Q:=fun r s'=>r=w/\EP X pins σ Q r s') pl (by omega) (by omega) (by rw[fW,← hl]; exact h1) (by simpa using ew) ⟨rfl,fin⟩) hs
theorem Af:IxR X LM:=by
 intro value slice pins s σ H x y v u Q I rx ry h hs
 obtain⟨z,i,c,rfl,rfl,hz,he,q⟩:=h
 obtain⟨t,rfl⟩:=rx
 obtain⟨t',rfl⟩:=ry
 obtain⟨j,h1,h2,h3,h4,h5⟩:=FU he
 have hl:z.cps.toList.length=z.length:=by simp[Str.length]
 rw[hl] at h1 h4 h5
 have hn:=uR
 exact tail_any (typeIs_str s z t) slot_str_getitem.lookup (getItem_str (c:=c) (by
  have e1:decide (i < -(2 ^ 63:Int))=false:=decide_eq_false (by omega)
  have e2:decide (i ≥ 2 ^ 63)=false:=decide_eq_false (by omega)
  rw[e1,e2,Bool.or_false]) (by rw[h1]; simpa using h2) ⟨.str ⟨#[c]⟩,H,I.tok _,⟨_,rfl⟩,q⟩) hs
noncomputable def rIx (K:aP):R2:=fun x y H Q=>LL K x y H Q \/ LJ K x y H Q \/ LM x y H Q
theorem TH:IxR X (rIx X.K):=A7g.or (Ba0.or Af)
theorem Iq (lo hi:Option Int)(n:Nat):(wA lo hi none n).1=((HT.sIx n 0 lo:Nat):Int)/\(wA lo hi none n).2.1=((HT.sIx n n hi:Nat):Int)/\(wA lo hi none n).2.2=1:=by
 refine⟨?_,?_,rfl⟩
 ·cases lo with
  | none=>simp[wA,HT.sIx]
  | some i=>
   simp only[wA,HT.sIx,Option.getD_none,show(1:Int) > 0 by decide,if_true]
   by_cases h:i<0
   ·simp only[h,if_true] <;> omega
   ·simp only[h,if_false] <;> omega
 ·cases hi with
  | none=>simp[wA,HT.sIx]
  | some i=>
   simp only[wA,HT.sIx,Option.getD_none,show(1:Int) > 0 by decide,if_true]
   by_cases h:i<0
   ·simp only[h,if_true] <;> omega
   ·simp only[h,if_false] <;> omega
theorem Jv (its:List aG)(lo hi:Option Int):slicePick its.toArray lo hi none=((its.drop (HT.sIx its.length 0 lo)).take (HT.sIx its.length its.length hi - HT.sIx its.length 0 lo)).toArray:=by
 obtain⟨h1,h2,h3⟩:=Iq lo hi its.toArray.size
 unfold slicePick
 rw[h1,h2,h3]
 simp only[sliceRange_one,pick_run,fW] <;> rfl
def XH (K:aP):V->Option Int->Option Int->Hp->VK->Prop:=fun x lo hi H Q=>∃ a xs,x = .ref a/\SqL K H a xs /\ ∀ p,H p=none->Q (.ref p) (upd H p (.lst (rG xs lo hi)))
theorem Cg:SlR X (XH X.K):=by
 intro pins s σ H x v vl vu lo hi sl Q I rx hs pl pu h
 obtain⟨a,xs,rfl,hx,q⟩:=h
 cases rx
 obtain⟨its,r,ht,hz⟩:=I.list hx
 have hlen:=r.length
 refine⟨"list",_,slot_list_getitem.lookup,ht.isList.typeIs,?_⟩
 refine wpAny_getItem_list_slice ht.isList hs pl pu .none (by simp) ?_ (by rw[fW] <;> omega)
 rw[Jv,← hlen]
 refine⟨.ref s.heap.objs.size,_,I.laid (t':=s.toks) (o:=.lst (rG xs lo hi)) (fun b ob q=>cY _ q) (dA _) ?_,rfl,q _ (I.hok.fresh (dA _))⟩
 exact⟨jW (SD xs lo hi) hz,_,0,(r.drop (HT.sIx xs.length 0 lo)).take (HT.sIx xs.length xs.length hi - HT.sIx xs.length 0 lo),eW _ rfl⟩
theorem Jj:OpR X (gS .NotIn) (fun x y H Q=>∃ i j,x = .str i/\y = .str j/\Q (.bl (!(!(KU j i 0 j.length 1).isEmpty))) H):=by
 intro pins s σ H x y v u Q I rx ry h
 obtain⟨i,j,rfl,rfl,q⟩:=h
 obtain⟨t,rfl⟩:=rx
 obtain⟨t',rfl⟩:=ry
 exact notIn_str ⟨.bl _,H,I,rfl,q⟩
theorem Aqk:Ae3 X (.builtin "len") (fun xs H Q=>∃ p ys,xs=[.ref p]/\(SqL X.K H p ys \/ SqT X.K H p ys)/\Q (.int ys.length) H):=by
 intro pins s σ H xs us Q I r h
 obtain⟨p,ys,rfl,hq,q⟩:=h
 obtain⟨u,rfl,rx⟩:=vals1 r
 cases rx
 have hn:=uR
 rcases hq with hq | hq
 ·obtain⟨its,r',pl,hz⟩:=I.list hq
  have hlen:=r'.length
  exact Calls.call_len_list pl.isList (by simp only[fW] <;> omega) ⟨.int ys.length,H,I.tok _,⟨s.toks+1,by rw[fW,hlen]⟩,q⟩
 ·obtain⟨its,r',pl,hz⟩:=I.tuple hq
  have hlen:=r'.length
  exact len_tuple pl (by simp only[fW] <;> omega) ⟨.int ys.length,H,I.tok _,⟨s.toks+1,by rw[fW,hlen]⟩,q⟩
theorem Ar1:Ae3 X (.builtin "len") (fun xs H Q=>∃ z,xs=[.str z]/\z.length≤sizeLine/\Q (.int z.length) H):=by
 intro pins s σ H xs us Q I r h
 obtain⟨z,rfl,hz,q⟩:=h
 obtain⟨u,rfl,t,rfl⟩:=vals1 r
 have hn:=uR
 exact len_str (by omega) ⟨.int z.length,H,I.tok _,⟨_,rfl⟩,q⟩
theorem Ae3.or {f:aG}{r r':List V->Hp->VK->Prop}(h:Ae3 X f r)(h':Ae3 X f r'):Ae3 X f (fun xs H Q=>r xs H Q \/ r' xs H Q):=by
 intro pins s σ H xs us Q I rs q
 rcases q with q | q
 ·exact h pins s σ H xs us Q I rs q
 ·exact h' pins s σ H xs us Q I rs q
theorem Aqb:Ae3 X (.type "list") (fun xs H Q=>∃ p ys,xs=[.ref p]/\(SqL X.K H p ys \/ SqT X.K H p ys) /\ ∀ l,H l=none->Q (.ref l) (upd H l (.lst ys))):=by
 intro pins s σ H xs us Q I r h
 obtain⟨p,ys,rfl,hq,q⟩:=h
 obtain⟨u,rfl,rx⟩:=vals1 r
 cases rx
 have fin : ∀ (its:List aG),Vals ys its->ys.length≤sizeLine -> ∀ (h':bG) (c':Nat),(∀ b o',s.heap.get? b=some o'->h'.get? b=some o') ->
   h'.get? s.heap.objs.size=some { cls:=.type "list",dict:=none,data:=.seq its.toArray c',slots:=#[] }->EP X pins σ Q (.ref s.heap.objs.size) { s with heap:=h' }:=fun its r' hz h' c' kp e=>
  ⟨.ref s.heap.objs.size,_,I.laid (t':=s.toks) kp (dA _) (show Ady X.prog X.w _ h' _ (.lst ys) from⟨hz,its,c',r',e⟩),rfl,q _ (I.hok.fresh (dA _))⟩
 rcases hq with hq | hq
 ·obtain⟨its,r',pl,hz⟩:=I.list hq
  have hlen:=r'.length
  obtain⟨o,ho,hc,n,hd⟩:=pl.isList
  exact call_list_seq p (.inl rfl) ho hc hd (fun h' c' kp e=>fin its r' hz h' c' kp e) (by simp only[fW] <;> omega)
 ·obtain⟨its,r',pl,hz⟩:=I.tuple hq
  have hlen:=r'.length
  obtain⟨o,ho,hc,n,hd⟩:=pl
  exact call_list_seq p (.inr rfl) ho hc hd (fun h' c' kp e=>fin its r' hz h' c' kp e) (by simp only[fW] <;> omega)
theorem oJ:Ae3 X (.type "tuple") (fun xs H Q=>∃ p ys,xs=[.ref p]/\((SqL X.K H p ys /\ ∀ l,H l=none->Q (.ref l) (upd H l (.tup ys))) \/ (SqT X.K H p ys/\Q (.ref p) H))):=by
 intro pins s σ H xs us Q I r h
 obtain⟨p,ys,rfl,h⟩:=h
 obtain⟨u,rfl,rx⟩:=vals1 r
 cases rx
 rcases h with⟨hq,q⟩ | ⟨hq,q⟩
 ·obtain⟨its,r',pl,hz⟩:=I.list hq
  have hlen:=r'.length
  refine call_tuple_list pl.isList (fun h' kp=>?_) (by simp only[fW] <;> omega)
  have I1:Inv X pins σ H { s with heap:=h' }:=I.kept (t':=s.toks) kp
  have I2:Inv X pins σ (upd H h'.objs.size (.tup ys)) { s with heap:=h'.push { cls:=.type "tuple",data:=.seq its.toArray } }:=
   I1.laid (t':=s.toks) (fun b o e=>cY _ e) (dA _) (show Ady X.prog X.w _ _ _ (.tup ys) from⟨hz,its,r',A5l.new _ _⟩)
  exact⟨.ref h'.objs.size,_,I2,rfl,q _ (I1.hok.fresh (dA _))⟩
 ·obtain⟨its,r',pl,hz⟩:=I.tuple hq
  exact call_tuple_same pl ⟨.ref p,H,I,rfl,q⟩
def tyV (K:aP)(T:String)(x:V)(H:Hp):Prop:=match x with
 | .str _=>T = "str"
 | .int _=>T = "int"
 | .ref p=>(T = "list" /\ ∃ xs,SqL K H p xs) \/ (T = "tuple" /\ ((∃ o,K.lookup p=some o/\o.cls = .type "tuple" /\ o.dict=none) \/ ∃ xs,H p=some (.tup xs))) \/
   (T = "dict" /\ ((∃ ep kvs,H p=some (.dK ep kvs)) \/ ∃ kvs,H p=some (.dT kvs))) \/ (T = "set" /\ ∃ S n,H p=some (.set S n))
 | _=>False
theorem Cq {pins:List (aD×bP)}{σ:St}{H:Hp}{s:aL}{T:String}{x:V}{v:aG}(I:Inv X pins σ H s)(r:RelV x v)(ty:tyV X.K T x H) :
  s.TypeIs v T /\ ∀ a,v = .ref a -> ∃ ob,s.heap.get? a=some ob/\ob.dict=none:=by
 cases x with
 | str z=>
  obtain⟨t,rfl⟩:=r
  cases(show T = "str" from ty)
  exact⟨typeIs_str s z t,fun _ e=>nomatch e⟩
 | int i=>
  obtain⟨t,rfl⟩:=r
  cases(show T = "int" from ty)
  exact⟨typeIs_int s i t,fun _ e=>nomatch e⟩
 | ref p=>
  cases r
  rcases ty with⟨rfl,xs,hq⟩ | ⟨rfl,⟨o,hk,hc,hd⟩ | ⟨xs,hx⟩⟩ | ⟨rfl,hk⟩ | ⟨rfl,S,n,hk⟩
  ·obtain⟨its,_,pl,_⟩:=I.list hq
   refine⟨pl.isList.typeIs,fun a e=>?_⟩
   cases e
   obtain⟨o,n,e,c,hd,_⟩:=pl
   exact⟨o,e,hd⟩
  ·refine⟨⟨o,I.kIn p o hk,hc⟩,fun a e=>?_⟩
   cases e
   exact⟨o,I.kIn _ o hk,hd⟩
  ·obtain⟨_,_,_,⟨o,e,c,_⟩,n⟩:=(show Ady X.prog X.w H s.heap p (.tup xs) from I.hok p _ hx)
   refine⟨⟨o,e,c⟩,fun a e=>?_⟩
   cases e
   exact n
  ·have z : ∃ o,s.heap.get? p=some o/\o.ExactDict:=by
    rcases hk with⟨ep,kvs,hk⟩ | ⟨kvs,hk⟩
    ·obtain⟨_,_,_,_,o,_,e,ex,_⟩:=I.hok p _ hk
     exact⟨o,e,ex⟩
    ·obtain⟨_,_,_,_,o,_,_,e,ex,_⟩:=I.hok p _ hk
     exact⟨o,e,ex⟩
   obtain⟨o,e,ex⟩:=z
   refine⟨⟨o,e,ex.1⟩,fun a e2=>?_⟩
   cases e2
   exact⟨o,e,ex.2.1⟩
  ·obtain⟨o,_,_,_,e,ex,_⟩:=I.hok p _ hk
   refine⟨⟨o,e,ex.1⟩,fun a e2=>?_⟩
   cases e2
   exact⟨o,e,ex.2.1⟩
 | _=>exact qC ty
noncomputable def tBM (K:aP)(T:String)(r:V->List V->Hp->VK->Prop)(to:TE)(t:TA):TE:=fun σ H Q=>to σ H fun x H1=>tyV K T x H1/\t σ H1 fun xs H2=>r x xs H2 Q
variable {o e:bA}{es:List bA}{to:TE}{t:TA}{name:aE}{apos cpos:cD}{T id:String}{r:V->List V->Hp->VK->Prop}
theorem sI (pa:PlainAttrs T)(slot:Slot T name id)(hty:typeOf (.builtin id)=pure (.type "method_descriptor"))(hm:MtR X id r)(ho:PE X o to)(ha:PA X (e::es) t)
  (hbase:rO o name X.env (bX o X.env)=bX o X.env:=by rfl)
  (hfew:((fY cpos (bL (e::es) X.env)).all (fun x=>!x.1)&&(rN cpos (rM [] X.env)).all (fun x=>x.1.isSome)
   && decide ((e::es).length+([]:List jK).length+(if ([]:List jK).isEmpty then 0 else 1)<30))=true:=by rfl)
  (hline:(apos.endLine == cpos.line)=true:=by rfl) (hs:bL (e::es) X.env=(false,bX e X.env)::bL es X.env:=by rfl) (hplain:(fY cpos (bL es X.env)).any (·.1)=false:=by rfl) :
  PE X (.Call (.Attribute o name apos) (e::es) [] cpos) (tBM X.K T r to t):=by
 intro pins s σ H Q I h
 refine wpAny_Call_method_late hbase hfew hline rfl (thn (ho pins s σ H _ I h) fun v s1 gh=>?_)
 obtain⟨x,H1,I1,r1,ty,q1⟩:=gh
 obtain⟨h1,h2⟩:=Cq I1 r1 ty
 refine⟨T,id,pa,slot,hty,h1,h2,?_⟩
 have hA:=ha cpos pins s1 σ H1 _ I1 q1
 rw[hs] at hA ⊢
 refine Calls.callWith_builtin (by show(false||(fY cpos (bL es X.env)).any (·.1))=false; rw[hplain] <;> rfl) (Calls.evalArgs_plain ?_)
 exact thn hA fun us s2 ⟨vs,H2,I2,r2,q2⟩=>hm pins s2 σ H2 x vs v us Q I2 r1 r2 q2
end
def MtM (X:Cx)(id:String)(r:V->List V->Hp->VK->Prop):Prop:=
 ∀ (pins:List (aD×bP)) (s:aL) (σ:St) (H:Hp) (x:V) (xs:List V) (v:aG) (us:List aG) (Q:VK),Inv X pins σ H s->RelV x v->Vals xs us->r x xs H Q ->
  aO (bC X.prog X.w) X.A (call (.builtin id) (v::us)) (EP X pins σ Q) X.xe s
theorem Vals.one : ∀ {x:V} {us:List aG},Vals [x] us -> ∃ u,us=[u]/\RelV x u:=by
 intro x us h
 cases h with
 | cons r t=>cases t; exact⟨_,rfl,r⟩
theorem Vals.two : ∀ {x y:V} {us:List aG},Vals [x,y] us -> ∃ u v,us=[u,v]/\RelV x u/\RelV y v
 | _,_,_,.cons r (.cons q .nil)=>⟨_,_,rfl,r,q⟩
theorem Vals.eraseIdx : ∀ {xs:List V} {us:List aG} (i:Nat),Vals xs us->Vals (xs.eraseIdx i) (us.eraseIdx i)
 | _,_,_,.nil=>.nil
 | _,_,0,.cons _ t=>t
 | _,_,i+1,.cons r t=>.cons r (Vals.eraseIdx i t)
theorem PZ {α:Type} : ∀ (l:List α) (i:Nat),(l.eraseIdx i).length≤l.length
 | [],_=>dA _
 | _::_,0=>DV _
 | _::r,i+1=>Nat.succ_le_succ (PZ r i)
section
variable {X:Cx}{pins:List (aD×bP)}{σ:St}{H:Hp}{s:aL}{l b:aD}{xs ys zs:List V}
theorem Inv.lset {its its':List aG}{n:Nat}{f:Array aG->Array aG}{t':Nat}(I:Inv X pins σ H s)(hH:H l=some (.lst xs))
  (e:s.heap.get? l=some { cls:=.type "list",data:=.seq its.toArray n }) (hf:f its.toArray=its'.toArray) (hv:Vals ys its') (hz:ys.length≤sizeLine) :
  Inv X pins σ (upd H l (.lst ys)) { s with heap:=s.heap.update l (oQ f),toks:=t' }:=by
 have q:=PySem.IsL.update e f
 rw[hf] at q
 refine I.write (x:=l) (e:=l) (by rw[hH]; exact trivial) (.inl rfl) (fun b' u hb hu=>(VO s.heap (oQ f) (mR hb)).trans hu) ⟨_,q⟩ ?_
 exact⟨hz,its',_,hv,q⟩
theorem Inv.lnew {its:List aG}{t':Nat}(I:Inv X pins σ H s)(hv:Vals ys its)(hz:ys.length≤sizeLine) :
  Inv X pins σ (upd H s.heap.objs.size (.lst ys)) { s with heap:=s.heap.push { cls:=.type "list",data:=.seq its.toArray },toks:=t' }:=
 I.laid (fun _ _ q=>cY _ q) (dA _) ⟨hz,its,0,hv,eW _ rfl⟩
theorem Inv.fresh (I:Inv X pins σ H s):H s.heap.objs.size=none:=I.hok.fresh (dA _)
theorem Inv.lstM (I:Inv X pins σ H s)(hH:H l=some (.lst xs)):xs.length≤sizeLine /\ ∃ (its:List aG) (n:Nat),Vals xs its/\xs.length=its.length/\s.heap.get? l=some { cls:=.type "list",data:=.seq its.toArray n }:=by
 obtain⟨z,its,n,r,e⟩:=I.hok l _ hH
 exact⟨z,its,n,r,r.length,e⟩
theorem On {n:Nat}(h:n≤sizeLine):EI n=false:=by
 unfold EI
 exact decide_eq_false (by omega)
end
section
variable {X:Cx}
def Cb:V->List V->Hp->VK->Prop:=fun x vs H Q=>∃ l xs y,x = .ref l/\vs=[y]/\H l=some (.lst xs)/\xs.length<sizeLine/\Q .non (upd H l (.lst (xs++[y])))
theorem BY:MtM X "list.append" Cb:=by
 intro pins s σ H x vs v us Q I rx rv h
 obtain⟨l,xs,y,rfl,rfl,hH,hz,q⟩:=h
 cases rx
 obtain⟨u,rfl,ru⟩:=rv.one
 obtain⟨z,its,n,r,hl,e⟩:=I.lstM hH
 refine wD F.slot_list_append ⟨_,e,rfl⟩ F.entry_list_append (F.args_list_append_2 _ _) (PySem.list_append l its.toArray n u (by rw[fW]; omega)) ⟨e,?_⟩
 refine⟨.non,_,I.lset (its':=its++[u]) hH e (by simp) (r.append (.cons ru .nil)) ?_,rfl,q⟩
 rw[pW,List.length_singleton]
 omega
def ZO:V->List V->Hp->VK->Prop:=fun x vs H Q=>∃ l xs i k y,x = .ref l/\vs=[.int i]/\H l=some (.lst xs) /\ -(2 ^ 63)≤i/\i<2 ^ 63/\seqIndex? i xs.length=some k/\xs[k]?=some y/\Q y (upd H l (.lst (xs.eraseIdx k)))
theorem Ot:MtM X "list.pop" ZO:=by
 intro pins s σ H x vs v us Q I rx rv h
 obtain⟨l,xs,i,k,y,rfl,rfl,hH,h1,h2,hk,hy,q⟩:=h
 cases rx
 obtain⟨u,rfl,ru⟩:=rv.one
 obtain⟨t,rfl⟩:=ru
 obtain⟨z,its,n,r,hl,e⟩:=I.lstM hH
 obtain⟨w,hw,rw'⟩:=r.get hy
 refine wD F.slot_list_pop ⟨_,e,rfl⟩ F.entry_list_pop (F.args_list_pop_2 _ _)
  (MeetsSeq.list_pop_at l its.toArray n i t k w (fitsIndex_both h1 h2) (by rw[fW,← hl]; exact hk) (by rw[← Array.getElem?_toList]; exact hw) (by rw[fW]; omega)) ⟨e,?_⟩
 refine⟨y,_,I.lset (its':=its.eraseIdx k) hH e ?_ (r.eraseIdx k) ?_,rw',q⟩
 ·show its.toArray.eraseIdxIfInBounds k=(its.eraseIdx k).toArray
  rw[List.eraseIdxIfInBounds_toArray]
 ·have:=PZ xs k
  omega
end
end L2
namespace Att
open PySem PySem.W PySem.Calls PyProof.Rows
theorem Kx {P:Params}{h:bG} : ∀ (ns:List Int) (vs:List aG),WellAll P h vs (ns.map WData.int)->rS vs ns:=by
 intro ns
 induction ns with
 | nil=>
  intro vs w
  rw[List.map_nil] at w
  cases w
  exact .nil
 | cons n ns ih=>
  intro vs w
  rw[fS] at w
  cases w with
  | cons a b=>
   cases a
   exact .cons _ _ (ih _ b)
theorem Ei {l:OpenLaw}{n:Nat}(hn:l.most=some n){P:Params}{h:bG}{args:List WData}{vals:List aG}
  (hpre:l.row.toRowW.claim.pre args=true) (hwl:WellAll P h vals args) :
  ∃ a vs ns,vals=[fZ a]/\args=[WData.list (ns.map WData.int)]/\h.get? a=some { cls:=.type "list",data:=.seq vs.toArray }/\rS vs ns/\ns.length≤n:=by
 have hsh:WShape.hasAll [] args [.list .int]=true:=(pre_splitW hpre).1
 have hc:l.pre.holds [] { args:=args }=true:=(pre_splitW hpre).2
 obtain⟨d,r,rfl,h1,h2⟩:=hasAllW_cons hsh
 obtain rfl:=hasAllW_nil h2
 obtain⟨xs,rfl,h3⟩:=hasW_list h1
 obtain⟨ns,rfl⟩:=items_int h3
 have hlen:ns.length≤n:=by
  unfold OpenLaw.pre at hc
  have h4:(WTm.not (.lt (.lit (.int (n:Int))) (.len (.arg 0)))).holds [] { args:=[.list (ns.map .int)] }=true:=by
   have h4:=(holds_andW hc).1
   rw[hn] at h4
   exact h4
  have h5:=condW_of h4 (w_not (w_lt w_lit (w_len_list (w_arg rfl))))
  rw[gM] at h5
  refine Nat.le_of_not_lt fun q=>?_
  have q':(n:Int)<((ns.length:Nat):Int):=by omega
  first
   | (rw[decide_eq_true q'] at h5; exact absurd h5 (by decide))
   | (simp at h5; omega)
 cases hwl with
 | cons w1 w2=>
  cases w2
  cases w1 with
  | list ho hall=>exact⟨_,_,ns,rfl,rfl,ho,Kx ns _ hall,hlen⟩
theorem Dg (l:OpenLaw)(args:List WData):l.row.toRowW.claim.post args (.bool true) args=true:=
 postW_of (r:=l.row.toRowW) (X:=(true == true))
  (show WShape.has [] (.bool true) .bool=true by first | rfl | decide | simp[WShape.has,WShape.arms,WShape.armsAll])
  (show(WTm.eq .res (.lit (.bool true))).value [] { args:=args,res:=some (.bool true),after:=args }=some (.bool (true == true)) from w_eq_bool (w_res rfl) w_lit) rfl
end Att
namespace L2
open PySem PySem.Spec PyProof.Rows
theorem QQ : ∀ {vs:List aG} {ns:List Int},rS vs ns->Vals (ns.map V.int) vs
 | _,_,.nil=>.nil
 | _,_,.cons n t h=>.cons ⟨t,rfl⟩ (QQ h)
def Only (H:Hp):Prop:=∀ b,H b=none \/ ∃ o xs,H b=some (.frz o (.lst xs))
theorem Oj {P:cL}{w:cA}{K:aP}{mg mb:aE->Option aG}{CX:CXT}{k:Nat}{fa a:aD}{fd:iA}{x:aE}{sp:Sp}{s₁:aL}{vs:List aG}{ns:List Int}
  (KX:K.In s₁.heap) (hns:s₁.heap.Ns eQ mg) (hb:s₁.heap.Ns builtinsNs mb) (hbb : ∀ x:aE,x ≠ "__name__" -> mb x=mQ x) (hlim:s₁.heap.NoLimit) (hg:s₁.gens = #[])
  (ha:s₁.heap.get? a=some { cls:=.type "list",data:=.seq vs.toArray }) (hi:rS vs ns) (hl:ns.length≤sizeLine) (hr:Room k wC)
  (F : ∀ base:bG,K.In base->base.Ns eQ mg->FnOk P w K mg base CX k fa fd [x] sp) (hbind : ∀ (s:aL) (u:aG),BindsTo s fd ⟨[u],[]⟩ [(x,u)])
  (hsp : ∀ H:Hp,Only H->SqL K H a (ns.map V.int)->sp [.ref a] H (fun v _=>v = .bl true) fun _ _ _=>False)
  (hCX : ∀ H e s',CX [] H s₁ (fun _ _ _=>False) e s'->False) :
  pR (bC P w) wC (.call (.ref fa) ⟨[.ref a],[]⟩) (fun r s'=>r = .ok (.ret (.bool true))/\OldK s₁.heap s'.heap/\s'.os=s₁.os/\rV s'.gens) s₁:=by
 have rv:=QQ hi
 have lenV:=hi.length
 have core : ∀ H:Hp,Only H->SqL K H a (ns.map V.int)->HOk P w H s₁.heap->(∀ b,H b≠none->b=a)->(H a≠none->K.lookup a=none) ->
   pR (bC P w) wC (.call (.ref fa) ⟨[.ref a],[]⟩) (fun r s'=>r = .ok (.ret (.bool true))/\OldK s₁.heap s'.heap/\s'.os=s₁.os/\rV s'.gens) s₁:=by
  intro H hO hS hok hA hK
  have base_of : ∀ {b:aD} {o:bP},s₁.heap.get? b=some o->H b=none->(pJ s₁.heap H).get? b=some o:=fun e n=>Qq e n
  have noA : ∀ {b:aD} {o:bP} {es:Array rT} {ep:Nat},s₁.heap.get? b=some o->o.data = .dict es ep->H b=none:=fun {b o es ep} e d=>by
   cases q:H b with
   | none=>rfl
   | some u=>
    have e':b=a:=hA b (by rw[q]; simp)
    subst e'
    rw[ha] at e; cases e
    have d':Data.seq vs.toArray _=Data.dict es ep:=d
    cases d'
  have nsK : ∀ {b:aD} {m:aE->Option aG},s₁.heap.Ns b m->(pJ s₁.heap H).Ns b m:=fun {b m} ⟨o,es,ep,e,d,r⟩=>⟨o,es,ep,base_of e (noA e d),d,r⟩
  have hKb:K.In (pJ s₁.heap H):=fun b o e=>base_of (KX b o e) (by
   cases q:H b with
   | none=>rfl
   | some u=>
    have e':b=a:=hA b (by rw[q]; simp)
    subst e'
    rw[hK (by rw[q]; simp)] at e; cases e)
  have hM:Mod K mg (pJ s₁.heap H):=⟨hKb,nsK hns,⟨mb,nsK hb,hbb⟩,let ⟨mc,h1,h2⟩:=hlim; ⟨mc,nsK h1,h2⟩⟩
  have e0:Env0 P w K mg (pJ s₁.heap H) wC [] s₁ H:=⟨rfl,hM,fun b o e=>Ms e,DY (Ex _ _),trivial,fun b hb=>absurd (show b∈([]:List aD) from hb) (by simp),hok,.of_eq hg⟩
  refine JM ((F _ hKb (nsK hns)).run wC [] s₁ H ⟨[.ref a],[]⟩ [.ref a] [.ref a] _ _ hr e0 (hbind s₁ (.ref a)) (.cons rfl .nil) (hsp H hO hS)) fun r s' h=>?_
  cases r with
  | error e=>exact(hCX H e s' h).elim
  | ok fl=>
   cases fl with
   | next=>exact qC h
   | brk=>exact qC h
   | cont=>exact qC h
   | ret u=>
    obtain⟨v,H',os,bare,un,hok',r',q⟩:=h
    have q':v = .bl true:=q
    subst q'
    obtain rfl:u=Value.bool true:=r'
    refine⟨rfl,OldK.of_keep fun b o e=>?_,os,bare⟩
    cases q:H b with
    | none=>exact un.keep b o e q (by intro z; exact absurd (show b∈([]:List aD) from z) (by simp)) (by simp)
    | some u=>
     rcases hO b with z | ⟨ob,xs,z⟩
     ·rw[q] at z; cases z
     ·have z2:=un.frzs b ob _ z
      obtain⟨e1,_⟩:=hok b _ z
      obtain⟨e2,_⟩:=hok' b _ z2
      rw[e] at e1; cases e1
      exact e2
 cases hk:K.lookup a with
 | some o=>
  have e:=KX a o hk
  rw[ha] at e
  cases e
  refine core (fun _=>none) (fun _=>.inl rfl) (.inr ⟨_,vs.toArray,_,hk,rfl,rfl,rfl,by rw[fW,lenV]; exact hl,by simpa using rv⟩) (fun b u z=>by have z':(none:Option HO)=some u:=z; cases z') (fun b z=>absurd rfl z) fun z=>absurd rfl z
 | none=>
  refine core (fun b=>if b=a then some (.frz { cls:=.type "list",data:=.seq vs.toArray } (.lst (ns.map V.int))) else none) (fun b=>?_) (.inl (.inr ⟨{ cls:=.type "list",data:=.seq vs.toArray },if_pos rfl⟩)) (fun b u z=>?_) (fun b z=>?_) fun _=>hk
  ·by_cases hb:b=a
   ·exact .inr ⟨_,_,if_pos hb⟩
   ·exact .inl (if_neg hb)
  ·by_cases hb:b=a
   ·have z':=(if_pos hb).symm.trans z
    cases z'
    subst hb
    exact⟨ha,by rw[gM]; exact hl,vs,_,rv,ha⟩
   ·have z':=(if_neg hb).symm.trans z
    cases z'
  ·by_cases hb:b=a
   ·exact hb
   ·exact absurd (if_neg hb) z
noncomputable def lY (s:cG):Arguments:=match s with
 | .FunctionDef _ a _ _ _ _ _ _ _ _=>a
 | _=>{ posonlyargs:=[],args:=[],vararg:=none,kwonlyargs:=[],kw_defaults:=[],kwarg:=none,defaults:=[] }
noncomputable def kG (s:cG):List cG:=match s with
 | .FunctionDef _ _ b _ _ _ _ _ _ _=>b
 | _=>[]
noncomputable def bZ (s:cG):iY:=match s with
 | .FunctionDef _ _ _ _ _ _ sc _ _ _=>sc
 | _=>{ kind:=.function,names:=[],isGenerator:=false,isCoroutine:=false }
noncomputable abbrev CX0:CXT:=fun _ _ _ _ _ _=>False
noncomputable abbrev E0:XK:=fun _ _ _=>False
theorem XE {X:Cx}:Passes CX0 X E0:=fun _ _ _ _ _ _ _ h=>h.elim
structure Fun (K:aP)(x qual:aE)(st:cG)(f:aD)(fd:iA):Prop where
 ex : ∃ (oc:aG) (od:Option aD) (kV doc pm:aG) (an:Option aD) (cdv ct:aG) (osl:Array (Option aG)),
  fd=lA x qual (lY st) (kG st) (bZ st) .none kV doc pm an cdv ct/\K.lookup f=some ⟨oc,od,.func fd,osl⟩/\zV K cdv qual=true
 kp:tT K (.ref f)=true
section
variable {P:cL}{w:cA}{K:aP}{mg:aE->Option aG}{base:bG}
theorem Fun.ok {x qual:aE}{st:cG}{f:aD}{fd:iA}{N ps:List aE}{k:Nat}{sp:Sp}(F:Fun K x qual st f fd)(S:FnScope N ps (bZ st))(len : ∀ vs H Q E,sp vs H Q E->vs.length=ps.length)
  (hbody : ∀ (cdv:aG) (A:eD) (outer:List Env) (s:aL) (H:Hp) (vs:List V) (Q:VK) (E:XK),Room k (A.deeper (pQ qual (bZ st) s.heap.objs.size f cdv))->sp vs H Q E ->
   ∃ t,PSs (tJ CX0 P w K mg base N qual (bZ st) f cdv A outer s H E).nox (kG st) t/\t { nx:=fun _ H'=>Q .non H',rt:=Q } (start N vs) H):FnOk P w K mg base CX0 (k+1) f fd ps sp:=by
 obtain⟨oc,od,kV,doc,pm,an,cdv,ct,osl,rfl,lk,hcd⟩:=F.ex
 refine XW lk hcd S len fun A outer s H vs Q E hr hsp=>?_
 obtain⟨t,h,q⟩:=hbody cdv A outer s H vs Q E hr hsp
 exact⟨t,h.nox,q⟩
theorem Fun.binds {x qual:aE}{st:cG}{f:aD}{fd:iA}{ps:List aE}(F:Fun K x qual st f fd)
  (h : ∀ (kV doc pm:aG) (an:Option aD) (cdv ct:aG) (us:List aG),us.length=ps.length->wF (lA x qual (lY st) (kG st) (bZ st) .none kV doc pm an cdv ct) ⟨us,[]⟩=pure (ps.zip us)):Binds K fd ps []:=by
 obtain⟨oc,od,kV,doc,pm,an,cdv,ct,osl,rfl,lk,hcd⟩:=F.ex
 exact .all (h kV doc pm an cdv ct)
theorem TN {x qual:aE}{st:cG}{f:aD}{oc:aG}{od an:Option aD}{osl:Array (Option aG)}{kV doc pm cdv ct:aG}(l:K.lookup f=some ⟨oc,od,.func (lA x qual (lY st) (kG st) (bZ st) .none kV doc pm an cdv ct),osl⟩)
  (c:zV K cdv qual=true) (k:tT K (.ref f)=true):Fun K x qual st f (lA x qual (lY st) (kG st) (bZ st) .none kV doc pm an cdv ct):=⟨⟨oc,od,kV,doc,pm,an,cdv,ct,osl,rfl,l,c⟩,k⟩
end
theorem eX {A:eD}{k:Nat}(hr:Room k A):A.units+40<cLine:=Nat.lt_of_le_of_lt (Nat.add_le_add_left (by decide:40≤64) _) hr.units
section
variable {X:Cx}
theorem pv (i:Nat){x:aE}{pos:cD}(hN:X.N[i]?=some x:=by rfl)(hv:lH X.env.scope x:=by first | exact aT rfl | exact aY (aT rfl) | exact aY (aY rfl))(hd:(x == ("__debug__" : aE))=false:=by decide)
  (hcd:(x == ("__classdict__" : aE))=false:=by decide):PE X (.Name x pos) (LP i):=nG hN hv hd hcd
theorem Ef:Ae3 X (.builtin "len") (fun xs H Q=>∃ a ep kvs,xs=[V.ref a]/\H a=some (.dK ep kvs)/\Q (.int kvs.length) H):=by
 intro pins s σ H xs us Q I r h
 obtain⟨a,ep,kvs,rfl,ha,q⟩:=h
 obtain⟨u,rfl,ru⟩:=vals1 r
 cases ru
 exact WV I (.inl ha) fun t s' I'=>⟨.int kvs.length,H,I',⟨t,rfl⟩,q⟩
end
theorem pK {A B:Prop}(h:B):if false=true then A else B:=by
 rw[if_neg mV]
 exact h
theorem pL {A B:Prop}(h:A):if true=true then A else B:=by
 rw[if_pos rfl]
 exact h
section
variable {prog:cL}{w:cA}{A:eD}{R:Result->aL->Prop}{s:aL}
theorem Hi {elt target iter:bA}{ifs:List bA}{scope:iY}{pos:cD}{it acc:aG}{env:Env}(I:Nat->aL->Prop)
  (turn : ∀ n s,I n s->aO (bC prog w) A (hU it) (fun r s₁=>match r with
   | none=>R (.ok .next) s₁
   | some v=>aO (bC prog w) A (JH target it v) (fun _ s₂=>aO (bC prog w) A (kL target env v) (fun _ s₃=>
     aO (bC prog w) A (forIn ifs true fun c r=>if r=true then do let ok ← isTrue c env (bX c env); pure (AH ok) else pure (AH r)) (fun ok s₄=>
      if ok=true then aO (bC prog w) A (bX elt env) (fun x s₅=>
       aO (bC prog w) A (call (.builtin "list.append") [acc,x]) (fun _ s₆=>∃ m,m<n/\I m s₆) (fun _ _=>False) s₅) (fun _ _=>False) s₄
      else ∃ m,m<n/\I m s₄) (fun _ _=>False) s₃) (fun _ _=>False) s₂) (fun _ _=>False) s₁) (fun _ _=>False) s)
  (n:Nat) (h:I n s):pR (bC prog w) A (.compLoop (.ListComp elt [⟨target,iter,ifs,0⟩] scope pos) 0 it acc env) R s:=by
 refine codeAny_loop rfl I (fun n s hI=>?_) n h
 show aO _ A ((compTurn (.ListComp elt [⟨target,iter,ifs,0⟩] scope pos) 0 it acc env).onRaise (fun x=>do noteFrame x env; theTreesLotGoes x)) _ _ s
 refine wpAny_noted ?_
 rw[compTurn_list]
 refine aJ (wpAny_standAt (aJ (mC (turn n s hI) (fun r s₁ h₁=>?_) fun _ _ h'=>h'.elim)))
 cases r with
 | none=>exact bE h₁
 | some v=>
  refine aJ (mC h₁ (fun _ s₂ h₂=>?_) fun _ _ h'=>h'.elim)
  refine aJ (mC h₂ (fun _ s₃ h₃=>aJ (mC h₃ (fun ok s₄ h₄=>?_) fun _ _ h'=>h'.elim)) fun _ _ h'=>h'.elim)
  cases ok with
  | false=>exact bE ⟨rfl,h₄⟩
  | true=>
   exact aJ (aJ (mC h₄ (fun x s₅ h₅=>aJ (mC h₅ (fun _ s₆ h₆=>bE (bE ⟨rfl,h₆⟩)) fun _ _ h'=>h'.elim)) fun _ _ h'=>h'.elim))
end
theorem cellOf_eq {env:Env}{n:aE}{c:aD}(h:env.cells.lookup n=some c):cellOf env n=pure c:=by
 unfold cellOf
 rw[h]
noncomputable def gC (env:Env):List (aE×mT)->List (aE×aD)->List (aE×aD)
 | [],cs=>cs
 | (n,k)::r,cs=>gC env r (if (k == hV)=true then(match env.cells.lookup n with | some c=>(n,c)::cs | none=>cs) else cs)
theorem SI {sc:iY}{env:Env}(h : ∀ n,(n,hV)∈sc.names -> ∃ c,env.cells.lookup n=some c):closureFor sc env=pure (gC env sc.names []):=by
 unfold closureFor
 generalize sc.names=l at h
 have go : ∀ (l:List (aE×mT)) (cs:List (aE×aD)),(∀ n,(n,hV)∈l -> ∃ c,env.cells.lookup n=some c) ->
   (forIn l cs (fun(x:aE×mT) (r:List (aE×aD))=>if (x.2 == hV)=true then(do let c ← cellOf env x.1; pure (AH ((x.1,c)::r))) else pure (AH r)):Sem (List (aE×aD)))=pure (gC env l cs):=by
  intro l
  induction l with
  | nil=>intro cs _; rfl
  | cons p r ih=>
   intro cs hl
   obtain⟨n,k⟩:=p
   rw[ED]
   have hr : ∀ n,(n,hV)∈r -> ∃ c,env.cells.lookup n=some c:=fun n hn=>hl n (eR _ hn)
   cases hk:(k == hV) with
   | true=>
    have ek:k=hV:=by simpa using hk
    subst ek
    obtain⟨c,hc⟩:=hl n dF
    have e1:gC env ((n,hV)::r) cs=gC env r ((n,c)::cs):=by
     show gC env r (if (hV == hV)=true then(match env.cells.lookup n with | some c=>(n,c)::cs | none=>cs) else cs)=_
     rw[hc]; rfl
    rw[e1]
    simp only[cellOf_eq hc,hk,if_true]
    exact ih ((n,c)::cs) hr
   | false=>
    have e1:gC env ((n,k)::r) cs=gC env r cs:=by
     show gC env r (if (k == hV)=true then(match env.cells.lookup n with | some c=>(n,c)::cs | none=>cs) else cs)=_
     rw[hk]; rfl
    rw[e1]
    simp only[hk,oW,if_false]
    exact ih cs hr
 have e:=go l [] h
 simp only[e]
 rfl
theorem HJ {env:Env} : ∀ (l:List (aE×mT)) (cs:List (aE×aD)),(∀ x c,cs.lookup x=some c->env.cells.lookup x=some c) -> ∀ x c,(gC env l cs).lookup x=some c->env.cells.lookup x=some c
 | [],cs,h,x,c,e=>h x c e
 | (n,k)::r,cs,h,x,c,e=>by
  refine HJ r _ ?_ x c e
  intro y d q
  by_cases hk:(k == hV)=true
  ·rw[if_pos hk] at q
   cases hc:env.cells.lookup n with
   | none=>rw[hc] at q; exact h y d q
   | some a=>
    rw[hc] at q
    by_cases hy:(y == n)=true
    ·simp only[nX,hy] at q
     have:y=n:=by simpa using hy
     rw[this,hc]; exact q
    ·have hy':(y == n)=false:=by simpa using hy
     simp only[nX,hy'] at q
     exact h y d q
  ·rw[if_neg hk] at q; exact h y d q
theorem RO {env:Env}{x:aE}{c:aD}(hx:env.cells.lookup x=some c) : ∀ (l:List (aE×mT)) (cs:List (aE×aD)),cs.lookup x=some c->(gC env l cs).lookup x=some c
 | [],cs,h=>h
 | (n,k)::r,cs,h=>by
  refine RO hx r _ ?_
  by_cases hk:(k == hV)=true
  ·rw[if_pos hk]
   cases hc:env.cells.lookup n with
   | none=>exact h
   | some a=>
    show EC x ((n,a)::cs)=some c
    by_cases hy:(x == n)=true
    ·have:x=n:=by simpa using hy
     subst this
     rw[hx] at hc; cases hc
     simp[nX]
    ·have hy':(x == n)=false:=by simpa using hy
     simp only[nX,hy']; exact h
  ·rw[if_neg hk]; exact h
theorem HM {env:Env}{x:aE}{c:aD}(hx:env.cells.lookup x=some c) : ∀ (l:List (aE×mT)) (cs:List (aE×aD)),(x,hV)∈l->(gC env l cs).lookup x=some c
 | [],cs,h=>by simp at h
 | (n,k)::r,cs,h=>by
  rcases fG.mp h with e | h
  ·cases e
   refine RO hx r _ ?_
   rw[if_pos (by rfl),hx]
   simp[nX]
  ·exact HM hx r _ h
theorem SA {sc:iY}{env:Env}(x:aE):(wB sc env).names.lookup x=(sc.names.lookup x).map fun k=>if (k == hV&&env.scope.kind == .function&&env.kindOf x == some .cell)=true then NameKind.cell else k:=by
 unfold wB
 show EC x (sc.names.map _)=_
 induction sc.names with
 | nil=>rfl
 | cons p r ih=>
  obtain⟨n,k⟩:=p
  show EC x ((if (k == hV&&env.scope.kind == .function&&env.kindOf n == some .cell)=true then(n,NameKind.cell) else(n,k))::List.map _ r)=_
  by_cases hy:(x == n)=true
  ·have:x=n:=by simpa using hy
   subst this
   by_cases hc:(k == hV&&env.scope.kind == .function&&env.kindOf x == some .cell)=true
   ·rw[if_pos hc]
    simp only[nX,hy,rP]
    rw[if_pos hc]
   ·rw[if_neg hc]
    simp only[nX,hy,rP]
    rw[if_neg hc]
  ·have hy':(x == n)=false:=by simpa using hy
   have e2:EC x ((n,k)::r)=EC x r:=by simp only[nX,hy']
   rw[e2]
   by_cases hc:(k == hV&&env.scope.kind == .function&&env.kindOf n == some .cell)=true
   ·rw[if_pos hc]
    simp only[nX,hy']
    exact ih
   ·rw[if_neg hc]
    simp only[nX,hy']
    exact ih
theorem lookup_mem {α:Type}{x:aE}{v:α} : ∀ {l:List (aE×α)},l.lookup x=some v->(x,v)∈l
 | [],h=>by simp at h
 | (n,k)::r,h=>by
  by_cases hy:(x == n)=true
  ·have:x=n:=by simpa using hy
   subst this
   simp[nX] at h
   subst h
   exact dF
  ·have hy':(x == n)=false:=by simpa using hy
   simp only[nX,hy'] at h
   exact eR _ (lookup_mem h)
noncomputable def iQ (X:Cx)(N:List aE)(sc:iY)(cl:List (aE×aD))(C:aD)(s₀:aL)(H₀:Hp)(ex:List aD):Cx:=
 { X with N:=N,s₀:=s₀,H₀:=H₀,env:=compEnvC sc cl C X.env,outer:=X.stack,ex:=ex,fn:=fun _=>false,pn:=[],xe:=fun _ _=>False }
structure CompScope (X:Cx)(N:List aE)(cap:List (Option Nat))(sc:iY):Prop where
 kind:sc.kind = .function
 nocell : ∀ y∈sc.names,y.2 ≠ .cell
 nm : ∀ y∈sc.names,y.2 = .local->sc.names.lookup y.1=some .local
 fre : ∀ y∈sc.names,y.2 = .free->X.env.scope.names.lookup y.1=some .cell \/ X.env.scope.names.lookup y.1=some .free
 len:cap.length=N.length
 cap : ∀ (i j:Nat),cap[i]?=some (some j) -> ∃ x,N[i]?=some x/\X.N[j]?=some x/\sc.names.lookup x=some .free
noncomputable def uB (cap:List (Option Nat))(σ:St):St:=cap.map fun o=>o.bind fun j=>(σ[j]?).join
def uD (X:Cx)(ifs:List bA)(t:TT):Prop:=
 ∀ (pins:List (aD×bP)) (s:aL) (σ:St) (H:Hp) (Q:Bool->Hp->Prop),Inv X pins σ H s->t σ H Q ->
  aO (bC X.prog X.w) X.A (forIn ifs true fun c r=>if r=true then do let ok ← isTrue c X.env (bX c X.env); pure (AH ok) else pure (AH r)) (TP X pins σ Q) X.xe s
noncomputable def ZT:TT:=fun _ H Q=>Q true H
theorem Ll {X:Cx}:uD X [] ZT:=fun _ _ _ H _ I h=>wpAny_tests_nil ⟨H,I,h⟩
theorem Lg {X:Cx}{c:bA}{t:TT}(h:PT X c t):uD X [c] t:=fun pins s σ H Q I hw=>wpAny_tests_one (h pins s σ H Q I hw)
def LN (cap:List (Option Nat))(J:It)(g:TG)(tc:TT)(te:TE)(σ:St)(H1:Hp)(Q:VK):Prop:=∀ D,H1 D=none ->
 ∃ W:Nat->Nat->List V->St->Hp->Prop,(∃ m,W 0 m [] (uB cap σ) (upd H1 D (.lst []))) /\
  ∀ i m ys σ' H',W i m ys σ' H'->H' D=some (.lst ys)/\((J.stop i H'/\Q (.ref D) H') \/
   (J.go i H'/\ys.length<sizeLine /\ ∃ M:List V->St->Hp->Prop,(∀ zs σ2 H2,M zs σ2 H2 -> ∃ m',m'<m/\W (i+1) m' zs σ2 H2) /\ ∀ x H2,J.yld i H' x H2->g x σ' H2 fun σ3 H3=>tc σ3 H3 fun b H4=>
    if b=true then te σ3 H4 fun y H5=>H5 D=some (.lst ys)/\M (ys++[y]) σ3 (upd H5 D (.lst (ys++[y]))) else M ys σ3 H4))
noncomputable def tLC (cap:List (Option Nat))(wi:TI)(g:TG)(tc:TT)(te:TE):TE:=fun σ H Q=>wi σ H fun J H1=>LN cap J g tc te σ H1 Q
section
variable {X:Cx}{N:List aE}{cap:List (Option Nat)}{sc:iY}{pins:List (aD×bP)}{σ:St}{H:Hp}{s:aL}
theorem CompScope.cells (S:CompScope X N cap sc)(ok:X.Ok) : ∀ n,(n,hV)∈sc.names -> ∃ c,X.env.cells.lookup n=some c:=fun n hn=>ok.has n (S.fre _ hn rfl)
theorem Dx (S:CompScope X N cap sc){fp:List aD}(I:Inv X pins σ H s)(hf : ∀ b∈fp,jZ X pins H b)(hl : ∀ b∈fp,b<s.heap.objs.size) :
  (iQ X N sc (gC X.env sc.names []) s.heap.objs.size s H fp).Ok:=by
 have sub : ∀ x c,(gC X.env sc.names []).lookup x=some c->X.env.cells.lookup x=some c:=HJ sc.names [] (fun x c e=>by simp at e)
 refine⟨I.ok.mod,?_,I.ok.glob,I.ok.blt,dA _,?_,?_,?_,I.ok.hd,I.ok.frames,.inl rfl,?_,I.bs,jW I.ok.bsz I.sz,?_,?_,I.stack,I.stkFree⟩
 ·exact S.kind
 ·intro x y c h1 h2
  exact I.ok.inj x y c (sub x c h1) (sub y c h2)
 ·intro x hx
  have hk:(wB sc X.env).names.lookup x=some .cell \/ (wB sc X.env).names.lookup x=some .free:=hx
  have hfree:sc.names.lookup x=some .free:=by
   rw[SA] at hk
   cases e:sc.names.lookup x with
   | none=>rw[e] at hk; simp at hk
   | some k=>
    rw[e] at hk
    have hm:=lookup_mem e
    have nc:=S.nocell _ hm
    simp only[rP,DU] at hk
    by_cases hc:(k == hV&&X.env.scope.kind == .function&&X.env.kindOf x == some .cell)=true
    ·have:(k == hV)=true:=by
      simp only[tY] at hc; exact hc.1.1
     rw[show k=hV by simpa using this]
    ·rw[if_neg hc] at hk
     rcases hk with q | q
     ·exact absurd q nc
     ·rw[q]
  obtain⟨c,hc⟩:=S.cells I.ok x (lookup_mem hfree)
  exact⟨c,HM hc _ _ (lookup_mem hfree)⟩
 ·intro x c h1 _
  exact absurd (show false=true from h1) mV
 ·intro b hb
  refine⟨fC (hl b hb),fun x c e=>(hf b hb).2.2.2.2.1 x c (sub x c e)⟩
 ·intro b o e hb
  rcases(hf b hb).2.2.2.1 with z | z
  ·exact I.ok.noex b o e z
  ·exact absurd (iE (cI e) (jW I.ok.bsz z)) (mD _)
 ·intro b hb hz
  obtain⟨_,h1,h2,_⟩:=hf b hb
  rcases fG.mp (I.stkSub b hz) with e | e
  ·exact h1 e
  ·exact h2 e
theorem Qj (S:CompScope X N cap sc){fp:List aD}{h':bG}{tk:Nat}(I:Inv X pins σ H s)(hf : ∀ b∈fp,jZ X pins H b)(hl : ∀ b∈fp,b<s.heap.objs.size)
  (hn:h'.Ns s.heap.objs.size fun _=>none) (hk : ∀ b o,s.heap.get? b=some o->h'.get? b=some o) :
  Inv (iQ X N sc (gC X.env sc.names []) s.heap.objs.size s H fp) [] (uB cap σ) H { s with heap:=h',toks:=tk }:=by
 have sub : ∀ x c,(gC X.env sc.names []).lookup x=some c->X.env.cells.lookup x=some c:=HJ sc.names [] (fun x c e=>by simp at e)
 have fr:H s.heap.objs.size=none:=I.hok.fresh (dA _)
 refine⟨Dx S I hf hl,rfl,I.bare,Un.kept hk,⟨_,hn,fun i x v e1 e2 e3=>?_⟩,fun x c e=>?_,fr,fun x c e=>I.Ad2 x c (sub x c e),fun p hp=>by simp[iQ] at hp,I.hok.kept hk,?_⟩
 ·have e2':(cap.map fun o=>o.bind fun j=>(σ[j]?).join)[i]?=some (some v):=e2
  rw[gN] at e2'
  cases hc:cap[i]? with
  | none=>rw[hc] at e2'; simp at e2'
  | some o=>
   rw[hc] at e2'
   simp only[rP,DU] at e2'
   cases o with
   | none=>simp at e2'
   | some j=>
    have e2':(σ[j]?).join=some v:=e2'
    have ej:σ[j]?=some (some v):=by
     cases q:σ[j]? with
     | none=>rw[q] at e2'; simp at e2'
     | some z=>rw[q] at e2'; simp at e2'; rw[e2']
    obtain⟨y,n1,n2,fr1⟩:=S.cap i j hc
    have exy:x=y:=gW (e1.symm.trans n1)
    subst exy
    have hmem:=lookup_mem fr1
    have hkind:=S.fre _ hmem rfl
    obtain⟨m,_,hlk⟩:=I.loc
    obtain⟨u,r,l⟩:=hlk j x v n2 ej (.inr hkind)
    refine⟨u,r,.inr ⟨?_,?_⟩⟩
    ·show(wB sc X.env).names.lookup x=some .cell \/ (wB sc X.env).names.lookup x=some .free
     rw[SA,fr1]
     simp only[rP,DU]
     by_cases hc:(hV == hV&&X.env.scope.kind == .function&&X.env.kindOf x == some .cell)=true
     ·exact .inl (if_pos hc)
     ·exact .inr (if_neg hc)
    ·rcases l with⟨k1,_⟩ | ⟨_,c,hc1,hcell⟩
     ·exfalso
      have k1':X.env.scope.names.lookup x=some .local:=k1
      rcases hkind with q | q
      ·rw[k1'] at q; cases q
      ·rw[k1'] at q; cases q
     ·obtain⟨oc,h1,h2⟩:=hcell
      exact⟨c,HM hc1 _ _ hmem,oc,hk _ _ h1,h2⟩
 ·obtain⟨v,oc,h1,h2⟩:=I.cell x c (sub x c e)
  exact⟨v,oc,hk _ _ h1,h2⟩
 ·show(cap.map _).length=N.length
  rw[gM,S.len]
theorem comp_back {fp:List aD}{cl:List (aE×aD)}{σ':St}{H':Hp}{s':aL}{pl:List (aD×bP)}(I:Inv X pins σ H s)(hf : ∀ b∈fp,jZ X pins H b)
  (I':Inv (iQ X N sc cl s.heap.objs.size s H fp) pl σ' H' s'):Inv X pins σ H' s':=
 I.call' I'.os (show Un (frs X.stack) fp H H' s.heap s'.heap from I'.base) I'.hok I'.bare fun b hb=>⟨(hf b hb).2.2.2.1,(hf b hb).2.1,(hf b hb).2.2.2.2.1,(hf b hb).2.2.2.2.2⟩
end
section
variable {X:Cx}{N:List aE}{cap:List (Option Nat)}{sc:iY}{elt iter tg:bA}{ifs:List bA}{pos:cD}{wi:TI}{g:TG}{tc:TT}{te:TE}
def Block (X:Cx)(N:List aE)(sc:iY)(tg elt:bA)(ifs:List bA)(g:TG)(tc:TT)(te:TE):Prop:=
 ∀ (cl:List (aE×aD)) (C:aD) (s₀:aL) (H₀:Hp) (ex:List aD),PG (iQ X N sc cl C s₀ H₀ ex) tg g/\uD (iQ X N sc cl C s₀ H₀ ex) ifs tc/\PE (iQ X N sc cl C s₀ H₀ ex) elt te
theorem MV {pins:List (aD×bP)}{σ:St}{H:Hp}{s:aL}{RR:aG->aD->Result->aL->Prop}{E:aG->aL->Prop}(hc:X.calm=true)(S:CompScope X N cap sc)(hb:Block X N sc tg elt ifs g tc te)
  {it:aD} {fp:List aD} {tn:Nat->bG->Prop} {J:It} {Q:VK} (I:Inv X pins σ H s) (T:Turn X.prog X.w X.K tg J fp it tn) (st:tn 0 s.heap) (hf : ∀ b∈fp,jZ X pins H b)
  (q:LN cap J g tc te σ H Q)
  (hRR : ∀ (D:aD) (s₀:aL) (H₀:Hp) (σ':St) (H':Hp) (s':aL),Inv X pins σ H₀ s₀->(∀ b∈fp,jZ X pins H₀ b)->Inv (iQ X N sc (gC X.env sc.names []) s₀.heap.objs.size s₀ H₀ fp) [] σ' H' s'->Q (.ref D) H' ->
   RR (.ref D) s₀.heap.objs.size (.ok .next) s') :
  aO (bC X.prog X.w) X.A (newList []) (fun acc s₃=>aO (bC X.prog X.w) X.A (newFunctionEnv sc X.env.globals (gC X.env sc.names []) [] X.env.qual none .none (some X.env)) (fun cenv s₄=>
   pR (bC X.prog X.w) X.A (.compStart (.ListComp elt [⟨tg,iter,ifs,0⟩] sc pos) 0 (.ref it) acc { cenv with scope:=wB sc X.env }) (RR acc cenv.locals) s₄) E s₃) E s:=by
 have hl : ∀ b∈fp,b<s.heap.objs.size:=fun b hb=>by
  obtain⟨o,e,_⟩:=T.obj 0 _ st b hb
  exact cI e
 refine nP (wpAny_newFunctionEnv S.nocell (by intro y hy; simp at hy) (fun h₁ hns₁ hsb₁=>?_) S.kind)
 dsimp only at hns₁ hsb₁ ⊢
 have I0:Inv X pins σ (upd H s.heap.objs.size (.lst [])) { s with heap:=s.heap.push { cls:=.type "list",data:=.seq ([]:List aG).toArray },toks:=s.toks }:=I.lnew (ys:=[]) .nil (by simp)
 obtain⟨W,⟨m0,w0⟩,turn⟩:=q s.heap.objs.size I.fresh
 generalize hs0:({ s with heap:=s.heap.push { cls:=.type "list",data:=.seq ([]:List aG).toArray },toks:=s.toks }:aL)=s0 at I0
 have hh:s.heap.push { cls:=.type "list",dict:=none,data:=.seq ([]:List aG).toArray }=s0.heap:=by rw[← hs0]
 have ht0:s0.toks=s.toks:=by rw[← hs0]
 have hg0:s0.gens=s.gens/\s0.drawn=s.drawn/\s0.os=s.os:=by rw[← hs0]; exact⟨rfl,rfl,rfl⟩
 rw[hh] at hns₁ hsb₁ ⊢
 have old0 : ∀ b o,s.heap.get? b=some o->s0.heap.get? b=some o:=fun b o e=>by rw[← hh]; exact cY _ e
 have old1 : ∀ b o,s0.heap.get? b=some o->h₁.get? b=some o:=fun b o e=>hsb₁.extBut b o (fC (cI e)) (cY _ e)
 have hl0 : ∀ b∈fp,b<s0.heap.objs.size:=fun b hb=>by
  obtain⟨o,e,_⟩:=T.obj 0 _ st b hb
  exact cI (old0 b o e)
 have hf0 : ∀ b∈fp,jZ X pins (upd H s.heap.objs.size (.lst [])) b:=fun b hb=>by
  refine⟨?_,(hf b hb).2⟩
  rw[fH (fC (hl b hb))]
  exact(hf b hb).1
 have I1:Inv (iQ X N sc (gC X.env sc.names []) s0.heap.objs.size s0 (upd H s.heap.objs.size (.lst [])) fp) [] (uB cap σ) (upd H s.heap.objs.size (.lst [])) { s0 with heap:=h₁,toks:=s.toks+0 }:=
  Qj S I0 hf0 hl0 hns₁ old1
 obtain⟨pg,pf,pe⟩:=hb (gC X.env sc.names []) s0.heap.objs.size s0 (upd H s.heap.objs.size (.lst [])) fp
 have st1:tn 0 h₁:=T.keep _ _ _ st fun b hb o e=>old1 b o (old0 b o e)
 have stat : ∀ {H':Hp},(∀ b∈fp,H' b=none) -> ∀ b∈fp,jZ (iQ X N sc (gC X.env sc.names []) s0.heap.objs.size s0 (upd H s.heap.objs.size (.lst [])) fp) [] H' b:=fun hn b hb=>
  ⟨hn b hb,(I1.ok.exf b hb).1,I1.ok.exfs b hb,.inl hb,(I1.ok.exf b hb).2,fun p hp=>by simp[iQ] at hp⟩
 have loop : ∀ s3:aL,s3 = { s0 with heap:=h₁,toks:=s.toks+0 } ->
   pR (bC X.prog X.w) X.A (.compLoop (.ListComp elt [⟨tg,iter,ifs,0⟩] sc pos) 0 (.ref it) (.ref s.heap.objs.size) (compEnvC sc (gC X.env sc.names []) s0.heap.objs.size X.env)) (RR (.ref s.heap.objs.size) s0.heap.objs.size) s3:=by
  rintro s3 rfl
  refine Hi (fun n s'=>∃ i ys σ' H',Inv (iQ X N sc (gC X.env sc.names []) s0.heap.objs.size s0 (upd H s.heap.objs.size (.lst [])) fp) [] σ' H' s'/\tn i s'.heap/\(∀ b∈fp,H' b=none)/\W i n ys σ' H') ?_ m0
   ⟨0,[],uB cap σ,_,I1,st1,fun b hb=>(hf0 b hb).1,w0⟩
  rintro n s3 ⟨i,ys,σ3,H3,I3,st3,fr3,w3⟩
  obtain⟨hD,h3⟩:=turn i n ys σ3 H3 w3
  rcases h3 with⟨stop,qn⟩ | ⟨go,hlen,M,hM,step⟩
  ·refine thn (T.done (iQ X N sc (gC X.env sc.names []) s0.heap.objs.size s0 (upd H s.heap.objs.size (.lst [])) fp) rfl rfl rfl hc i [] s3 σ3 H3 (fun _ _=>False) I3 (stat fr3) st3 stop) fun r s4 gh=>?_
   obtain⟨hr,I4⟩:=gh
   subst hr
   exact hRR _ s0 _ σ3 H3 s4 I0 hf0 I4 qn
  ·refine thn (T.item (iQ X N sc (gC X.env sc.names []) s0.heap.objs.size s0 (upd H s.heap.objs.size (.lst [])) fp) rfl rfl rfl hc i [] s3 σ3 H3 (fun _ _=>False) I3 (stat fr3) st3 go) fun r s4 gh=>?_
   obtain⟨u,hr,h4⟩:=gh
   subst hr
   refine thn h4 fun _ s5 gh=>?_
   obtain⟨x,H5,I5,r5,y5,st5,fr5⟩:=gh
   have I5':=I5.pinned (stat fr5) (T.obj _ _ st5)
   refine thn (pg _ s5 σ3 H5 x u _ I5' r5 (step x H5 y5)) fun _ s6 gh=>?_
   obtain⟨σ6,H6,I6,q6⟩:=gh
   refine thn (pf _ s6 σ6 H6 _ I6 q6) fun b s7 gh=>?_
   obtain⟨H7,I7,q7⟩:=gh
   have again : ∀ {s8:aL} {H8:Hp} {zs:List V},Inv (iQ X N sc (gC X.env sc.names []) s0.heap.objs.size s0 (upd H s.heap.objs.size (.lst [])) fp) ([]++xM fp s5.heap) σ6 H8 s8->M zs σ6 H8 ->
     ∃ m,m<n /\ ∃ i ys σ' H',Inv (iQ X N sc (gC X.env sc.names []) s0.heap.objs.size s0 (upd H s.heap.objs.size (.lst [])) fp) [] σ' H' s8/\tn i s8.heap/\(∀ b∈fp,H' b=none)/\W i m ys σ' H':=fun {s8 H8 zs} I8 w8=>by
    obtain⟨m',hm,w8⟩:=hM _ _ _ w8
    refine⟨m',hm,i+1,zs,σ6,H8,I8.unpinned,T.keep _ _ _ st5 fun b hb o e=>(I8.pin (b,o) (oR _ (oR _ (CF hb e)))).1,fun b hb=>?_,w8⟩
    obtain⟨o,e,d⟩:=T.obj _ _ st5 b hb
    exact(I8.pin (b,o) (oR _ (oR _ (CF hb e)))).2.1
   cases b with
   | false=>
    rw[if_neg mV] at q7 ⊢
    exact again I7 q7
   | true=>
    rw[if_pos rfl] at q7 ⊢
    refine thn (pe _ s7 σ6 H7 _ I7 q7) fun v s8 gh=>?_
    obtain⟨y,H8,I8,r8,hD8,w8⟩:=gh
    refine thn (BY _ s8 σ6 H8 (.ref s.heap.objs.size) [y] (.ref s.heap.objs.size) [v] (fun _ H9=>H9=upd H8 s.heap.objs.size (.lst (ys++[y]))) I8 rfl (.cons r8 .nil) ⟨_,ys,y,rfl,rfl,hD8,hlen,rfl⟩) fun _ s9 gh=>?_
    obtain⟨_,H9,I9,_,e9⟩:=gh
    subst e9
    exact again I9 w8
 have e3:({ s with heap:=h₁,toks:=s.toks+([]:List (aE×aG)).length }:aL) = { s0 with heap:=h₁,toks:=s.toks+0 }:=by
  rw[← hs0]; rfl
 have fin:=codeAny_compStart_list (loop _ rfl) (T.self X.A 0 _ _ _ st1 (loop _ rfl))
 rw[← e3] at fin
 exact fin
theorem XC (hc:X.calm=true)(S:CompScope X N cap sc)(hi:PI X tg iter wi)(hb:Block X N sc tg elt ifs g tc te)(hs : ∀ x,tQ iter X.env x=pure x:=by intro _; rfl) :
  PE X (.ListComp elt [⟨tg,iter,ifs,0⟩] sc pos) (tLC cap wi g tc te):=by
 intro pins s σ H Q I h
 rw[eval_ListComp]
 refine wpAny_comprehension_free (use:=none) rfl hs (SI (S.cells I.ok)) S.kind S.nm (thn (hi pins s σ H _ I h) fun v s1 h1=>thn h1 fun itv s2 h2=>?_)
 obtain⟨it,fp,tn,J,H2,e,I2,T,st2,f2,q2⟩:=h2
 subst e
 refine MV (RR:=fun acc C=>compPost (bC X.prog X.w) X.A X.xe none (EP X pins σ Q) acc C) hc S hb I2 T st2 f2 q2 ?_
 intro D s₀ H₀ σ' H' s' I0 f0 I' qD
 obtain⟨m,hn,_⟩:=id I'.loc
 have IX:=comp_back I0 f0 I'
 refine⟨m,hn,fun h' hs'=>⟨.ref D,H',?_,rfl,qD⟩⟩
 exact IX.turned (t':=s'.toks) (it:=s₀.heap.objs.size) (fun b o hb e=>(hs'.2 b hb).trans e) I'.free (kN I0.lt) (.inr I0.sz) (fun x c e z=>by
  obtain⟨v,oc,h1,_⟩:=I0.cell x c e
  exact absurd (cI h1) (by rw[z]; exact mD _)) fun p hp z=>by
   have h1:=(I0.pin p hp).1
   exact absurd (cI h1) (by rw[z]; exact mD _)
theorem Qa {i:Nat}{x:aE}{px spos:cD}(hc:X.calm=true)(hN:X.N.Nodup)(hi':X.N[i]?=some x)(hx:jY X.env.scope x)(S:CompScope X N cap sc)(hi:PI X tg iter wi)(hb:Block X N sc tg elt ifs g tc te)
  (hsw:nR (.ListComp elt [⟨tg,iter,ifs,0⟩] sc pos) (some (.Name x px)) spos.line X.env=pure true:=by rfl)
  (hs : ∀ x,tQ iter X.env x=pure x:=by intro _; rfl) (hf:X.fn x=true \/ X.env.scope.names.lookup x=some .local:=by first | exact .inl rfl | exact .inr rfl | assumption) :
  PS X (.Assign [.Name x px] (.ListComp elt [⟨tg,iter,ifs,0⟩] sc pos) spos) (EL (tLC cap wi g tc te) (CQ i)):=by
 intro pins s σ H D I h
 rw[exec_Assign_Name_used _ _ _ _ hsw]
 refine aJ (wpAny_standAt (aJ ?_))
 show aO _ X.A (do let _ ← comprehension (.ListComp elt [⟨tg,iter,ifs,0⟩] sc pos) sc X.env _ (newList []) false (bX iter X.env) (some (kL (.Name x px) X.env))) _ _ s
 refine aJ (mC (wpAny_comprehension_free (use:=some (kL (.Name x px) X.env)) (Q:=fun _ s'=>SP X pins D .next s') rfl hs (SI (S.cells I.ok)) S.kind S.nm
  (thn (hi pins s σ H _ I h) fun v s1 h1=>thn h1 fun itv s2 h2=>?_)) (fun _ s' hq=>bE (bE hq)) fun _ _ e=>e)
 obtain⟨it,fp,tn,J,H2,e,I2,T,st2,f2,q2⟩:=h2
 subst e
 refine MV (Q:=fun y H1=>CQ i y σ H1 D.nx) (RR:=fun acc C=>compPost (bC X.prog X.w) X.A X.xe (some (kL (.Name x px) X.env)) (fun _ s'=>SP X pins D .next s') acc C) hc S hb I2 T st2 f2 q2 ?_
 intro D' s₀ H₀ σ' H' s' I0 f0 I' qD
 obtain⟨m,hn,_⟩:=id I'.loc
 have IX:=comp_back I0 f0 I'
 have cellNe : ∀ x c,X.env.cells.lookup x=some c->c≠s₀.heap.objs.size:=fun x c e z=>by
  obtain⟨v,oc,h1,_⟩:=I0.cell x c e
  exact absurd (cI h1) (by rw[z]; exact mD _)
 show aO _ X.A (kL (.Name x px) X.env (.ref D')) _ _ _
 refine wpAny_assign_Name (QO IX hN hi' hx (show RelV (.ref D') (.ref D') from rfl) (fun s3 I3 ch=>?_) hf)
 obtain⟨a,sb,ha⟩:=ch
 have hne:s₀.heap.objs.size≠a:=by
  rcases ha with z | z
  ·rw[z]; exact kN I0.lt
  ·exact fun q=>cellNe x a z q.symm
 refine⟨m,Heap.Ns.sameBut hn sb hne,fun h' hs'=>⟨_,H',?_,qD⟩⟩
 exact I3.turned (t':=s3.toks) (it:=s₀.heap.objs.size) (fun b o hb e=>(hs'.2 b hb).trans e) I'.free (kN I0.lt) (.inr I0.sz) cellNe fun p hp z=>by
  have h1:=(I0.pin p hp).1
  exact absurd (cI h1) (by rw[z]; exact mD _)
end
noncomputable def UC (out:List (aE×mT))(XN N:List aE)(cap:List (Option Nat))(ns:List (aE×mT)):Bool:=
 ns.all (fun y=>y.2 != .cell)&&ns.all (fun y=>y.2 != .local||ns.lookup y.1 == some .local)&&ns.all (fun y=>y.2 != .free||out.lookup y.1 == some .cell||out.lookup y.1 == some .free) &&
 cap.length == N.length&&(cap.zip N).all (fun p=>match p.1 with | none=>true | some j=>XN[j]? == some p.2&&ns.lookup p.2 == some .free)
theorem hJ {X:Cx}{N:List aE}{cap:List (Option Nat)}{sc:iY}{out:List (aE×mT)}{XN:List aE}(h1:X.env.scope.names=out)(h2:X.N=XN)(chk:UC out XN N cap sc.names=true)(hk:sc.kind = .function):CompScope X N cap sc:=by
 unfold UC at chk
 simp only[tY,oV,bne_iff_ne,ne_eq,Bool.or_eq_true,beq_iff_eq] at chk
 obtain⟨⟨⟨⟨c1,c2⟩,c3⟩,c4⟩,c5⟩:=chk
 refine⟨hk,c1,fun y hy e=>?_,fun y hy e=>?_,c4,fun i j e=>?_⟩
 ·rcases c2 y hy with q | q
  ·exact absurd e q
  ·exact q
 ·rw[h1]
  rcases c3 y hy with(q | q) | q
  ·exact absurd e q
  ·exact .inl q
  ·exact .inr q
 ·have hi:i<cap.length:=(gE.mp e).1
  have hi':i<N.length:=by omega
  have hm:(cap[i],N[i])∈cap.zip N:=by
   have:(cap.zip N)[i]?=some (cap[i],N[i]):=by
    rw[List.getElem?_zip_eq_some]
    exact⟨iO hi,iO hi'⟩
   exact mU this
  have q:=c5 _ hm
  have ec:cap[i]=some j:=by
   rw[iO hi] at e
   exact gW e
  rw[ec] at q
  simp only[tY,beq_iff_eq] at q
  exact⟨N[i],iO hi',by rw[h2]; exact q.1,q.2⟩
abbrev Ext (H H':Hp):Prop:=∀ b o,H b=some o->H' b=some o
theorem Ext.refl {H:Hp}:Ext H H:=fun _ _ e=>e
theorem Ext.trans {H H1 H2:Hp}(a:Ext H H1)(b:Ext H1 H2):Ext H H2:=fun x o e=>b x o (a x o e)
theorem Ext.new {H:Hp}{p:aD}{o:HO}(n:H p=none):Ext H (upd H p o):=fun b u e=>by
 rw[fH (kJ e n)]; exact e
theorem Ext.rd {H H':Hp}(x:Ext H H'){a:aD}{u:HO}(r:Rd H a u):Rd H' a u:=by
 rcases r with r | ⟨o,r⟩
 ·exact .inl (x _ _ r)
 ·exact .inr ⟨o,x _ _ r⟩
theorem Ext.sqL {K:aP}{H H':Hp}(x:Ext H H'){a:aD}{xs:List V}(h:SqL K H a xs):SqL K H' a xs:=h.imp x.rd id
theorem Ext.none {H H':Hp}(x:Ext H H'){a:aD}(h:H' a=Option.none):H a=Option.none:=by
 cases e:H a with
 | none=>rfl
 | some o=>rw[x a o e] at h; cases h
open Classical in
noncomputable def hid (H:Hp)(P:aD->Prop):Hp:=fun a=>if P a then none else H a
theorem Acz {H:Hp}{P:aD->Prop}{a:aD}{o:HO}:hid H P a=some o ↔ ¬ P a/\H a=some o:=by
 unfold hid
 by_cases h:P a <;> simp[h]
theorem jR {H:Hp}{P:aD->Prop}{a:aD}{o:HO}(n : ¬ P a)(e:H a=some o):hid H P a=some o:=Acz.mpr ⟨n,e⟩
theorem Aba {H:Hp}{P:aD->Prop}:Ext (hid H P) H:=fun _ _ e=>(Acz.mp e).2
theorem dW {H H':Hp}{P:aD->Prop}(x:Ext H H'):Ext (hid H P) (hid H' P):=fun b o e=>by
 obtain⟨n,e⟩:=Acz.mp e
 exact jR n (x b o e)
theorem kF {H:Hp}{P P':aD->Prop}(s : ∀ a,P' a->P a):Ext (hid H P) (hid H P'):=fun b o e=>by
 obtain⟨n,e⟩:=Acz.mp e
 exact jR (fun q=>n (s b q)) e
abbrev DQ:=(Nat×List (aK×V)) ⊕ List (List aA×V)
noncomputable def dO:DQ->HO
 | .inl kvs=>.dK kvs.1 kvs.2
 | .inr ts=>.dT ts
def Hid (P:aD->Prop)(H:Hp):Prop:=∀ a,P a->(∃ xs,H a=some (.lst xs)) \/ ∃ q:DQ,H a=some (dO q)
theorem Hid.ext {P:aD->Prop}{H H':Hp}(h:Hid P H)(x:Ext H H'):Hid P H':=fun a p=>(h a p).imp (fun⟨xs,e⟩=>⟨xs,x _ _ e⟩) fun⟨xs,e⟩=>⟨xs,x _ _ e⟩
theorem Hid.new {P:aD->Prop}{H:Hp}(h:Hid P H){a:aD}(n:H a=none) : ¬ P a:=fun p=>by
 rcases h a p with⟨xs,e⟩ | ⟨xs,e⟩ <;> rw[n] at e <;> cases e
theorem Hid.tup {P:aD->Prop}{H:Hp}(h:Hid P H){a:aD}{xs:List V}(e:H a=some (.tup xs)):hid H P a=some (.tup xs):=jR (fun p=>by
 rcases h a p with⟨ys,e2⟩ | ⟨ys,e2⟩ <;> rw[e] at e2 <;> first | cases e2 | (cases ys <;> simp[dO] at e2)) e
abbrev orL (P:aD->Prop)(F:List aD):aD->Prop:=fun a=>P a \/ a∈F
theorem NH {P:aD->Prop}:orL P []=P:=by
 funext a
 simp[orL]
noncomputable def kD:aK->aA
 | .inl i=>.int i
 | .inr x=>.str x
mutual
def Acb (K:aP)(H:Hp):aA->V->Prop
 | .none,v=>v = .non
 | .bool b,v=>v = .bl b
 | .int i,v=>v = .int i
 | .str x,v=>v = .str x/\fA (.str x)=true
 | .list ds,v=>∃ a xs,v = .ref a/\SqL K H a xs/\Aaz K H ds xs
 | .tuple ds,v=>∃ a xs,v = .ref a/\H a=some (.tup xs)/\Aaz K H ds xs
 | .dict kds,v=>∃ a,v = .ref a/\((∃ kvs:Nat×List (aK×V),H a=some (.dK kvs.1 kvs.2)/\Ac1 K H kds kvs.2) \/ ∃ ts,H a=some (.dT ts)/\Awy K H kds ts)
def Aaz (K:aP)(H:Hp):List aA->List V->Prop
 | [],xs=>xs=[]
 | d::ds,xs=>∃ x r,xs=x::r/\Acb K H d x/\Aaz K H ds r
def Ac1 (K:aP)(H:Hp):List (aA×aA)->List (aK×V)->Prop
 | [],xs=>xs=[]
 | (k,d)::ds,xs=>∃ k' x r,xs=(k',x)::r/\k=kD k'/\Acb K H d x/\Ac1 K H ds r
def Ag2 (K:aP)(H:Hp):List (aA×aA)->List (List aA×V)->Prop
 | [],xs=>xs=[]
 | (k,d)::ds,xs=>∃ k' x r,xs=(k',x)::r/\(k = .tuple k'/\dC k'=true)/\Acb K H d x/\Ag2 K H ds r
def Awy (K:aP)(H:Hp):List (aA×aA)->List (List aA×V)->Prop
 | [],_=>False
 | (k,_)::ds,xs=>k = .none/\Ag2 K H ds xs
end
noncomputable def plK:List (aA×aA)->Bool
 | (.none,_)::_=>false
 | _=>true
section
variable {K:aP}{H H':Hp}
theorem Aco {v:V}:Acb K H .none v↔v = .non:=by simp[Acb]
theorem Aav {b:Bool}{v:V}:Acb K H (.bool b) v↔v = .bl b:=by simp[Acb]
theorem Aas {b:Int}{v:V}:Acb K H (.int b) v↔v = .int b:=by simp[Acb]
theorem Abk {b:aE}{v:V}:Acb K H (.str b) v↔v = .str b/\fA (.str b)=true:=by simp only[Acb]
theorem Abx {ds:List aA}{v:V}:Acb K H (.list ds) v ↔ ∃ a xs,v = .ref a/\SqL K H a xs/\Aaz K H ds xs:=by simp only[Acb]
theorem Aax {ds:List aA}{v:V}:Acb K H (.tuple ds) v ↔ ∃ a xs,v = .ref a/\H a=some (.tup xs)/\Aaz K H ds xs:=by simp only[Acb]
theorem Aez {ds:List (aA×aA)}{v:V}:Acb K H (.dict ds) v ↔ ∃ a,v = .ref a/\((∃ kvs:Nat×List (aK×V),H a=some (.dK kvs.1 kvs.2)/\Ac1 K H ds kvs.2) \/ ∃ ts,H a=some (.dT ts)/\Awy K H ds ts):=by simp only[Acb]
theorem Akc {xs:List (List aA×V)}:Ag2 K H [] xs↔xs=[]:=by simp[Ag2]
theorem Ahf {k d:aA}{ds:List (aA×aA)}{xs:List (List aA×V)}:Ag2 K H ((k,d)::ds) xs ↔ ∃ k' x r,xs=(k',x)::r/\(k = .tuple k'/\dC k'=true)/\Acb K H d x/\Ag2 K H ds r:=by simp only[Ag2]
theorem Agi {k m:aA}{ds:List (aA×aA)}{xs:List (List aA×V)}:Awy K H ((k,m)::ds) xs↔k = .none/\Ag2 K H ds xs:=by simp only[Awy]
theorem Qu {ds:List (aA×aA)}{xs:List (List aA×V)}(hk:plK ds=true) : ¬ Awy K H ds xs:=by
 cases ds with
 | nil=>simp[Awy]
 | cons p r=>
  obtain⟨k,d⟩:=p
  intro h
  rw[(Agi.mp h).1] at hk
  simp[plK] at hk
theorem BW {ds:List (aA×aA)}{v:V}(hk:plK ds=true):Acb K H (.dict ds) v ↔ ∃ a,∃ kvs:Nat×List (aK×V),v = .ref a/\H a=some (.dK kvs.1 kvs.2)/\Ac1 K H ds kvs.2:=by
 rw[Aez]
 constructor
 ·rintro⟨a,e,⟨kvs,h,r⟩ | ⟨ts,h,r⟩⟩
  ·exact⟨a,kvs,e,h,r⟩
  ·exact absurd r (Qu hk)
 ·rintro⟨a,kvs,e,h,r⟩
  exact⟨a,e,.inl ⟨kvs,h,r⟩⟩
theorem Ff {ds:List (aA×aA)}{v:V}{a:aD}{kvs:Nat×List (aK×V)}(e:v = .ref a)(h:H a=some (.dK kvs.1 kvs.2))(r:Ac1 K H ds kvs.2):Acb K H (.dict ds) v:=Aez.mpr ⟨a,e,.inl ⟨kvs,h,r⟩⟩
theorem Aau {xs:List V}:Aaz K H [] xs↔xs=[]:=by simp[Aaz]
theorem Aan {d:aA}{ds:List aA}{xs:List V}:Aaz K H (d::ds) xs ↔ ∃ x r,xs=x::r/\Acb K H d x/\Aaz K H ds r:=by simp only[Aaz]
theorem Acw {xs:List (aK×V)}:Ac1 K H [] xs↔xs=[]:=by simp[Ac1]
theorem Ab4 {k d:aA}{ds:List (aA×aA)}{xs:List (aK×V)}:Ac1 K H ((k,d)::ds) xs ↔ ∃ k' x r,xs=(k',x)::r/\k=kD k'/\Acb K H d x/\Ac1 K H ds r:=by simp only[Ac1]
theorem Arw {m:aA}{ds:List (aA×aA)}{v:V}:Acb K H (.dict ((.none,m)::ds)) v ↔ ∃ a ts,v = .ref a/\H a=some (.dT ts)/\Ag2 K H ds ts:=by
 rw[Aez]
 constructor
 ·rintro⟨a,e,⟨kvs,h,r⟩ | ⟨ts,h,r⟩⟩
  ·obtain⟨k',_,_,_,ek,_⟩:=Ab4.mp r
   cases k' <;> simp[kD] at ek
  ·exact⟨a,ts,e,h,(Agi.mp r).2⟩
 ·rintro⟨a,ts,e,h,r⟩
  exact⟨a,e,.inr ⟨ts,h,Agi.mpr ⟨rfl,r⟩⟩⟩
end
mutual
theorem Acb.ext {K:aP}{H H':Hp}(x:Ext H H') : ∀ {d:aA} {v:V},Acb K H d v->Acb K H' d v
 | .none,_,h=>Aco.mpr (Aco.mp h)
 | .bool _,_,h=>Aav.mpr (Aav.mp h)
 | .int _,_,h=>Aas.mpr (Aas.mp h)
 | .str _,_,h=>Abk.mpr (Abk.mp h)
 | .list ds,_,h=>by
  obtain⟨a,xs,e,s,r⟩:=Abx.mp h
  exact Abx.mpr ⟨a,xs,e,x.sqL s,Aaz.ext x r⟩
 | .tuple ds,_,h=>by
  obtain⟨a,xs,e,s,r⟩:=Aax.mp h
  exact Aax.mpr ⟨a,xs,e,x _ _ s,Aaz.ext x r⟩
 | .dict ds,_,h=>by
  obtain⟨a,e,⟨kvs,r,q⟩ | ⟨ts,r,q⟩⟩:=Aez.mp h
  ·exact Aez.mpr ⟨a,e,.inl ⟨kvs,x _ _ r,Ac1.ext x q⟩⟩
  ·exact Aez.mpr ⟨a,e,.inr ⟨ts,x _ _ r,Awy.ext x q⟩⟩
theorem Aaz.ext {K:aP}{H H':Hp}(x:Ext H H') : ∀ {ds:List aA} {vs:List V},Aaz K H ds vs->Aaz K H' ds vs
 | [],_,h=>Aau.mpr (Aau.mp h)
 | d::ds,_,h=>by
  obtain⟨y,r,e,h1,h2⟩:=Aan.mp h
  exact Aan.mpr ⟨y,r,e,Acb.ext x h1,Aaz.ext x h2⟩
theorem Ac1.ext {K:aP}{H H':Hp}(x:Ext H H') : ∀ {ds:List (aA×aA)} {vs:List (aK×V)},Ac1 K H ds vs->Ac1 K H' ds vs
 | [],_,h=>Acw.mpr (Acw.mp h)
 | (k,d)::ds,_,h=>by
  obtain⟨k',y,r,e,ek,h1,h2⟩:=Ab4.mp h
  exact Ab4.mpr ⟨k',y,r,e,ek,Acb.ext x h1,Ac1.ext x h2⟩
theorem Ag2.ext {K:aP}{H H':Hp}(x:Ext H H') : ∀ {ds:List (aA×aA)} {vs:List (List aA×V)},Ag2 K H ds vs->Ag2 K H' ds vs
 | [],_,h=>Akc.mpr (Akc.mp h)
 | (k,d)::ds,_,h=>by
  obtain⟨k',y,r,e,ek,h1,h2⟩:=Ahf.mp h
  exact Ahf.mpr ⟨k',y,r,e,ek,Acb.ext x h1,Ag2.ext x h2⟩
theorem Awy.ext {K:aP}{H H':Hp}(x:Ext H H') : ∀ {ds:List (aA×aA)} {vs:List (List aA×V)},Awy K H ds vs->Awy K H' ds vs
 | [],_,h=>absurd h (by simp[Awy])
 | (k,d)::ds,_,h=>Agi.mpr ⟨(Agi.mp h).1,Ag2.ext x (Agi.mp h).2⟩
end
section
variable {K:aP}{H H':Hp}
theorem Aaz.length : ∀ {ds:List aA} {vs:List V},Aaz K H ds vs->vs.length=ds.length
 | [],_,h=>by rw[Aau.mp h]; rfl
 | d::ds,_,h=>by
  obtain⟨y,r,e,h1,h2⟩:=Aan.mp h
  rw[e,mF,mF,Aaz.length h2]
theorem Aaz.get : ∀ {ds:List aA} {vs:List V} {i:Nat} {d:aA},Aaz K H ds vs->ds[i]?=some d -> ∃ v,vs[i]?=some v/\Acb K H d v
 | [],_,_,_,h,e=>by simp at e
 | d::ds,_,0,d',h,e=>by
  obtain⟨y,r,rfl,h1,h2⟩:=Aan.mp h
  have:d=d':=by simpa using e
  subst this
  exact⟨y,rfl,h1⟩
 | d::ds,_,i+1,d',h,e=>by
  obtain⟨y,r,rfl,h1,h2⟩:=Aan.mp h
  obtain⟨v,h3,h4⟩:=Aaz.get (i:=i) h2 (by simpa using e)
  exact⟨v,by simpa using h3,h4⟩
theorem Aaz.append : ∀ {ds es:List aA} {vs ws:List V},Aaz K H ds vs->Aaz K H es ws->Aaz K H (ds++es) (vs++ws)
 | [],es,_,_,h,g=>by rw[Aau.mp h]; exact g
 | d::ds,es,_,_,h,g=>by
  obtain⟨y,r,rfl,h1,h2⟩:=Aan.mp h
  exact Aan.mpr ⟨y,_,rfl,h1,Aaz.append h2 g⟩
theorem Aaz.snoc {ds:List aA}{vs:List V}{d:aA}{v:V}(h:Aaz K H ds vs)(g:Acb K H d v):Aaz K H (ds++[d]) (vs++[v]):=
 h.append (Aan.mpr ⟨v,[],rfl,g,Aau.mpr rfl⟩)
theorem Aaz.drop : ∀ {ds:List aA} {vs:List V} (n:Nat),Aaz K H ds vs->Aaz K H (ds.drop n) (vs.drop n)
 | _,_,0,h=>h
 | [],_,n+1,h=>by rw[Aau.mp h]; exact Aau.mpr rfl
 | d::ds,_,n+1,h=>by
  obtain⟨y,r,rfl,h1,h2⟩:=Aan.mp h
  exact Aaz.drop n h2
theorem Aaz.take : ∀ {ds:List aA} {vs:List V} (n:Nat),Aaz K H ds vs->Aaz K H (ds.take n) (vs.take n)
 | _,_,0,h=>Aau.mpr rfl
 | [],_,n+1,h=>by rw[Aau.mp h]; exact Aau.mpr rfl
 | d::ds,_,n+1,h=>by
  obtain⟨y,r,rfl,h1,h2⟩:=Aan.mp h
  exact Aan.mpr ⟨y,_,rfl,h1,Aaz.take n h2⟩
theorem Aaz.set {d:aA}{v:V}(g:Acb K H d v) : ∀ {ds:List aA} {vs:List V} (n:Nat),Aaz K H ds vs->Aaz K H (ds.set n d) (vs.set n v)
 | [],_,n,h=>by rw[Aau.mp h]; exact Aau.mpr rfl
 | e::ds,_,0,h=>by
  obtain⟨y,r,rfl,h1,h2⟩:=Aan.mp h
  exact Aan.mpr ⟨v,r,rfl,g,h2⟩
 | e::ds,_,n+1,h=>by
  obtain⟨y,r,rfl,h1,h2⟩:=Aan.mp h
  exact Aan.mpr ⟨y,_,rfl,h1,Aaz.set g n h2⟩
theorem GN : ∀ ns:List Int,Aaz K H (ns.map bT) (ns.map V.int)
 | []=>Aau.mpr rfl
 | n::r=>Aan.mpr ⟨_,_,rfl,Aas.mpr rfl,GN r⟩
theorem Im {k:aK}{v:V}(h:Acb K H (kD k) v):v=kV k:=by
 cases k with
 | inl i=>exact Aas.mp h
 | inr x=>exact(Abk.mp h).1
mutual
theorem Acb.key {K:aP}{H:Hp} : ∀ (d:aA) {v:V},cC d=true->Acb K H d v->Ajr H d v
 | .int i,v,_,h=>by simpa [Ajr] using Aas.mp h
 | .str i,v,_,h=>by simpa [Ajr] using(Abk.mp h).1
 | .tuple ds,v,k,h=>by
  obtain⟨a,xs,e,s,r⟩:=Aax.mp h
  simp only[Ajr]
  exact⟨a,xs,e,s,Aaz.keys ds (by simpa [cC] using k) r⟩
 | .none,v,k,_=>by simp[cC] at k
 | .bool _,v,k,_=>by simp[cC] at k
 | .list _,v,k,_=>by simp[cC] at k
 | .dict _,v,k,_=>by simp[cC] at k
theorem Aaz.keys {K:aP}{H:Hp} : ∀ (ds:List aA) {vs:List V},dC ds=true->Aaz K H ds vs->Af6 H ds vs
 | [],vs,_,h=>by simpa [Af6] using Aau.mp h
 | d::ds,vs,k,h=>by
  have k':cC d=true/\dC ds=true:=by simpa [dC] using k
  obtain⟨y,r,e,h1,h2⟩:=Aan.mp h
  simp only[Af6]
  exact⟨y,r,e,Acb.key d k'.1 h1,Aaz.keys ds k'.2 h2⟩
end
end
mutual
noncomputable def bS:aA->Bool
 | .list _=>false
 | .dict _=>false
 | .tuple ds=>nC ds
 | _=>true
noncomputable def nC:List aA->Bool
 | []=>true
 | d::r=>bS d&&nC r
end
theorem CG : ∀ ds:List aA,nC ds=ds.all bS
 | []=>by simp[nC]
 | d::r=>by simp[nC,CG r]
mutual
theorem Acb.flat {K:aP}{H H':Hp}(x : ∀ a xs,H a=some (.tup xs)->H' a=some (.tup xs)) : ∀ (d:aA) {v:V},bS d=true->Acb K H d v->Acb K H' d v
 | .none,_,_,h=>Aco.mpr (Aco.mp h)
 | .bool _,_,_,h=>Aav.mpr (Aav.mp h)
 | .int _,_,_,h=>Aas.mpr (Aas.mp h)
 | .str _,_,_,h=>Abk.mpr (Abk.mp h)
 | .tuple ds,_,f,h=>by
  obtain⟨a,xs,e,s,r⟩:=Aax.mp h
  exact Aax.mpr ⟨a,xs,e,x _ _ s,Aaz.flat x ds (by simpa [bS] using f) r⟩
 | .list _,_,f,_=>by simp[bS] at f
 | .dict _,_,f,_=>by simp[bS] at f
theorem Aaz.flat {K:aP}{H H':Hp}(x : ∀ a xs,H a=some (.tup xs)->H' a=some (.tup xs)) : ∀ (ds:List aA) {vs:List V},nC ds=true->Aaz K H ds vs->Aaz K H' ds vs
 | [],_,_,h=>Aau.mpr (Aau.mp h)
 | d::ds,_,f,h=>by
  have f':bS d=true/\nC ds=true:=by simpa [nC] using f
  obtain⟨y,r,e,h1,h2⟩:=Aan.mp h
  exact Aan.mpr ⟨y,r,e,Acb.flat x d f'.1 h1,Aaz.flat x ds f'.2 h2⟩
end
inductive All3 {α β γ:Type}(R:α->β->γ->Prop):List α->List β->List γ->Prop
 | nil:All3 R [] [] []
 | cons {a b c as bs cs}:R a b c->All3 R as bs cs->All3 R (a::as) (b::bs) (c::cs)
theorem All3.imp {α β γ:Type}{R S:α->β->γ->Prop} : ∀ {as:List α} {bs:List β} {cs:List γ},All3 R as bs cs->(∀ a b c,c∈cs->R a b c->S a b c)->All3 S as bs cs:=by
 intro as bs cs h
 induction h with
 | nil=>exact fun _=>.nil
 | cons h _ ih=>exact fun f=>.cons (f _ _ _ dF h) (ih fun a b c m=>f a b c (eR _ m))
def Agu (K:aP)(B H:Hp):Nat->aA->V->List aD->Prop
 | 0,d,v,F=>F=[]/\Acb K B d v
 | n+1,d,v,F=>match d with
  | .list ds=>∃ p xs Fs,v = .ref p/\H p=some (.lst xs)/\F=p::Fs.flatten/\All3 (Agu K B H n) ds xs Fs
  | .dict kds=>∃ p,∃ kvs:Nat×List (aK×V),∃ Fs,v = .ref p/\H p=some (.dK kvs.1 kvs.2)/\F=p::Fs.flatten/\All3 (fun(kd:aA×aA) (kv:aK×V) f=>kd.1=kD kv.1/\Agu K B H n kd.2 kv.2 f) kds kvs.2 Fs
  | .tuple ds=>(n=0/\F=[]/\Acb K B (.tuple ds) v) \/ (n≠0 /\ ∃ p xs Fs,v = .ref p/\B p=some (.tup xs)/\F=Fs.flatten/\All3 (Agu K B H n) ds xs Fs)
  | d=>F=[]/\Acb K B d v
theorem Agu.keep {K:aP}{B B' H H':Hp}(xb:Ext B B') : ∀ {n:Nat} {d:aA} {v:V} {F:List aD},(∀ a∈F,H' a=H a)->Agu K B H n d v F->Agu K B' H' n d v F
 | 0,d,v,F,_,h=>⟨h.1,h.2.ext xb⟩
 | n+1,.list ds,v,F,kp,h=>by
  obtain⟨p,xs,Fs,e,hp,rfl,q⟩:=h
  refine⟨p,xs,Fs,e,(kp p dF).trans hp,rfl,q.imp fun a b c m r=>Agu.keep xb (fun z hz=>kp z (eR _ (rQ.mpr ⟨c,m,hz⟩))) r⟩
 | n+1,.dict kds,v,F,kp,h=>by
  obtain⟨p,xs,Fs,e,hp,rfl,q⟩:=h
  refine⟨p,xs,Fs,e,(kp p dF).trans hp,rfl,q.imp fun a b c m r=>⟨r.1,Agu.keep xb (fun z hz=>kp z (eR _ (rQ.mpr ⟨c,m,hz⟩))) r.2⟩⟩
 | n+1,.none,v,F,_,h=>⟨h.1,h.2.ext xb⟩
 | n+1,.bool _,v,F,_,h=>⟨h.1,h.2.ext xb⟩
 | n+1,.int _,v,F,_,h=>⟨h.1,h.2.ext xb⟩
 | n+1,.str _,v,F,_,h=>⟨h.1,h.2.ext xb⟩
 | n+1,.tuple ds,v,F,kp,h=>by
  rcases h with⟨h0,h1,h2⟩ | ⟨h0,p,xs,Fs,e,hp,rfl,q⟩
  ·exact .inl ⟨h0,h1,h2.ext xb⟩
  ·exact .inr ⟨h0,p,xs,Fs,e,xb _ _ hp,rfl,q.imp fun a b c m r=>Agu.keep xb (fun z hz=>kp z (rQ.mpr ⟨c,m,hz⟩)) r⟩
theorem QC {K:aP}{B:Hp}{R:aA->V->List aD->Prop}(f : ∀ d v F,R d v F->Acb K B d v) : ∀ {ds:List aA} {xs:List V} {Fs:List (List aD)},All3 R ds xs Fs->Aaz K B ds xs:=by
 intro ds xs Fs h
 induction h with
 | nil=>exact Aau.mpr rfl
 | cons h _ ih=>exact Aan.mpr ⟨_,_,rfl,f _ _ _ h,ih⟩
theorem Sa {K:aP}{B:Hp}{R:aA×aA->aK×V->List aD->Prop}(f : ∀ d v F,R d v F->d.1=kD v.1/\Acb K B d.2 v.2) : ∀ {ds:List (aA×aA)} {xs:List (aK×V)} {Fs:List (List aD)},All3 R ds xs Fs->Ac1 K B ds xs:=by
 intro ds xs Fs h
 induction h with
 | nil=>exact Acw.mpr rfl
 | @cons p q F ds xs Fs h _ ih=>
  obtain⟨k,d⟩:=p
  obtain⟨k',v⟩:=q
  exact Ab4.mpr ⟨_,_,_,rfl,(f _ _ _ h).1,(f _ _ _ h).2,ih⟩
theorem Agu.share {K:aP}{B B' H:Hp}(xb:Ext B B') : ∀ {n:Nat} {d:aA} {v:V} {F:List aD},(∀ a∈F,∀ o,H a=some o->B' a=some o)->Agu K B H n d v F->Acb K B' d v
 | 0,d,v,F,_,h=>h.2.ext xb
 | n+1,.list ds,v,F,kp,h=>by
  obtain⟨p,xs,Fs,e,hp,rfl,q⟩:=h
  refine Abx.mpr ⟨p,xs,e,SqL.of (kp p dF _ hp),?_⟩
  exact QC (fun d v F r=>r) (q.imp fun a b c m r=>Agu.share xb (fun z hz=>kp z (eR _ (rQ.mpr ⟨c,m,hz⟩))) r)
 | n+1,.dict kds,v,F,kp,h=>by
  obtain⟨p,xs,Fs,e,hp,rfl,q⟩:=h
  refine Ff e (kp p dF _ hp) ?_
  exact Sa (R:=fun kd kv _=>kd.1=kD kv.1/\Acb K B' kd.2 kv.2) (fun d v F r=>r) (q.imp fun a b c m r=>⟨r.1,Agu.share xb (fun z hz=>kp z (eR _ (rQ.mpr ⟨c,m,hz⟩))) r.2⟩)
 | n+1,.none,v,F,_,h=>h.2.ext xb
 | n+1,.bool _,v,F,_,h=>h.2.ext xb
 | n+1,.int _,v,F,_,h=>h.2.ext xb
 | n+1,.str _,v,F,_,h=>h.2.ext xb
 | n+1,.tuple ds,v,F,kp,h=>by
  rcases h with⟨h0,h1,h2⟩ | ⟨h0,p,xs,Fs,e,hp,rfl,q⟩
  ·exact h2.ext xb
  ·refine Aax.mpr ⟨p,xs,e,xb _ _ hp,?_⟩
   exact QC (fun d v F r=>r) (q.imp fun a b c m r=>Agu.share xb (fun z hz=>kp z (rQ.mpr ⟨c,m,hz⟩)) r)
noncomputable def cS:Nat->aA->Bool
 | 0,d=>bS d
 | n+1,.list ds=>ds.all (cS n)
 | n+1,.dict kds=>kds.all fun kd=>cS n kd.2
 | n+2,.tuple ds=>ds.all (cS (n+1))
 | n+1,d=>bS d
theorem Agu.flat {K:aP}{B B' H:Hp}(xb : ∀ a xs,B a=some (.tup xs)->B' a=some (.tup xs)) : ∀ {n:Nat} {d:aA} {v:V} {F:List aD},cS n d=true->Agu K B H n d v F->Agu K B' H n d v F
 | 0,d,v,F,f,h=>⟨h.1,h.2.flat xb d f⟩
 | n+1,.list ds,v,F,f,h=>by
  obtain⟨p,xs,Fs,e,hp,rfl,q⟩:=h
  refine⟨p,xs,Fs,e,hp,rfl,?_⟩
  have f' : ∀ d∈ds,cS n d=true:=by simpa [cS] using f
  clear hp f e
  induction q with
  | nil=>exact .nil
  | cons h t ih=>exact .cons (Agu.flat xb (f' _ dF) h) (ih fun d m=>f' d (eR _ m))
 | n+1,.dict kds,v,F,f,h=>by
  obtain⟨p,xs,Fs,e,hp,rfl,q⟩:=h
  refine⟨p,xs,Fs,e,hp,rfl,?_⟩
  have f' : ∀ d∈kds,cS n d.2=true:=fun d m=>by
   have:kds.all (fun kd=>cS n kd.2)=true:=by simpa [cS] using f
   exact oV.mp this d m
  clear hp f e
  obtain⟨xe,xs⟩:=xs
  replace q:All3 _ kds xs Fs:=q
  show All3 _ kds xs Fs
  induction q with
  | nil=>exact .nil
  | cons h t ih=>exact .cons ⟨h.1,Agu.flat xb (f' _ dF) h.2⟩ (ih fun d m=>f' d (eR _ m))
 | n+1,.none,v,F,f,h=>⟨h.1,h.2.flat xb _ f⟩
 | n+1,.bool _,v,F,f,h=>⟨h.1,h.2.flat xb _ f⟩
 | n+1,.int _,v,F,f,h=>⟨h.1,h.2.flat xb _ f⟩
 | n+1,.str _,v,F,f,h=>⟨h.1,h.2.flat xb _ f⟩
 | 1,.tuple ds,v,F,f,h=>by
  rcases h with⟨h0,h1,h2⟩ | ⟨h0,_⟩
  ·exact .inl ⟨h0,h1,h2.flat xb _ f⟩
  ·exact absurd rfl h0
 | n+2,.tuple ds,v,F,f,h=>by
  rcases h with⟨h0,_⟩ | ⟨h0,p,xs,Fs,e,hp,rfl,q⟩
  ·exact absurd h0 (by omega)
  ·refine .inr ⟨h0,p,xs,Fs,e,xb _ _ hp,rfl,?_⟩
   have f' : ∀ d∈ds,cS (n+1) d=true:=by simpa [cS] using f
   clear hp f e
   induction q with
   | nil=>exact .nil
   | cons h t ih=>exact .cons (Agu.flat xb (f' _ dF) h) (ih fun d m=>f' d (eR _ m))
theorem All3.of {α β γ:Type}{R:α->β->γ->Prop} : ∀ {as:List α} {bs:List β} {cs:List γ},All3 R as bs cs -> ∀ c∈cs,∃ a b,R a b c:=by
 intro as bs cs h
 induction h with
 | nil=>exact fun c m=>by simp at m
 | cons h _ ih=>
  intro c m
  rcases fG.mp m with rfl | m
  ·exact⟨_,_,h⟩
  ·exact ih c m
mutual
noncomputable def ndD:aA->Bool
 | .dict _=>false
 | .list ds=>uA ds
 | .tuple ds=>uA ds
 | _=>true
noncomputable def uA:List aA->Bool
 | []=>true
 | d::r=>ndD d&&uA r
end
noncomputable def jN:Nat->aA->Bool
 | 0,d=>ndD d
 | n+1,.list ds=>ds.all (jN n)
 | n+1,.dict kds=>kds.all fun kd=>jN n kd.2
 | _,_=>false
theorem Bo (xs:List V) : ∀ q,HO.lst xs≠dO q:=fun q z=>by cases q <;> cases z
theorem Bm (xs:List V) : ∀ q,HO.tup xs≠dO q:=fun q z=>by cases q <;> cases z
theorem Bt (o:bP)(u:HO) : ∀ q,HO.frz o u≠dO q:=fun q z=>by cases q <;> cases z
def NdX (H H':Hp):Prop:=∀ a o,H a=some o->(∀ q,o≠dO q)->H' a=some o
mutual
theorem Acb.nd {K:aP}{H H':Hp}(x:NdX H H') : ∀ (d:aA) {v:V},ndD d=true->Acb K H d v->Acb K H' d v
 | .none,_,_,h=>Aco.mpr (Aco.mp h)
 | .bool _,_,_,h=>Aav.mpr (Aav.mp h)
 | .int _,_,_,h=>Aas.mpr (Aas.mp h)
 | .str _,_,_,h=>Abk.mpr (Abk.mp h)
 | .tuple ds,_,f,h=>by
  obtain⟨a,xs,e,s,r⟩:=Aax.mp h
  exact Aax.mpr ⟨a,xs,e,x _ _ s (Bm _),Aaz.nd x ds (by simpa [ndD] using f) r⟩
 | .list ds,_,f,h=>by
  obtain⟨a,xs,e,s,r⟩:=Abx.mp h
  refine Abx.mpr ⟨a,xs,e,s.imp (fun s=>?_) id,Aaz.nd x ds (by simpa [ndD] using f) r⟩
  rcases s with s | ⟨o,s⟩
  ·exact .inl (x _ _ s (Bo _))
  ·exact .inr ⟨o,x _ _ s (Bt _ _)⟩
 | .dict _,_,f,_=>by simp[ndD] at f
theorem Aaz.nd {K:aP}{H H':Hp}(x:NdX H H') : ∀ (ds:List aA) {vs:List V},uA ds=true->Aaz K H ds vs->Aaz K H' ds vs
 | [],_,_,h=>Aau.mpr (Aau.mp h)
 | d::ds,_,f,h=>by
  have f':ndD d=true/\uA ds=true:=by simpa [uA] using f
  obtain⟨y,r,e,h1,h2⟩:=Aan.mp h
  exact Aan.mpr ⟨y,r,e,Acb.nd x d f'.1 h1,Aaz.nd x ds f'.2 h2⟩
end
theorem Agu.mut {K:aP}{B H:Hp} : ∀ {n:Nat} {d:aA} {v:V} {F:List aD},Agu K B H n d v F -> ∀ a∈F,(∃ xs,H a=some (.lst xs)) \/ ∃ q:DQ,H a=some (dO q)
 | 0,d,v,F,h,a,m=>by rw[h.1] at m; simp at m
 | n+1,.list ds,v,F,h,a,m=>by
  obtain⟨p,xs,Fs,e,hp,rfl,q⟩:=h
  rcases fG.mp m with e1 | m2
  ·rw[e1]; exact .inl ⟨xs,hp⟩
  ·obtain⟨f,hf,ha⟩:=rQ.mp m2
   obtain⟨_,_,r⟩:=q.of f hf
   exact Agu.mut r a ha
 | n+1,.dict kds,v,F,h,a,m=>by
  obtain⟨p,xs,Fs,e,hp,rfl,q⟩:=h
  rcases fG.mp m with e1 | m2
  ·rw[e1]; exact .inr ⟨.inl xs,hp⟩
  ·obtain⟨f,hf,ha⟩:=rQ.mp m2
   obtain⟨_,_,r⟩:=q.of f hf
   exact Agu.mut r.2 a ha
 | n+1,.none,v,F,h,a,m=>by rw[h.1] at m; simp at m
 | n+1,.bool _,v,F,h,a,m=>by rw[h.1] at m; simp at m
 | n+1,.int _,v,F,h,a,m=>by rw[h.1] at m; simp at m
 | n+1,.str _,v,F,h,a,m=>by rw[h.1] at m; simp at m
 | n+1,.tuple ds,v,F,h,a,m=>by
  rcases h with⟨_,h1,_⟩ | ⟨h0,p,xs,Fs,e,hp,rfl,q⟩
  ·rw[h1] at m; simp at m
  ·obtain⟨f,hf,ha⟩:=rQ.mp m
   obtain⟨_,_,r⟩:=q.of f hf
   exact Agu.mut r a ha
theorem Agu.nd {K:aP}{B B' H:Hp}(xb:NdX B B') : ∀ {n:Nat} {d:aA} {v:V} {F:List aD},jN n d=true->Agu K B H n d v F->Agu K B' H n d v F
 | 0,d,v,F,f,h=>⟨h.1,h.2.nd xb d f⟩
 | n+1,.list ds,v,F,f,h=>by
  obtain⟨p,xs,Fs,e,hp,rfl,q⟩:=h
  refine⟨p,xs,Fs,e,hp,rfl,?_⟩
  have f' : ∀ d∈ds,jN n d=true:=by simpa [jN] using f
  clear hp f e
  induction q with
  | nil=>exact .nil
  | cons h t ih=>exact .cons (Agu.nd xb (f' _ dF) h) (ih fun d m=>f' d (eR _ m))
 | n+1,.dict kds,v,F,f,h=>by
  obtain⟨p,xs,Fs,e,hp,rfl,q⟩:=h
  refine⟨p,xs,Fs,e,hp,rfl,?_⟩
  have f' : ∀ d∈kds,jN n d.2=true:=fun d m=>by
   have:kds.all (fun kd=>jN n kd.2)=true:=by simpa [jN] using f
   exact oV.mp this d m
  clear hp f e
  obtain⟨xe,xs⟩:=xs
  replace q:All3 _ kds xs Fs:=q
  show All3 _ kds xs Fs
  induction q with
  | nil=>exact .nil
  | cons h t ih=>exact .cons ⟨h.1,Agu.nd xb (f' _ dF) h.2⟩ (ih fun d m=>f' d (eR _ m))
 | n+1,.none,v,F,f,h=>by simp[jN] at f
 | n+1,.bool _,v,F,f,h=>by simp[jN] at f
 | n+1,.int _,v,F,f,h=>by simp[jN] at f
 | n+1,.str _,v,F,f,h=>by simp[jN] at f
 | n+1,.tuple ds,v,F,f,h=>by simp[jN] at f
def ZS (K:aP)(B H:Hp)(d:aA)(v:V)(F:List aD):Prop:=∃ kds p ts,d = .dict ((.none,.none)::kds)/\v = .ref p/\H p=some (.dT ts)/\F=[p]/\(∀ kd∈kds,bS kd.2=true)/\Ag2 K B kds ts
def Ajx (K:aP)(B H:Hp)(n:Nat)(d:aA)(v:V)(F:List aD):Prop:=if n=9 then(d = .none/\v = .non/\F=[]) \/ ZS K B H d v F else Agu K B H n d v F
theorem Ag2.flat {K:aP}{B B':Hp}(xb : ∀ a xs,B a=some (.tup xs)->B' a=some (.tup xs)) : ∀ {kds:List (aA×aA)} {ts:List (List aA×V)},(∀ kd∈kds,bS kd.2=true)->Ag2 K B kds ts->Ag2 K B' kds ts
 | [],ts,_,h=>Akc.mpr (Akc.mp h)
 | (k,d)::r,ts,f,h=>by
  obtain⟨k',x,rr,e,ek,h1,h2⟩:=Ahf.mp h
  exact Ahf.mpr ⟨k',x,rr,e,ek,h1.flat xb _ (f (k,d) dF),Ag2.flat xb (fun kd m=>f kd (eR _ m)) h2⟩
section
variable {K:aP}{B B' H H':Hp}{n:Nat}{d:aA}{v:V}{F:List aD}
theorem Ajx.keep (xb:Ext B B')(kp : ∀ a∈F,H' a=H a)(h:Ajx K B H n d v F):Ajx K B' H' n d v F:=by
 unfold Ajx at h ⊢
 split at h
 ·rw[if_pos ‹_›]
  refine h.imp id fun h=>?_
  obtain⟨kds,p,ts,e1,e2,hp,rfl,f,r⟩:=h
  exact⟨kds,p,ts,e1,e2,(kp p dF).trans hp,rfl,f,r.ext xb⟩
 ·rw[if_neg ‹_›]
  exact Agu.keep xb kp h
theorem Ajx.share (xb:Ext B B')(kp : ∀ a∈F,∀ o,H a=some o->B' a=some o)(h:Ajx K B H n d v F):Acb K B' d v:=by
 unfold Ajx at h
 split at h
 ·rcases h with⟨rfl,rfl,_⟩ | ⟨kds,p,ts,rfl,e2,hp,rfl,f,r⟩
  ·exact Aco.mpr rfl
  exact Arw.mpr ⟨p,ts,e2,kp p dF _ hp,r.ext xb⟩
 ·exact Agu.share xb kp h
theorem Ajx.flat (xb : ∀ a xs,B a=some (.tup xs)->B' a=some (.tup xs))(f:cS n d=true)(h:Ajx K B H n d v F):Ajx K B' H n d v F:=by
 unfold Ajx at h ⊢
 split at h
 ·rw[if_pos ‹_›]
  refine h.imp id fun h=>?_
  obtain⟨kds,p,ts,e1,e2,hp,rfl,f,r⟩:=h
  exact⟨kds,p,ts,e1,e2,hp,rfl,f,r.flat xb f⟩
 ·rw[if_neg ‹_›]
  exact Agu.flat xb f h
theorem Ajx.nd (xb:NdX B B')(hn:n<9)(f:jN n d=true)(h:Ajx K B H n d v F):Ajx K B' H n d v F:=by
 unfold Ajx at h ⊢
 rw[if_neg (by omega)] at h ⊢
 exact Agu.nd xb f h
theorem Ajx.mut (h:Ajx K B H n d v F) : ∀ a∈F,(∃ xs,H a=some (.lst xs)) \/ ∃ q:DQ,H a=some (dO q):=by
 unfold Ajx at h
 split at h
 ·rcases h with⟨_,_,rfl⟩ | ⟨kds,p,ts,e1,e2,hp,rfl,f,r⟩
  ·exact fun a m=>by simp at m
  intro a m
  rw[fL.mp m]
  exact .inr ⟨.inr ts,hp⟩
 ·exact Agu.mut h
end
abbrev EF:=List (Option aA)->Option aA
abbrev BF:=List (Option aA)->Option Bool
abbrev AF:=List (Option aA)->Option (List aA)
def Ans (K:aP)(B:Hp)(ρ:List (Option aA))(σ:St):Prop:=∀ (i:Nat) d,ρ[i]?=some (some d) -> ∃ v,σ[i]?=some (some v)/\Acb K B d v
theorem Ans.ext {K:aP}{B B':Hp}{ρ:List (Option aA)}{σ:St}(h:Ans K B ρ σ)(x:Ext B B'):Ans K B' ρ σ:=fun i d e=>let ⟨v,h1,h2⟩:=h i d e; ⟨v,h1,h2.ext x⟩
def Res (K:aP)(P:aD->Prop)(n:Nat)(d:aA)(H:Hp)(Q:VK):Prop:=
 ∀ v H' Fr,Ext H H'->Fr.Nodup->(∀ a∈Fr,H a=none /\ ∃ o,H' a=some o)->Ajx K (hid H' (orL P Fr)) H' n d v Fr->Q v H'
section
variable {K:aP}{P:aD->Prop}{n:Nat}{d:aA}{H H':Hp}{Q:VK}{v:V}
theorem Res.zero (h:Res K P 0 d H Q)(x:Ext H H')(r:Acb K (hid H' P) d v):Q v H':=
 h v H' [] x .nil (fun a m=>by simp at m) ⟨rfl,by rw[NH]; exact r⟩
theorem eP (h : ∀ v H',Ext H H'->Acb K (hid H' P) d v->Q v H'):Res K P 0 d H Q:=fun v H' Fr x _ _ r=>by
 obtain⟨rfl,r⟩:=r
 rw[NH] at r
 exact h v H' x r
theorem Res.mono (h:Res K P n d H Q)(x:Ext H H'):Res K P n d H' Q:=fun v H2 Fr x2 nd fr r=>
 h v H2 Fr (x.trans x2) nd (fun a m=>⟨x.none (fr a m).1,(fr a m).2⟩) r
theorem Res.of (hP:Hid P H)(h:Res K P 0 d H Q):Res K P n d H Q:=fun v H2 Fr x2 nd fr r=>
 h.zero x2 (r.share (kF fun a p=>.inl p) fun a m o e=>jR (hP.new (fr a m).1) e)
theorem Res.lst {ds:List aA}{xs:List V}{p:aD}(hP:Hid P H)(h:Res K P 1 (.list ds) H Q)(n:H p=none)(r:Aaz K (hid H P) ds xs):Q (.ref p) (upd H p (.lst xs)):=by
 refine h (.ref p) _ [p] (Ext.new n) (mE.mpr ⟨by simp,.nil⟩) (fun a m=>?_) ⟨p,xs,xs.map fun _=>[],rfl,gR,?_,?_⟩
 ·have:a=p:=by simpa using m
  subst this
  exact⟨n,_,gR⟩
 ·have : ∀ l:List V,(l.map fun _=>([]:List aD)).flatten=[]:=fun l=>by
   induction l with
   | nil=>rfl
   | cons a l ih=>rw[fS,lG,ih]; rfl
  rw[this]
 ·have xe:Ext (hid H P) (hid (upd H p (.lst xs)) (orL P [p])):=fun b o e=>by
   obtain⟨nb,e⟩:=Acz.mp e
   have hb:b≠p:=kJ e n
   exact jR (fun q=>q.elim nb fun m=>hb (by simpa using m)) (by rw[fH hb]; exact e)
  generalize hid (upd H p (.lst xs)) (orL P [p])=B at xe
  generalize upd H p (.lst xs)=H1
  clear h
  have go : ∀ (ds:List aA) (xs:List V),Aaz K (hid H P) ds xs->All3 (Agu K B H1 0) ds xs (xs.map fun _=>[]):=by
   intro ds
   induction ds with
   | nil=>intro xs r; rw[Aau.mp r]; exact .nil
   | cons d ds ih=>
    intro xs r
    obtain⟨y,t,rfl,h1,h2⟩:=Aan.mp r
    exact .cons ⟨rfl,h1.ext xe⟩ (ih t h2)
  exact go ds xs r
theorem Res.tup {ds:List aA}{xs:List V}{p:aD}(hP:Hid P H)(h:Res K P 0 (.tuple ds) H Q)(n:H p=none)(r:Aaz K (hid H P) ds xs):Q (.ref p) (upd H p (.tup xs)):=by
 refine h.zero (Ext.new n) (Aax.mpr ⟨p,xs,rfl,jR (hP.new n) gR,r.ext fun b o e=>?_⟩)
 obtain⟨nb,e⟩:=Acz.mp e
 exact jR nb (Ext.new n _ _ e)
end
noncomputable def tF (K:aP)(n:Nat)(f:EF):TE:=fun σ H Q=>∃ P ρ d,Hid P H/\Ans K (hid H P) ρ σ/\f ρ=some d/\Res K P n d H Q
noncomputable def tTF (K:aP)(f:BF):TT:=fun σ H Q=>∃ P ρ b,Hid P H/\Ans K (hid H P) ρ σ/\f ρ=some b /\ ∀ H',Ext H H'->Q b H'
noncomputable def tAF (K:aP)(f:AF):TA:=fun σ H Q=>∃ P ρ ds,Hid P H/\Ans K (hid H P) ρ σ/\f ρ=some ds /\ ∀ vs H',Ext H H'->Aaz K (hid H' P) ds vs->Q vs H'
abbrev DF (n:Nat)(X:Cx)(e:bA)(f:EF):Prop:=PE X e (tF X.K n f)
abbrev DE (X:Cx)(e:bA)(f:EF):Prop:=PE X e (tF X.K 0 f)
abbrev DT (X:Cx)(e:bA)(f:BF):Prop:=PT X e (tTF X.K f)
abbrev DW (X:Cx)(e:bA)(f:BF):Prop:=PW X e (tTF X.K f)
abbrev DA (X:Cx)(es:List bA)(f:AF):Prop:=PA X es (tAF X.K f)
section
variable {X:Cx}{e a b:bA}{es:List bA}{pos:cD}{n:Nat}
theorem PE.imp {t t':TE}(h:PE X e t)(w : ∀ σ H Q,t' σ H Q->t σ H Q):PE X e t':=fun pins s σ H Q I q=>h pins s σ H Q I (w _ _ _ q)
theorem PT.imp {t t':TT}(h:PT X e t)(w : ∀ σ H Q,t' σ H Q->t σ H Q):PT X e t':=fun pins s σ H Q I q=>h pins s σ H Q I (w _ _ _ q)
theorem PW.imp {t t':TT}(h:PW X e t)(w : ∀ σ H Q,t' σ H Q->t σ H Q):PW X e t':=fun whole pins s σ H Q I q=>h whole pins s σ H Q I (w _ _ _ q)
theorem PA.imp {t t':TA}(h:PA X es t)(w : ∀ σ H Q,t' σ H Q->t σ H Q):PA X es t':=fun pos pins s σ H Q I q=>h pos pins s σ H Q I (w _ _ _ q)
theorem fK {f:EF}(h:DF n X e f):DE X e f:=PE.imp h fun σ H Q ⟨P,ρ,d,hP,rs,ef,k⟩=>⟨P,ρ,d,hP,rs,ef,Res.of hP k⟩
noncomputable def aB (i:Nat):EF:=fun ρ=>(ρ[i]?).join
theorem QN {i:Nat}{ρ:List (Option aA)}{d:aA}(h:aB i ρ=some d):ρ[i]?=some (some d):=by
 unfold aB at h
 cases e:ρ[i]? with
 | none=>rw[e] at h; simp at h
 | some o=>rw[e] at h; simp at h; rw[h]
theorem aC (i:Nat){x:aE}(hN:X.N[i]?=some x:=by rfl)(hv:lH X.env.scope x:=by first | exact aT rfl | exact aY (aT rfl) | exact aY (aY rfl))(hd:(x == ("__debug__" : aE))=false:=by decide)
  (hcd:(x == ("__classdict__" : aE))=false:=by decide):DE X (.Name x pos) (aB i):=PE.imp (nG hN hv hd hcd) fun σ H Q gh=>by
 obtain⟨P,ρ,d,hP,rs,ef,k⟩:=gh
 obtain⟨v,h1,h2⟩:=rs i d (QN ef)
 exact⟨v,h1,k.zero Ext.refl h2⟩
noncomputable def eC (d:aA):EF:=fun _=>some d
theorem wX {d:aA}{v:V}(h:PE X e (tC v))(hr : ∀ H,Acb X.K H d v):DE X e (eC d):=PE.imp h fun σ H Q gh=>by
 obtain⟨P,ρ,d',hP,rs,ef,k⟩:=gh
 cases ef
 exact k.zero Ext.refl (hr _)
theorem aM {i j}:DE X (.Constant (.int i) j pos) (eC (.int i)):=wX FH fun _=>Aas.mpr rfl
theorem lP {i j}:DE X (.Constant (.bool i) j pos) (eC (.bool i)):=wX LS fun _=>Aav.mpr rfl
theorem mZ {j}:DE X (.Constant .none j pos) (eC .none):=wX UB fun _=>Aco.mpr rfl
theorem eY {i j}(h:fA (.str i)=true:=by decide +kernel):DE X (.Constant (.str i) j pos) (eC (.str i)):=wX Bz fun _=>Abk.mpr ⟨rfl,h⟩
theorem NR {x:aE}{i:Int}{u:aG}(hg:Gl X x)(hm:X.mg x=some u)(r:RelV (.int i) u)(hd:(x == ("__debug__" : aE))=false:=by decide):DE X (.Name x pos) (eC (.int i)):=wX (FN hg hm r hd) fun _=>Aas.mpr rfl
noncomputable def aI:AF:=fun _=>some []
noncomputable def aF (f:EF)(g:AF):AF:=fun ρ=>(f ρ).bind fun d=>(g ρ).bind fun ds=>some (d::ds)
theorem aR:DA X [] aI:=PA.imp kU fun σ H Q gh=>by
 obtain⟨P,ρ,d,hP,rs,ef,k⟩:=gh
 cases ef
 exact k [] H Ext.refl (Aau.mpr rfl)
theorem aH {f:EF}{g:AF}(h1:DE X e f)(h2:DA X es g)(hs:bL (e::es) X.env=(false,bX e X.env)::bL es X.env:=by rfl):DA X (e::es) (aF f g):=
 PA.imp (iI h1 h2 hs) fun σ H Q gh=>by
  obtain⟨P,ρ,ds,hP,rs,ef,k⟩:=gh
  obtain⟨d,e1,ef⟩:=XBs ef
  obtain⟨r,e2,ef⟩:=XBs ef
  cases ef
  exact⟨P,ρ,d,hP,rs,e1,eP fun v H1 x1 r1=>⟨P,ρ,r,hP.ext x1,rs.ext (dW x1),e2,fun vs H2 x2 r2=>
   k _ _ (x1.trans x2) (Aan.mpr ⟨v,vs,rfl,r1.ext (dW x2),r2⟩)⟩⟩
noncomputable def cF (g:AF):EF:=fun ρ=>(g ρ).bind fun ds=>if ds.length≤sizeLine then some (.tuple ds) else none
noncomputable def cU (g:AF):EF:=fun ρ=>(g ρ).bind fun ds=>if ds.length≤sizeLine then some (.list ds) else none
theorem eI {α:Type}{c:Prop}[Decidable c]{x y:α}(h:(if c then some x else none)=some y):c/\x=y:=by
 by_cases q:c
 ·rw[if_pos q] at h; exact⟨q,gW h⟩
 ·rw[if_neg q] at h; cases h
theorem gQ {g:AF}{x1}(h:DA X es g):DE X (.Tuple es x1 pos) (cF g):=PE.imp (FB h) fun σ H Q gh=>by
 obtain⟨P,ρ,d,hP,rs,ef,k⟩:=gh
 obtain⟨ds,e1,ef⟩:=XBs ef
 obtain⟨hl,rfl⟩:=eI ef
 exact⟨P,ρ,ds,hP,rs,e1,fun vs H1 x1 r1=>⟨by rw[r1.length]; exact hl,fun p hp=>(k.mono x1).tup (hP.ext x1) hp r1⟩⟩
theorem jP {g:AF}(h:DA X es g):DF 1 X (.List es pos) (cU g):=PE.imp (ZQ h) fun σ H Q gh=>by
 obtain⟨P,ρ,d,hP,rs,ef,k⟩:=gh
 obtain⟨ds,e1,ef⟩:=XBs ef
 obtain⟨hl,rfl⟩:=eI ef
 exact⟨P,ρ,ds,hP,rs,e1,fun vs H1 x1 r1=>⟨by rw[r1.length]; exact hl,fun p hp=>(k.mono x1).lst (hP.ext x1) hp r1⟩⟩
def OpD (K:aP)(n:Nat)(r:R2)(g:aA->aA->Option aA):Prop:=
 ∀ (P:aD->Prop) (H:Hp) (x y:V) (a b d:aA) (Q:VK),Hid P H->Acb K (hid H P) a x->Acb K (hid H P) b y->g a b=some d->Res K P n d H Q->r x y H Q
noncomputable def eOp (g:aA->aA->Option aA)(fa fb:EF):EF:=fun ρ=>(fa ρ).bind fun a=>(fb ρ).bind fun b=>g a b
theorem IL {r:R2}{g:aA->aA->Option aA}{fa fb:EF}{K:aP}(hg:OpD K n r g) : ∀ σ H Q,tF K n (eOp g fa fb) σ H Q->tOp r (tF K 0 fa) (tF K 0 fb) σ H Q:=fun σ H Q gh=>by
 obtain⟨P,ρ,d,hP,rs,ef,k⟩:=gh
 obtain⟨d1,e1,ef⟩:=XBs ef
 obtain⟨d2,e2,ef⟩:=XBs ef
 exact⟨P,ρ,d1,hP,rs,e1,eP fun v H1 x1 r1=>⟨P,ρ,d2,hP.ext x1,rs.ext (dW x1),e2,eP fun u H2 x2 r2=>
  hg P H2 v u d1 d2 d Q (hP.ext (x1.trans x2)) (r1.ext (dW x2)) r2 ef (k.mono (x1.trans x2))⟩⟩
theorem oB {op:Operator}{r:R2}{g:aA->aA->Option aA}{fa fb:EF}(ho:OpR X (jV op) r)(hg:OpD X.K n r g)(ha:DE X a fa)(hb:DE X b fb):DF n X (.BinOp a op b pos) (eOp g fa fb):=PE.imp (YE ho ha hb) (IL hg)
theorem hE {op:CmpOp}{r:R2}{g:aA->aA->Option aA}{fa fb:EF}(ho:OpR X (gS op) r)(hg:OpD X.K 0 r g)(ha:DE X a fa)(hb:DE X b fb)(hm:wG op b=false):DE X (.Compare a [op] [b] pos) (eOp g fa fb):=PE.imp (Ng ho ha hb hm) (IL hg)
def UnD (K:aP)(n:Nat)(r:V->Hp->VK->Prop)(g:aA->Option aA):Prop:=
 ∀ (P:aD->Prop) (H:Hp) (x:V) (a d:aA) (Q:VK),Hid P H->Acb K (hid H P) a x->g a=some d->Res K P n d H Q->r x H Q
noncomputable def eUn (g:aA->Option aA)(fa:EF):EF:=fun ρ=>(fa ρ).bind g
theorem WT {op:UnaryOp}{r:V->Hp->VK->Prop}{g:aA->Option aA}{fa:EF}(ho:UnR X (unaryOp op) r)(hg:UnD X.K n r g)(ha:DE X a fa):DF n X (.UnaryOp op a pos) (eUn g fa):=
 PE.imp (ZV ho ha) fun σ H Q gh=>by
  obtain⟨P,ρ,d,hP,rs,ef,k⟩:=gh
  obtain⟨d1,e1,ef⟩:=XBs ef
  exact⟨P,ρ,d1,hP,rs,e1,eP fun v H1 x1 r1=>hg P H1 v d1 d Q (hP.ext x1) r1 ef (k.mono x1)⟩
def CallD (K:aP)(n:Nat)(r:List V->Hp->VK->Prop)(g:List aA->Option aA):Prop:=
 ∀ (P:aD->Prop) (H:Hp) (xs:List V) (ds:List aA) (d:aA) (Q:VK),Hid P H->Aaz K (hid H P) ds xs->g ds=some d->Res K P n d H Q->r xs H Q
noncomputable def aQ (g:List aA->Option aA)(fa:AF):EF:=fun ρ=>(fa ρ).bind g
variable {r:List V->Hp->VK->Prop}{g:List aA->Option aA}{fa:AF}{x:aE}{p:cD}{id T:String}
theorem eZ (hc:Ae3 X (.builtin id) r)(hg:CallD X.K n r g)(hgl:Gl X x)(hm:X.mg x=none)(hv:mQ x=some (.builtin id))(ha:DA X (e::es) fa)(hn:x ≠ "__name__":=by decide)(hdb:(x == ("__debug__" : aE))=false:=by decide)
  (he:bL (e::es) X.env=(false,bX e X.env)::bL es X.env:=by rfl) (hpl:(fY pos (bL es X.env)).any (·.1)=false:=by rfl):DF n X (.Call (.Name x p) (e::es) [] pos) (aQ g fa):=
 PE.imp (OS hc hgl hm hv ha hn hdb he hpl) fun σ H Q gh=>by
  obtain⟨P,ρ,d,hP,rs,ef,k⟩:=gh
  obtain⟨d1,e1,ef⟩:=XBs ef
  exact⟨P,ρ,d1,hP,rs,e1,fun vs H1 x1 r1=>hg P H1 vs d1 d Q (hP.ext x1) r1 ef (k.mono x1)⟩
theorem kI (hc:Ae3 X (.type T) r)(hg:CallD X.K n r g)(hgl:Gl X x)(hm:X.mg x=none)(hv:mQ x=some (.type T))(ha:DA X (e::es) fa)(hn:x ≠ "__name__":=by decide)(hdb:(x == ("__debug__" : aE))=false:=by decide)
  (he:bL (e::es) X.env=(false,bX e X.env)::bL es X.env:=by rfl) (hpl:(fY pos (bL es X.env)).any (·.1)=false:=by rfl):DF n X (.Call (.Name x p) (e::es) [] pos) (aQ g fa):=
 PE.imp (CC hc hgl hm hv ha hn hdb he hpl) fun σ H Q gh=>by
  obtain⟨P,ρ,d,hP,rs,ef,k⟩:=gh
  obtain⟨d1,e1,ef⟩:=XBs ef
  exact⟨P,ρ,d1,hP,rs,e1,fun vs H1 x1 r1=>hg P H1 vs d1 d Q (hP.ext x1) r1 ef (k.mono x1)⟩
noncomputable def asB:aA->Option Bool
 | .bool b=>some b
 | _=>none
theorem qQ {d:aA}{b:Bool}(h:asB d=some b):d = .bool b:=by
 cases d <;> simp[asB] at h
 rw[h]
noncomputable def bOf (f:EF):BF:=fun ρ=>(f ρ).bind asB
theorem iS {f:EF}(h:DE X e f)(he : ∀ whole,isTrue e X.env whole=(do let v ← whole; standAt e.pos; holding [v] (truthy v)):=by intro _; rfl):DT X e (bOf f):=PT.imp (ZA h he) fun σ H Q gh=>by
 obtain⟨P,ρ,b,hP,rs,ef,k⟩:=gh
 obtain⟨d,e1,ef⟩:=XBs ef
 cases qQ ef
 exact⟨P,ρ,_,hP,rs,e1,eP fun v H1 x1 r1=>⟨b,Aav.mp r1,k H1 x1⟩⟩
theorem dN {op:CmpOp}{r:R2}{g:aA->aA->Option aA}{fa fb:EF}(ho:OpR X (gS op) r)(hg:OpD X.K 0 r g)(ha:DE X a fa)(hb:DE X b fb)(hm:wG op b=false):DT X (.Compare a [op] [b] pos) (bOf (eOp g fa fb)):=
 PT.imp (MZ ho ha hb hm) fun σ H Q gh=>by
  obtain⟨P,ρ,c,hP,rs,ef,k⟩:=gh
  obtain⟨d,e1,ef⟩:=XBs ef
  cases qQ ef
  exact IL hg σ H _ ⟨P,ρ,_,hP,rs,e1,eP fun v H1 x1 r1=>⟨c,Aav.mp r1,k H1 x1⟩⟩
noncomputable def cQ (f:BF):BF:=fun ρ=>(f ρ).bind fun b=>some (!b)
noncomputable def dI (f g:BF):BF:=fun ρ=>(f ρ).bind fun b=>if b=true then g ρ else some false
noncomputable def bOr (f g:BF):BF:=fun ρ=>(f ρ).bind fun b=>if b=true then some true else g ρ
variable {fB gB:BF}{rest:List bA}
theorem kW (h:DT X a fB):DT X (.UnaryOp .Not a pos) (cQ fB):=PT.imp (Bh h) fun σ H Q gh=>by
 obtain⟨P,ρ,c,hP,rs,ef,k⟩:=gh
 obtain⟨b,e1,ef⟩:=XBs ef
 cases ef
 exact⟨P,ρ,b,hP,rs,e1,fun H1 x1=>k H1 x1⟩
theorem NK (h:DT X a fB):DW X (.BoolOp .And [a] pos) fB:=Mk h
theorem nF (h:DT X a fB):DW X (.BoolOp .Or [a] pos) fB:=Bc h
theorem IU (h:DT X a fB)(h2:DW X (.BoolOp .And (b::rest) pos) gB):DW X (.BoolOp .And (a::b::rest) pos) (dI fB gB):=PW.imp (Al h h2) fun σ H Q gh=>by
 obtain⟨P,ρ,c,hP,rs,ef,k⟩:=gh
 obtain⟨b,e1,ef⟩:=XBs ef
 refine⟨P,ρ,b,hP,rs,e1,fun H1 x1=>?_⟩
 cases b with
 | true=>exact pL ⟨P,ρ,c,hP.ext x1,rs.ext (dW x1),by simpa using ef,fun H2 x2=>k H2 (x1.trans x2)⟩
 | false=>
  have:false=c:=by simpa using ef
  subst this
  exact pK (k H1 x1)
theorem kB (h:DT X a fB)(h2:DW X (.BoolOp .Or (b::rest) pos) gB):DW X (.BoolOp .Or (a::b::rest) pos) (bOr fB gB):=PW.imp (YU h h2) fun σ H Q gh=>by
 obtain⟨P,ρ,c,hP,rs,ef,k⟩:=gh
 obtain⟨b,e1,ef⟩:=XBs ef
 refine⟨P,ρ,b,hP,rs,e1,fun H1 x1=>?_⟩
 cases b with
 | true=>
  have:true=c:=by simpa using ef
  subst this
  exact pL (k H1 x1)
 | false=>exact pK ⟨P,ρ,c,hP.ext x1,rs.ext (dW x1),by simpa using ef,fun H2 x2=>k H2 (x1.trans x2)⟩
theorem lL (h:DW X a fB):DT X a fB:=h.pt
noncomputable def dS (f:EF):EF:=fun ρ=>(f ρ).bind fun d=>(asB d).bind fun b=>some (.bool (!b))
noncomputable def cN (f g:EF):EF:=fun ρ=>(f ρ).bind fun d=>(asB d).bind fun b=>if b=true then g ρ else some (.bool false)
noncomputable def eOr (f g:EF):EF:=fun ρ=>(f ρ).bind fun d=>(asB d).bind fun b=>if b=true then some (.bool true) else g ρ
variable {f1 f2:EF}
theorem mK {op}(h:DE X a f1):DE X (.BoolOp op [a] pos) f1:=Cu h
theorem TL (h:DE X a f1):DE X (.UnaryOp .Not a pos) (dS f1):=PE.imp (ZL h) fun σ H Q gh=>by
 obtain⟨P,ρ,c,hP,rs,ef,k⟩:=gh
 obtain⟨d,e1,ef⟩:=XBs ef
 obtain⟨b,e2,ef2⟩:=XBs ef
 clear ef
 have ef:=ef2
 clear ef2
 cases ef
 cases qQ e2
 exact⟨P,ρ,_,hP,rs,e1,eP fun v H1 x1 r1=>⟨b,Aav.mp r1,k.zero x1 (Aav.mpr rfl)⟩⟩
theorem lV (h:DE X a f1)(h2:DE X (.BoolOp .And (b::rest) pos) f2):DE X (.BoolOp .And (a::b::rest) pos) (cN f1 f2):=PE.imp (ZR h h2) fun σ H Q gh=>by
 obtain⟨P,ρ,c,hP,rs,ef,k⟩:=gh
 obtain⟨d,e1,ef⟩:=XBs ef
 obtain⟨b,e2,ef2⟩:=XBs ef
 clear ef
 have ef:=ef2
 clear ef2
 cases qQ e2
 refine⟨P,ρ,_,hP,rs,e1,eP fun v H1 x1 r1=>⟨b,Aav.mp r1,?_⟩⟩
 cases b with
 | true=>exact pL ⟨P,ρ,c,hP.ext x1,rs.ext (dW x1),by simpa using ef,k.mono x1⟩
 | false=>
  have:fV false=c:=by simpa using ef
  subst this
  exact pK (k.zero x1 (Aav.mpr rfl))
theorem LQ (h:DE X a f1)(h2:DE X (.BoolOp .Or (b::rest) pos) f2):DE X (.BoolOp .Or (a::b::rest) pos) (eOr f1 f2):=PE.imp (YS h h2) fun σ H Q gh=>by
 obtain⟨P,ρ,c,hP,rs,ef,k⟩:=gh
 obtain⟨d,e1,ef⟩:=XBs ef
 obtain⟨b,e2,ef2⟩:=XBs ef
 clear ef
 have ef:=ef2
 clear ef2
 cases qQ e2
 refine⟨P,ρ,_,hP,rs,e1,eP fun v H1 x1 r1=>⟨b,Aav.mp r1,?_⟩⟩
 cases b with
 | true=>
  have:fV true=c:=by simpa using ef
  subst this
  exact pL (k.zero x1 (Aav.mpr rfl))
 | false=>exact pK ⟨P,ρ,c,hP.ext x1,rs.ext (dW x1),by simpa using ef,k.mono x1⟩
noncomputable def eIf (t:BF)(f g:EF):EF:=fun ρ=>(t ρ).bind fun b=>if b=true then f ρ else g ρ
theorem BS {c:bA}{t:BF}(hc:DT X c t)(ha:DF n X a f1)(hb:DF n X b f2):DF n X (.IfExp c a b pos) (eIf t f1 f2):=PE.imp (Pn hc ha hb) fun σ H Q gh=>by
 obtain⟨P,ρ,d,hP,rs,ef,k⟩:=gh
 obtain⟨b,e1,ef⟩:=XBs ef
 refine⟨P,ρ,b,hP,rs,e1,fun H1 x1=>?_⟩
 cases b with
 | true=>exact pL ⟨P,ρ,d,hP.ext x1,rs.ext (dW x1),by simpa using ef,k.mono x1⟩
 | false=>exact pK ⟨P,ρ,d,hP.ext x1,rs.ext (dW x1),by simpa using ef,k.mono x1⟩
noncomputable def xQ (g g':aA->aA->Option aA)(fa fb fc:EF):EF:=fun ρ=>(fa ρ).bind fun a=>(fb ρ).bind fun b=>(g a b).bind fun z=>(asB z).bind fun t=>if t=true then(fc ρ).bind fun c=>g' b c else some (.bool false)
theorem Om {r r':R2}{g g':aA->aA->Option aA}{fa fb fc:EF}{K:aP}(hg:OpD K 0 r g)(hg':OpD K 0 r' g') : ∀ σ H Q,tF K 0 (xQ g g' fa fb fc) σ H Q->SO r r' (tF K 0 fa) (tF K 0 fb) (tF K 0 fc) σ H Q:=fun σ H Q gh=>by
 obtain⟨P,ρ,d,hP,rs,ef,k⟩:=gh
 obtain⟨d1,e1,ef⟩:=XBs ef
 obtain⟨d2,e2,ef⟩:=XBs ef
 obtain⟨z,e3,ef⟩:=XBs ef
 obtain⟨t,e4,ef2⟩:=XBs ef
 clear ef
 have ef:=ef2
 clear ef2
 cases qQ e4
 refine⟨P,ρ,d1,hP,rs,e1,eP fun v H1 x1 r1=>⟨P,ρ,d2,hP.ext x1,rs.ext (dW x1),e2,eP fun u H2 x2 r2=>?_⟩⟩
 refine hg P H2 v u d1 d2 _ _ (hP.ext (x1.trans x2)) (r1.ext (dW x2)) r2 e3 (eP fun q H3 x3 r3=>⟨t,Aav.mp r3,?_⟩)
 cases t with
 | true=>
  obtain⟨d3,e5,ef⟩:=XBs (show((fc ρ).bind fun c=>g' d2 c)=some d by simpa using ef)
  exact pL ⟨P,ρ,d3,hP.ext ((x1.trans x2).trans x3),rs.ext (dW ((x1.trans x2).trans x3)),e5,eP fun w H4 x4 r4=>
   hg' P H4 u w d2 d3 d Q (hP.ext (((x1.trans x2).trans x3).trans x4)) (r2.ext (dW (x3.trans x4))) r4 ef (k.mono (((x1.trans x2).trans x3).trans x4))⟩
 | false=>
  have:fV false=d:=by simpa using ef
  subst this
  exact pK (k.zero ((x1.trans x2).trans x3) (Aav.mpr rfl))
end
abbrev Slot:=Option (Nat×aA)
abbrev bD:=List Slot
noncomputable def vS (ρ:bD):List (Option aA):=ρ.map fun s=>match s with | some (0,d)=>some d | _=>none
noncomputable def vA (ρ:bD):List (Option aA):=ρ.map fun s=>s.map (·.2)
theorem Bx {ρ:bD}{i:Nat}{d:aA}(h:(vS ρ)[i]?=some (some d)):ρ[i]?=some (some (0,d)):=by
 unfold vS at h
 rw[gN] at h
 cases e:ρ[i]? with
 | none=>rw[e] at h; simp at h
 | some s=>
  rw[e] at h
  simp only[rP,DU] at h
  cases s with
  | none=>simp at h
  | some q=>
   obtain⟨n,d'⟩:=q
   cases n with
   | zero=>simp at h; rw[h]
   | succ n=>simp at h
theorem Bn {ρ:bD}{i:Nat}{d:aA}(h:(vA ρ)[i]?=some (some d)) : ∃ n,ρ[i]?=some (some (n,d)):=by
 unfold vA at h
 rw[gN] at h
 cases e:ρ[i]? with
 | none=>rw[e] at h; simp at h
 | some s=>
  rw[e] at h
  cases s with
  | none=>simp at h
  | some q=>
   obtain⟨n,d'⟩:=q
   simp at h
   exact⟨n,by rw[h]⟩
abbrev Hd (P0:aD->Prop)(fp:Nat->List aD):aD->Prop:=fun a=>P0 a \/ ∃ i,a∈fp i
structure Sta (K:aP)(H0:Hp)(P0:aD->Prop)(B0:Hp)(ρ:bD)(σ:St)(H:Hp)(fp:Nat->List aD):Prop where
 len:σ.length=ρ.length
 nd : ∀ i,(fp i).Nodup
 dj : ∀ i j a,a∈fp i->a∈fp j->i=j
 own : ∀ i a,a∈fp i->H0 a=none/\((∃ xs,H a=some (.lst xs)) \/ ∃ q:DQ,H a=some (dO q))
 ext:Ext H0 H
 hd:Hid P0 H0
 base:Ext B0 (hid H (Hd P0 fp))
 slot : ∀ (i:Nat) n d,ρ[i]?=some (some (n,d)) -> ∃ v,σ[i]?=some (some v)/\Ajx K (hid H (Hd P0 fp)) H n d v (fp i)
section
variable {K:aP}{H0 H H' B0:Hp}{P0:aD->Prop}{ρ:bD}{σ:St}{fp:Nat->List aD}
theorem Sta.hid (S:Sta K H0 P0 B0 ρ σ H fp):Hid (Hd P0 fp) H:=fun a h=>by
 rcases h with h | ⟨i,h⟩
 ·exact S.hd.ext S.ext a h
 ·exact(S.own i a h).2
theorem Sta.np (S:Sta K H0 P0 B0 ρ σ H fp){i:Nat}{a:aD}(m:a∈fp i) : ¬ P0 a:=S.hd.new (S.own i a m).1
theorem Sta.grow (S:Sta K H0 P0 B0 ρ σ H fp)(x:Ext H H'):Sta K H0 P0 B0 ρ σ H' fp:=by
 refine⟨S.len,S.nd,S.dj,fun i a m=>⟨(S.own i a m).1,(S.own i a m).2.imp (fun⟨xs,e⟩=>⟨xs,x _ _ e⟩) fun⟨xs,e⟩=>⟨xs,x _ _ e⟩⟩,S.ext.trans x,S.hd,S.base.trans (dW x),fun i n d e=>?_⟩
 obtain⟨v,h1,h2⟩:=S.slot i n d e
 refine⟨v,h1,h2.keep (dW x) fun a m=>?_⟩
 rcases(S.own i a m).2 with⟨xs,e⟩ | ⟨xs,e⟩
 ·rw[e,x _ _ e]
 ·rw[e,x _ _ e]
theorem Sta.viewS (S:Sta K H0 P0 B0 ρ σ H fp):Ans K (L2.hid H (Hd P0 fp)) (vS ρ) σ:=fun i d e=>by
 obtain⟨v,h1,h2⟩:=S.slot i 0 d (Bx e)
 exact⟨v,h1,h2.2⟩
theorem Sta.viewA (S:Sta K H0 P0 B0 ρ σ H fp):Ans K (L2.hid H P0) (vA ρ) σ:=fun i d e=>by
 obtain⟨n,e⟩:=Bn e
 obtain⟨v,h1,h2⟩:=S.slot i n d e
 exact⟨v,h1,h2.share (kF fun a p=>.inl p) fun a m o e=>jR (S.np m) e⟩
def Tmp (K:aP)(H0:Hp)(P0:aD->Prop)(B0:Hp)(ρ:bD)(σ:St)(n:Nat)(d:aA)(v:V)(H:Hp):Prop:=
 ∃ fp,Sta K H0 P0 B0 ρ σ H fp/\Ajx K (L2.hid H (Hd P0 fp)) H n d v (fp ρ.length)
inductive Md | s | a
noncomputable def AR (ρ:bD):Bool:=ρ.all fun s=>match s with
 | some (0,_)=>true
 | some (1,.dict _)=>true
 | none=>true
 | _=>false
noncomputable def eV (n:Nat)(m:Md)(f:EF)(ρ:bD):Option aA:=match m with
 | .s=>f (vS ρ)
 | .a=>(f (vA ρ)).bind fun d=>if (cS n d||(AR ρ&&decide (n<9)&&jN n d))=true then some d else none
noncomputable def bV (m:Md)(f:BF)(ρ:bD):Option Bool:=match m with
 | .s=>f (vS ρ)
 | .a=>f (vA ρ)
noncomputable def aV (m:Md)(f:AF)(ρ:bD):Option (List aA):=match m with
 | .s=>f (vS ρ)
 | .a=>f (vA ρ)
noncomputable def tE (K:aP)(H0:Hp)(P0:aD->Prop)(n:Nat)(m:Md)(f:EF):TE:=fun σ H Q=>∃ B0 ρ fp d,Sta K H0 P0 B0 ρ σ H fp/\eV n m f ρ=some d /\ ∀ v H',Tmp K H0 P0 B0 ρ σ n d v H'->Q v H'
end
section
variable {X:Cx}{H0:Hp}{P0:aD->Prop}{e:bA}{n:Nat}
theorem Sta.trim {K:aP}{B0:Hp}{ρ:bD}{σ:St}{H:Hp}{fp:Nat->List aD}(S:Sta K H0 P0 B0 ρ σ H fp) : ∃ fp',Sta K H0 P0 B0 ρ σ H fp' /\ ∀ i a,a∈fp' i->a∈fp i /\ ∃ n d,ρ[i]?=some (some (n,d)):=by
 let fp':Nat->List aD:=fun i=>match ρ[i]? with
  | some (some _)=>fp i
  | _=>[]
 have sub : ∀ i a,a∈fp' i->a∈fp i /\ ∃ n d,ρ[i]?=some (some (n,d)):=fun i a m=>by
  have m:a∈(match ρ[i]? with | some (some _)=>fp i | _=>[]):=m
  split at m
  ·rename_i x e
   exact⟨m,x.1,x.2,e⟩
  ·simp at m
 have same : ∀ i n d,ρ[i]?=some (some (n,d))->fp' i=fp i:=fun i n d e=>by
  show(match ρ[i]? with | some (some _)=>fp i | _=>[])=fp i
  rw[e]
 have xb:Ext (L2.hid H (Hd P0 fp)) (L2.hid H (Hd P0 fp')):=kF fun a h=>h.imp id fun⟨i,m⟩=>⟨i,(sub i a m).1⟩
 refine⟨fp',⟨S.len,fun i=>?_,fun i j a h1 h2=>S.dj i j a (sub i a h1).1 (sub j a h2).1,fun i a m=>S.own i a (sub i a m).1,S.ext,S.hd,S.base.trans xb,fun i n d e=>?_⟩,sub⟩
 ·show(match ρ[i]? with | some (some _)=>fp i | _=>[]).Nodup
  split
  ·exact S.nd i
  ·exact EB
 ·obtain⟨v,h1,h2⟩:=S.slot i n d e
  rw[same i n d e]
  exact⟨v,h1,h2.keep xb fun a m=>rfl⟩
theorem Sta.dicts {K:aP}{B0:Hp}{ρ:bD}{σ:St}{H:Hp}{fp:Nat->List aD}(S:Sta K H0 P0 B0 ρ σ H fp)(ho:AR ρ=true){i:Nat}{a:aD}{n:Nat}{d:aA}(m:a∈fp i)(e:ρ[i]?=some (some (n,d))) : ∃ q:DQ,H a=some (dO q):=by
 have:=oV.mp ho _ (mU e)
 obtain⟨v,h1,h2⟩:=S.slot i n d e
 split at this
 ·rename_i z
  cases z
  rw[h2.1] at m
  simp at m
 ·rename_i kds z
  cases z
  obtain⟨p,xs,Fs,_,hp,hF,h3⟩:=h2
  have hn : ∀ {ds:List (aA×aA)} {ys:List (aK×V)} {Gs:List (List aD)},All3 (fun(kd:aA×aA) (kv:aK×V) f=>kd.1=kD kv.1/\Agu K (L2.hid H (Hd P0 fp)) H 0 kd.2 kv.2 f) ds ys Gs->Gs.flatten=[]:=fun q=>by
   induction q with
   | nil=>rfl
   | cons h _ ih=>rw[lG,h.2.1,ih]; rfl
  rw[hF,hn h3] at m
  rw[fL.mp m]
  exact⟨.inl xs,hp⟩
 ·rename_i z
  cases z
 ·cases this
theorem LK {K:aP}{f:EF}(m:Md) : ∀ σ H Q,tE K H0 P0 n m f σ H Q->tF K n f σ H Q:=fun σ H Q gh=>by
 obtain⟨B0,ρ,fp,d,S,ef,k⟩:=gh
 cases m with
 | s=>
  refine⟨Hd P0 fp,vS ρ,d,S.hid,S.viewS,ef,fun v H' Fr x nd fr r=>k v H' ?_⟩
  have S':=S.grow x
  have hsub : ∀ a,Hd P0 (fun i=>if i=ρ.length then Fr else fp i) a->orL (Hd P0 fp) Fr a:=fun a h=>by
   rcases h with h | ⟨i,h⟩
   ·exact .inl (.inl h)
   ·by_cases hi:i=ρ.length
    ·simp only[hi,if_true] at h; exact .inr h
    ·simp only[hi,if_false] at h; exact .inl (.inr ⟨i,h⟩)
  have nfr : ∀ i a,a∈fp i->a∉Fr:=fun i a h1 h2=>by
   have:=(fr a h2).1
   rcases(S.own i a h1).2 with⟨xs,e⟩ | ⟨xs,e⟩ <;> rw[this] at e <;> first | cases e | (cases xs <;> simp[dO] at e)
  have xb:Ext (L2.hid H (Hd P0 fp)) (L2.hid H' (Hd P0 fun i=>if i=ρ.length then Fr else fp i)):=fun b o e=>by
   obtain⟨nb,e⟩:=Acz.mp e
   refine jR (fun q=>?_) (x _ _ e)
   rcases q with q | ⟨j,q⟩
   ·exact nb (.inl q)
   ·by_cases hj:j=ρ.length
    ·simp only[hj,if_true] at q; rw[(fr b q).1] at e; cases e
    ·simp only[hj,if_false] at q; exact nb (.inr ⟨j,q⟩)
  refine⟨fun i=>if i=ρ.length then Fr else fp i,⟨S.len,fun i=>?_,fun i j a hi hj=>?_,fun i a hi=>?_,S'.ext,S.hd,S.base.trans xb,fun i n' d' e'=>?_⟩,?_⟩
  ·by_cases hi:i=ρ.length
   ·simp only[hi,if_true]; exact nd
   ·simp only[hi,if_false]; exact S.nd i
  ·by_cases h1:i=ρ.length <;> by_cases h2:j=ρ.length
   ·rw[h1,h2]
   ·simp only[h1,if_true] at hi; simp only[h2,if_false] at hj; exact absurd hi (nfr _ _ hj)
   ·simp only[h1,if_false] at hi; simp only[h2,if_true] at hj; exact absurd hj (nfr _ _ hi)
   ·simp only[h1,if_false] at hi; simp only[h2,if_false] at hj; exact S.dj i j a hi hj
  ·by_cases h1:i=ρ.length
   ·simp only[h1,if_true] at hi
    exact⟨S.ext.none (fr a hi).1,r.mut a hi⟩
   ·simp only[h1,if_false] at hi
    exact S'.own i a hi
  ·have hlt:i<ρ.length:=(gE.mp e').1
   have h1:i≠ρ.length:=by omega
   obtain⟨v',q1,q2⟩:=S'.slot i n' d' e'
   refine⟨v',q1,?_⟩
   simp only[h1,if_false]
   obtain⟨v2,p1,p2⟩:=S.slot i n' d' e'
   have ev:v2=v':=gW (gW (p1.symm.trans q1))
   subst ev
   refine p2.keep xb fun a m=>?_
   rcases(S.own i a m).2 with⟨xs,e⟩ | ⟨xs,e⟩
   ·rw[e,x _ _ e]
   ·rw[e,x _ _ e]
  ·simp only[if_true]
   exact r.keep (kF hsub) fun a m=>rfl
 | a=>
  obtain⟨d',ed,ef⟩:=XBs ef
  obtain⟨fl,rfl⟩:=eI ef
  obtain⟨fp,S,trm⟩:=S.trim
  refine⟨P0,vA ρ,d',S.hd.ext S.ext,S.viewA,ed,fun v H' Fr x nd fr r=>k v H' ?_⟩
  have S':=S.grow x
  have nfr : ∀ i a,a∈fp i->a∉Fr:=fun i a h1 h2=>by
   have:=(fr a h2).1
   rcases(S.own i a h1).2 with⟨xs,e⟩ | ⟨xs,e⟩ <;> rw[this] at e <;> first | cases e | (cases xs <;> simp[dO] at e)
  have xb:Ext (L2.hid H (Hd P0 fp)) (L2.hid H' (Hd P0 fun i=>if i=ρ.length then Fr else fp i)):=fun b o e=>by
   obtain⟨nb,e⟩:=Acz.mp e
   refine jR (fun q=>?_) (x _ _ e)
   rcases q with q | ⟨j,q⟩
   ·exact nb (.inl q)
   ·by_cases hj:j=ρ.length
    ·simp only[hj,if_true] at q; rw[(fr b q).1] at e; cases e
    ·simp only[hj,if_false] at q; exact nb (.inr ⟨j,q⟩)
  refine⟨fun i=>if i=ρ.length then Fr else fp i,⟨S.len,fun i=>?_,fun i j a hi hj=>?_,fun i a hi=>?_,S'.ext,S.hd,S.base.trans xb,fun i n' d' e'=>?_⟩,?_⟩
  ·by_cases hi:i=ρ.length
   ·simp only[hi,if_true]; exact nd
   ·simp only[hi,if_false]; exact S.nd i
  ·by_cases h1:i=ρ.length <;> by_cases h2:j=ρ.length
   ·rw[h1,h2]
   ·simp only[h1,if_true] at hi; simp only[h2,if_false] at hj; exact absurd hi (nfr _ _ hj)
   ·simp only[h1,if_false] at hi; simp only[h2,if_true] at hj; exact absurd hj (nfr _ _ hi)
   ·simp only[h1,if_false] at hi; simp only[h2,if_false] at hj; exact S.dj i j a hi hj
  ·by_cases h1:i=ρ.length
   ·simp only[h1,if_true] at hi
    exact⟨S.ext.none (fr a hi).1,r.mut a hi⟩
   ·simp only[h1,if_false] at hi
    exact S'.own i a hi
  ·have hlt:i<ρ.length:=(gE.mp e').1
   have h1:i≠ρ.length:=by omega
   obtain⟨v2,p1,p2⟩:=S.slot i n' d' e'
   refine⟨v2,p1,?_⟩
   simp only[h1,if_false]
   refine p2.keep xb fun a m=>?_
   rcases(S.own i a m).2 with⟨xs,e⟩ | ⟨xs,e⟩
   ·rw[e,x _ _ e]
   ·rw[e,x _ _ e]
  ·simp only[if_true]
   have up : ∀ a o,(L2.hid H' (orL P0 Fr)) a=some o->((∃ xs,o = .tup xs) \/ (AR ρ=true /\ ∀ q,o≠dO q))->(L2.hid H' (Hd P0 fun i=>if i=ρ.length then Fr else fp i)) a=some o:=fun a o e ho=>by
    obtain⟨na,e⟩:=Acz.mp e
    refine jR (fun q=>?_) e
    rcases q with q | ⟨j,q⟩
    ·exact na (.inl q)
    ·by_cases hj:j=ρ.length
     ·simp only[hj,if_true] at q; exact na (.inr q)
     ·simp only[hj,if_false] at q
      rcases ho with⟨xs,rfl⟩ | ⟨ho,hq⟩
      ·rcases(S'.own j a q).2 with⟨ys,e2⟩ | ⟨ys,e2⟩ <;> rw[e] at e2 <;> first | cases e2 | (cases ys <;> simp[dO] at e2)
      ·obtain⟨_,n',d',e'⟩:=trm j a q
       obtain⟨z,ez⟩:=S'.dicts ho q e'
       rw[e] at ez
       injection ez with ez
       exact hq z ez
   rcases Bool.or_eq_true_iff.mp fl with fl | fl
   ·exact r.flat (fun a xs e=>up a _ e (.inl ⟨xs,rfl⟩)) fl
   ·have fl:=hW.mp fl
    have fl1:=hW.mp fl.1
    exact r.nd (fun a o e hq=>up a o e (.inr ⟨fl1.1,hq⟩)) (of_decide_eq_true fl1.2) fl.2
theorem ev {f:EF}(m:Md)(h:DF n X e f):PE X e (tE X.K H0 P0 n m f):=PE.imp h (LK m)
noncomputable def tB' (K:aP)(H0:Hp)(P0:aD->Prop)(m:Md)(f:BF):TT:=fun σ H Q=>∃ B0 ρ fp b,Sta K H0 P0 B0 ρ σ H fp/\bV m f ρ=some b /\ ∀ H',Sta K H0 P0 B0 ρ σ H' fp->Q b H'
theorem evB {f:BF}(m:Md)(h:DT X e f):PT X e (tB' X.K H0 P0 m f):=PT.imp h fun σ H Q gh=>by
 obtain⟨B0,ρ,fp,b,S,ef,k⟩:=gh
 cases m with
 | s=>exact⟨Hd P0 fp,vS ρ,b,S.hid,S.viewS,ef,fun H' x=>k H' (S.grow x)⟩
 | a=>exact⟨P0,vA ρ,b,S.hd.ext S.ext,S.viewA,ef,fun H' x=>k H' (S.grow x)⟩
end
inductive Out where
 | nx (ρ:bD) | rt (d:aA) | bk (ρ:bD) | ct (ρ:bD)
abbrev SF:=bD->Option Out
def LH (K:aP)(H0:Hp)(P0:aD->Prop)(n0:Nat)(d:aA)(v:V)(H':Hp):Prop:=
 ∃ Fr,Ext H0 H'/\Fr.Nodup/\(∀ a∈Fr,H0 a=none /\ ∃ o,H' a=some o)/\Ajx K (hid H' (orL P0 Fr)) H' n0 d v Fr
def WZ (K:aP)(H0:Hp)(P0:aD->Prop)(B0:Hp)(n0:Nat)(D:Ends):Out->Prop
 | .nx ρ=>∀ σ H fp,Sta K H0 P0 B0 ρ σ H fp->D.nx σ H
 | .bk ρ=>∀ σ H fp,Sta K H0 P0 B0 ρ σ H fp->D.bk σ H
 | .ct ρ=>∀ σ H fp,Sta K H0 P0 B0 ρ σ H fp->D.ct σ H
 | .rt d=>∀ v H',LH K H0 P0 n0 d v H'->D.rt v H'
noncomputable def tS (K:aP)(H0:Hp)(P0:aD->Prop)(n0:Nat)(F:SF):TS:=fun D σ H=>∃ B0 ρ fp o,Sta K H0 P0 B0 ρ σ H fp/\F ρ=some o/\WZ K H0 P0 B0 n0 D o
abbrev DS (X:Cx)(H0:Hp)(P0:aD->Prop)(n0:Nat)(s:cG)(F:SF):Prop:=PS X s (tS X.K H0 P0 n0 F)
abbrev DSs (X:Cx)(H0:Hp)(P0:aD->Prop)(n0:Nat)(s:List cG)(F:SF):Prop:=PSs X s (tS X.K H0 P0 n0 F)
section
variable {X:Cx}{H0:Hp}{P0:aD->Prop}{n0 n:Nat}{s:cG}{ss:List cG}{F G:SF}{e:bA}{f:EF}{pos:cD}
theorem PS.imp {t t':TS}(h:PS X s t)(w : ∀ D σ H,t' D σ H->t D σ H):PS X s t':=fun pins st σ H D I q=>h pins st σ H D I (w _ _ _ q)
theorem PSs.imp {t t':TS}(h:PSs X ss t)(w : ∀ D σ H,t' D σ H->t D σ H):PSs X ss t':=fun pins st σ H D I q=>h pins st σ H D I (w _ _ _ q)
noncomputable def bY:SF:=fun ρ=>some (.nx ρ)
noncomputable def aS (F G:SF):SF:=fun ρ=>(F ρ).bind fun o=>match o with
 | .nx ρ'=>G ρ'
 | o=>some o
theorem fJ:DSs X H0 P0 n0 [] bY:=PSs.imp Cm fun D σ H gh=>by
 obtain⟨B0,ρ,fp,o,S,ef,k⟩:=gh
 cases ef
 exact k σ H fp S
theorem bO (h:DS X H0 P0 n0 s F):DSs X H0 P0 n0 [s] F:=FX h
theorem bF (h:DS X H0 P0 n0 s F)(h2:DSs X H0 P0 n0 ss G):DSs X H0 P0 n0 (s::ss) (aS F G):=PSs.imp (GB h h2) fun D σ H gh=>by
 obtain⟨B0,ρ,fp,o,S,ef,k⟩:=gh
 obtain⟨o1,e1,ef⟩:=XBs ef
 refine⟨B0,ρ,fp,o1,S,e1,?_⟩
 cases o1 with
 | nx ρ1=>exact fun σ1 H1 fp1 S1=>⟨B0,ρ1,fp1,o,S1,ef,k⟩
 | rt d=>cases ef; exact k
 | bk ρ1=>cases ef; exact k
 | ct ρ1=>cases ef; exact k
noncomputable def sIf (m:Md)(t:BF)(F G:SF):SF:=fun ρ=>(bV m t ρ).bind fun b=>if b=true then F ρ else G ρ
theorem fE {c:bA}{a b:List cG}{t:BF}(m:Md)(hc:DT X c t)(ha:DSs X H0 P0 n0 a F)(hb:DSs X H0 P0 n0 b G):DS X H0 P0 n0 (.If c a b pos) (sIf m t F G):=
 PS.imp (XD (evB (H0:=H0) (P0:=P0) m hc) ha hb) fun D σ H gh=>by
  obtain⟨B0,ρ,fp,o,S,ef,k⟩:=gh
  obtain⟨b,e1,ef⟩:=XBs ef
  refine⟨B0,ρ,fp,b,S,e1,fun H1 S1=>?_⟩
  cases b with
  | true=>exact pL ⟨B0,ρ,fp,o,S1,by simpa using ef,k⟩
  | false=>exact pK ⟨B0,ρ,fp,o,S1,by simpa using ef,k⟩
noncomputable def frz (i:Nat)(ρ:bD):bD:=match ρ[i]? with
 | some (some (_,d))=>ρ.set i (some (0,d))
 | _=>ρ
theorem Sta.frz {K:aP}{H B0:Hp}{ρ:bD}{σ:St}{fp:Nat->List aD}(S:Sta K H0 P0 B0 ρ σ H fp)(i:Nat) : ∃ fp',Sta K H0 P0 B0 (L2.frz i ρ) σ H fp':=by
 unfold L2.frz
 cases e:ρ[i]? with
 | none=>exact⟨fp,S⟩
 | some s=>
  cases s with
  | none=>exact⟨fp,S⟩
  | some q=>
   obtain⟨n,d⟩:=q
   have hi:i<ρ.length:=(gE.mp e).1
   have hsub : ∀ a,Hd P0 (fun j=>if j=i then [] else fp j) a->Hd P0 fp a:=fun a h=>by
    rcases h with h | ⟨j,h⟩
    ·exact .inl h
    ·by_cases hj:j=i
     ·simp only[hj,if_true] at h; simp at h
     ·simp only[hj,if_false] at h; exact .inr ⟨j,h⟩
   refine⟨fun j=>if j=i then [] else fp j,⟨by simp[S.len],fun j=>?_,fun j k a h1 h2=>?_,fun j a h1=>?_,S.ext,S.hd,S.base.trans (kF hsub),fun j n' d' e'=>?_⟩⟩
   ·by_cases hj:j=i
    ·simp only[hj,if_true]; exact .nil
    ·simp only[hj,if_false]; exact S.nd j
   ·by_cases hj:j=i
    ·simp only[hj,if_true] at h1; simp at h1
    ·by_cases hk:k=i
     ·simp only[hk,if_true] at h2; simp at h2
     ·simp only[hj,if_false] at h1; simp only[hk,if_false] at h2; exact S.dj j k a h1 h2
   ·by_cases hj:j=i
    ·simp only[hj,if_true] at h1; simp at h1
    ·simp only[hj,if_false] at h1; exact S.own j a h1
   ·by_cases hj:j=i
    ·subst hj
     rw[rR hi] at e'
     cases e'
     obtain⟨v,h1,h2⟩:=S.slot j n d e
     refine⟨v,h1,?_⟩
     simp only[if_true]
     refine⟨rfl,h2.share (kF hsub) fun a m o q=>jR (fun z=>?_) q⟩
     rcases z with z | ⟨k,z⟩
     ·exact S.np m z
     ·by_cases hk:k=j
      ·simp only[hk,if_true] at z; simp at z
      ·simp only[hk,if_false] at z; exact hk (S.dj k j a z m)
    ·rw[nY (fun z=>hj z.symm)] at e'
     obtain⟨v,h1,h2⟩:=S.slot j n' d' e'
     refine⟨v,h1,?_⟩
     simp only[hj,if_false]
     exact h2.keep (kF hsub) fun a m=>rfl
noncomputable def cV (i:Nat)(F:SF):SF:=fun ρ=>F (frz i ρ)
theorem jS (i:Nat)(h:DSs X H0 P0 n0 ss F):DSs X H0 P0 n0 ss (cV i F):=PSs.imp h fun D σ H ⟨B0,ρ,fp,o,S,ef,k⟩=>let ⟨fp',S'⟩:=S.frz i; ⟨B0,_,fp',o,S',ef,k⟩
theorem Tmp.set {K:aP}{H B0:Hp}{ρ:bD}{σ:St}{d:aA}{v:V}{i:Nat}(t:Tmp K H0 P0 B0 ρ σ n d v H)(hi:i<ρ.length) : ∃ fp,Sta K H0 P0 B0 (ρ.set i (some (n,d))) (σ.set i (some v)) H fp:=by
 obtain⟨fp,S,r⟩:=t
 have hne:ρ.length≠i:=by omega
 have hsub : ∀ a,Hd P0 (fun j=>if j=i then fp ρ.length else if j=ρ.length then [] else fp j) a->Hd P0 fp a:=fun a h=>by
  rcases h with h | ⟨j,h⟩
  ·exact .inl h
  ·by_cases hj:j=i
   ·simp only[hj,if_true] at h; exact .inr ⟨_,h⟩
   ·by_cases hk:j=ρ.length
    ·simp only[hj,if_false,hk,if_true] at h
     rw[if_neg hne] at h
     simp at h
    ·simp only[hj,if_false,hk] at h; exact .inr ⟨j,h⟩
 have src : ∀ j a,a∈(if j=i then fp ρ.length else if j=ρ.length then [] else fp j)->(j=i/\a∈fp ρ.length) \/ (j≠i/\j≠ρ.length/\a∈fp j):=fun j a h=>by
  by_cases hj:j=i
  ·simp only[hj,if_true] at h; exact .inl ⟨hj,h⟩
  ·by_cases hk:j=ρ.length
   ·rw[if_neg hj,if_pos hk] at h; simp at h
   ·rw[if_neg hj,if_neg hk] at h; exact .inr ⟨hj,hk,h⟩
 refine⟨fun j=>if j=i then fp ρ.length else if j=ρ.length then [] else fp j,⟨by simp[S.len],fun j=>?_,fun j k a h1 h2=>?_,fun j a h1=>?_,S.ext,S.hd,S.base.trans (kF hsub),fun j n' d' e'=>?_⟩⟩
 ·by_cases hj:j=i
  ·rw[if_pos hj]; exact S.nd _
  ·by_cases hk:j=ρ.length
   ·rw[if_neg hj,if_pos hk]; exact .nil
   ·rw[if_neg hj,if_neg hk]; exact S.nd _
 ·rcases src j a h1 with⟨e1,m1⟩ | ⟨e1,l1,m1⟩ <;> rcases src k a h2 with⟨e2,m2⟩ | ⟨e2,l2,m2⟩
  ·rw[e1,e2]
  ·exact absurd (S.dj _ _ a m2 m1) l2
  ·exact absurd (S.dj _ _ a m1 m2) l1
  ·exact S.dj j k a m1 m2
 ·rcases src j a h1 with⟨e1,m1⟩ | ⟨e1,l1,m1⟩
  ·exact S.own _ a m1
  ·exact S.own _ a m1
 ·by_cases hj:j=i
  ·subst hj
   rw[rR hi] at e'
   cases e'
   refine⟨v,?_,?_⟩
   ·rw[rR (by rw[S.len]; exact hi)]
   ·rw[if_pos rfl]
    exact r.keep (kF hsub) fun a m=>rfl
  ·rw[nY (fun z=>hj z.symm)] at e'
   have hlt:j<ρ.length:=(gE.mp e').1
   have hk:j≠ρ.length:=by omega
   obtain⟨v',h1,h2⟩:=S.slot j n' d' e'
   refine⟨v',?_,?_⟩
   ·rw[nY (fun z=>hj z.symm)]; exact h1
   ·rw[if_neg hj,if_neg hk]
    exact h2.keep (kF hsub) fun a m=>rfl
noncomputable def bB (i n:Nat)(m:Md)(f:EF):SF:=fun ρ=>(eV n m f ρ).bind fun d=>if i<ρ.length then some (.nx (ρ.set i (some (n,d)))) else none
theorem bW {i:Nat}{x:aE}{pos':cD}(n:Nat)(m:Md)(hN:X.N.Nodup)(hi:X.N[i]?=some x)(hx:jY X.env.scope x)(he:DF n X e f)(hs:nR e (some (.Name x pos')) pos.line X.env=pure false:=by rfl)(hf:X.fn x=true \/ X.env.scope.names.lookup x=some .local:=by first | exact .inl rfl | exact .inr rfl | assumption) :
  DS X H0 P0 n0 (.Assign [.Name x pos'] e pos) (bB i n m f):=PS.imp (SN hN hi hx (ev (H0:=H0) (P0:=P0) m he) hs hf) fun D σ H gh=>by
 obtain⟨B0,ρ,fp,o,S,ef,k⟩:=gh
 obtain⟨d,e1,ef⟩:=XBs ef
 obtain⟨hl,rfl⟩:=eI ef
 refine⟨B0,ρ,fp,d,S,e1,fun v H' t=>?_⟩
 obtain⟨fp',S'⟩:=t.set hl
 exact k _ _ fp' S'
theorem Tmp.ret {K:aP}{H B0:Hp}{ρ:bD}{σ:St}{d:aA}{v:V}(t:Tmp K H0 P0 B0 ρ σ n d v H):LH K H0 P0 n d v H:=by
 obtain⟨fp,S,r⟩:=t
 refine⟨fp ρ.length,S.ext,S.nd _,fun a m=>⟨(S.own _ a m).1,?_⟩,r.keep (kF fun a h=>?_) fun a m=>rfl⟩
 ·rcases(S.own _ a m).2 with⟨xs,e⟩ | ⟨xs,e⟩
  ·exact⟨_,e⟩
  ·exact⟨_,e⟩
 ·rcases h with h | h
  ·exact .inl h
  ·exact .inr ⟨_,h⟩
noncomputable def bK (n:Nat)(m:Md)(f:EF):SF:=fun ρ=>(eV n m f ρ).bind fun d=>some (.rt d)
theorem cX (m:Md)(he:DF n0 X e f):DS X H0 P0 n0 (.Return (some e) pos) (bK n0 m f):=PS.imp (xJ (ev (H0:=H0) (P0:=P0) m he)) fun D σ H gh=>by
 obtain⟨B0,ρ,fp,o,S,ef,k⟩:=gh
 obtain⟨d,e1,ef⟩:=XBs ef
 cases ef
 exact⟨B0,ρ,fp,d,S,e1,fun v H' t=>k v H' t.ret⟩
noncomputable def eB (i n0:Nat):SF:=fun ρ=>match ρ[i]? with
 | some (some (n,d))=>if n=n0 then some (.rt d) else none
 | _=>none
theorem MY (i:Nat){x:aE}{p:cD}(hN:X.N[i]?=some x:=by rfl)(hv:lH X.env.scope x:=by first | exact aT rfl | exact aY (aT rfl) | exact aY (aY rfl))(hd:(x == ("__debug__" : aE))=false:=by decide)
  (hcd:(x == ("__classdict__" : aE))=false:=by decide):DS X H0 P0 n0 (.Return (some (.Name x p)) pos) (eB i n0):=PS.imp (xJ (nG hN hv hd hcd)) fun D σ H gh=>by
 obtain⟨B0,ρ,fp,o,S,ef,k⟩:=gh
 unfold eB at ef
 cases e:ρ[i]? with
 | none=>rw[e] at ef; simp at ef
 | some q=>
  cases q with
  | none=>rw[e] at ef; simp at ef
  | some q=>
   obtain⟨n,d⟩:=q
   rw[e] at ef
   obtain⟨rfl,rfl⟩:=eI ef
   obtain⟨v,h1,h2⟩:=S.slot i n d e
   refine⟨v,h1,k v H ⟨fp i,S.ext,S.nd i,fun a m=>⟨(S.own i a m).1,?_⟩,h2.keep (kF fun a h=>?_) fun a m=>rfl⟩⟩
   ·rcases(S.own i a m).2 with⟨xs,e⟩ | ⟨xs,e⟩
    ·exact⟨_,e⟩
    ·exact⟨_,e⟩
   ·rcases h with h | h
    ·exact .inl h
    ·exact .inr ⟨_,h⟩
end
section
variable {X:Cx}
theorem Hu:Ae3 X (.builtin "isinstance") (fun xs H Q=>∃ x T t b,xs=[x,.ty T]/\TyOf X.K H x t/\UQ X.K t (.type T)=some b/\Q (.bl b) H):=by
 intro pins s σ H xs us Q I r h
 obtain⟨x,T,t,b,rfl,ty,e,q⟩:=h
 obtain⟨u,w',rfl,ru,rw'⟩:=vals2 r
 cases rw'
 exact Fi I ru ty e fun tk=>⟨.bl b,H,I.tok tk,rfl,q⟩
end
section
variable {X:Cx}
noncomputable def AM (x:aE):It:=⟨fun i _=>i<x.cps.size,fun i H v H'=>H'=H /\ ∃ c,x.cps[i]?=some c/\v = .str ⟨#[c]⟩,fun i _=>x.cps.size≤i⟩
theorem PR {P:cL}{w:cA}{K:aP}{tg:bA}{it:aD}{x:aE}{tk0:Tok}{ty:String}
  (W : ∀ A':eD,A'.handled=none->Walks P w A' it [it] [it] x.cps.size (SignAt x) (fun i h=>h.IsStrIter it ty x tk0 i))
  (sf : ∀ (A:eD) (i:Nat) (s:aL) (Q:aG->aL->Prop) (E:aG->aL->Prop),s.heap.IsStrIter it ty x tk0 i->Q (.ref it) s->aO (bC P w) A (tP (.ref it)) Q E s)
  (hno:["enumerate","zip","dict_itemiterator","dict_reverseitemiterator","odict_iterator","itertools.zip_longest","itertools.pairwise"].contains ty=false) :
  Turn P w K tg (AM x) [it] it (fun i h=>h.IsStrIter it ty x tk0 i/\i≤x.cps.size) where
 mem:=by simp
 obj:=fun i h st b hb=>by
  have e:b=it:=by simpa using hb
  subst e
  obtain⟨o,e,_,d⟩:=st.1
  exact⟨o,e,fun v z=>by rw[d] at z; cases z⟩
 keep:=fun i h h' st k=>⟨let ⟨o,e,r⟩:=st.1; ⟨o,k it (by simp) o e,r⟩,st.2⟩
 item:=by
  intro X hP hw hK hc i pins s σ H E I hf st hg
  subst hP hw hK
  obtain⟨f0,f1,f2,f3,f4,f5⟩:=hf it (by simp)
  refine(W X.A (I.ok.hd hc)).item i s _ _ hg st.1 fun v h' tk hv st' kk=>?_
  obtain⟨c,u,hcx,rfl⟩:=hv
  have I1:Inv X pins σ H { s with heap:=h',toks:=tk }:=I.turned (fun b o hb e=>kk b o (by simpa using hb) e) f0 f1 f3 f4 f5
  obtain⟨o,e,hcl,d⟩:=id st'
  exact⟨_,rfl,CS (s:={ s with heap:=h',toks:=tk }) e hcl d hno ⟨.str ⟨#[c]⟩,H,I1,⟨u,rfl⟩,⟨rfl,c,hcx,rfl⟩,⟨st',hg⟩,fun b hb=>(hf b hb).1⟩⟩
 done:=by
  intro X hP hw hK hc i pins s σ H E I hf st hg
  subst hP hw hK
  obtain⟨f0,f1,f2,f3,f4,f5⟩:=hf it (by simp)
  have hi:i=x.cps.size:=Nat.le_antisymm st.2 hg
  subst hi
  exact(W X.A (I.ok.hd hc)).done s _ _ st.1 fun h' tk kk=>⟨rfl,I.turned (fun b o hb e=>kk b o (by simpa using hb) e) f0 f1 f3 f4 f5⟩
 self:=fun A i s Q E st h=>sf A i s Q E st.1 h
noncomputable def XS (tl:TE):TI:=fun σ H R=>tl σ H fun v H1=>∃ x,v = .str x/\R (AM x) H1
theorem Am {X:Cx}{tg l:bA}{tl:TE}(hl:PE X l tl):PI X tg l (XS tl):=by
 intro pins s σ H R I h
 refine thn (hl pins s σ H _ I h) fun v s1 gh=>?_
 obtain⟨y,H1,I1,r1,q1⟩:=gh
 obtain⟨x,rfl,q⟩:=q1
 obtain⟨t,rfl⟩:=r1
 have fin : ∀ (o:bP) (ty:String),Turn X.prog X.w X.K tg (AM x) [s1.heap.objs.size] s1.heap.objs.size (fun i h=>h.IsStrIter s1.heap.objs.size ty x t i/\i≤x.cps.size)->(s1.heap.push o).IsStrIter s1.heap.objs.size ty x t 0 ->
   PIE X pins σ tg R (.ref s1.heap.objs.size) { s1 with heap:=s1.heap.push o }:=fun o ty T st=>by
  refine⟨s1.heap.objs.size,[s1.heap.objs.size],_,_,H1,rfl,I1.kept (t':=s1.toks) fun b o e=>cY _ e,T,⟨st,mS _⟩,fun b hb=>?_,q⟩
  have e:b=s1.heap.objs.size:=by simpa using hb
  subst e
  exact I1.fpOk (dA _) (I1.hok.fresh (dA _))
 cases ha:x.cps.all (· < 128)
 ·exact wpAny_pyIter_wide ha (fin _ "str_iterator" (PR (fun A' hA=>Walks.strWide hA _ x t) (fun A i s Q E st h=>wpAny_pyIter_striter_wide st h) (by decide)) ⟨_,eW _ rfl,rfl,rfl⟩)
 ·exact wpAny_pyIter_ascii ha (fin _ "str_ascii_iterator" (PR (fun A' hA=>Walks.strAscii hA _ x t) (fun A i s Q E st h=>wpAny_pyIter_striter_ascii st h) (by decide)) ⟨_,eW _ rfl,rfl,rfl⟩)
noncomputable def allB (xs:List V):Bool:=xs.all fun v=>decide (v = .bl true)
theorem Ds (hc:X.calm=true):Ae3 X (.builtin "all") (fun xs H Q=>∃ p ys,xs=[.ref p]/\SqL X.K H p ys/\(∀ y∈ys,∃ b,y = .bl b)/\Q (.bl (allB ys)) H):=by
 intro pins s σ H xs us Q I r h
 obtain⟨p,ys,rfl,hs,hb,q⟩:=h
 obtain⟨u,rfl,ru⟩:=vals1 r
 cases ru
 obtain⟨its,rv,pl,hz⟩:=I.list hs
 have hl:s.heap.IsList p its.toArray:=pl.isList
 have hlt:p<s.heap.objs.size:=by obtain⟨o,n,e,_⟩:=pl; exact cI e
 have hh:X.A.handled=none:=I.ok.hd hc
 have len:=rv.length
 refine call_all_walk (zS hl ⟨s.heap.objs.size,_,_,_,_,_,fun i=>decide (ys[i]?=some (.bl true)),rfl,Walks.list (A:=X.A.in1) hh s.heap.objs.size p (fC hlt) its.toArray,
  ⟨⟨_,eW _ rfl,rfl,rfl⟩,hl.at fun o e=>cY _ e⟩,?_,?_⟩)
 ·intro i v s' Q' E' hv hq
  have hv':its[i]?=some v:=by simpa using hv
  have hi:i<ys.length:=by rw[len]; exact(gE.mp hv').1
  obtain⟨b,hy⟩:=hb ys[i] (KC hi)
  have hy':ys[i]?=some (.bl b):=by rw[iO hi,hy]
  obtain⟨u',h1,h2⟩:=rv.get hy'
  rw[hv'] at h1; cases h1
  cases h2
  refine rH ?_
  have:decide (ys[i]?=some (V.bl true))=b:=by rw[hy']; cases b <;> simp
  have hq:Q' (decide (ys[i]?=some (V.bl true))) s':=hq
  rw[this] at hq
  exact hq
 ·intro h' tk hk
  have e:((cE its.toArray.size).all fun i=>decide (ys[i]?=some (V.bl true)))=allB ys:=by
   have hn:its.toArray.size=ys.length:=by simp[len]
   rw[hn]
   unfold allB
   rw[kQ]
   simp only[oV,jA,decide_eq_true_eq]
   constructor
   ·intro h v hv
    obtain⟨i,hi,rfl⟩:=List.getElem_of_mem hv
    have:=h i hi
    rw[iO hi] at this
    exact gW this
   ·intro h i hi
    rw[iO hi,h _ (KC hi)]
  rw[e]
  refine⟨.bl (allB ys),H,?_,rfl,q⟩
  exact I.kept fun b o eb=>hk b o (by simp; exact fC (cI eb)) (cY _ eb)
end
structure Def (P:cL)(w:cA)(K:aP)(mg:aE->Option aG)(base:bG)(x:aE)(k:Nat)(ps:List aE)(sp:Sp):Prop where
 ex : ∃ f fd,FnOk P w K mg base CX0 k f fd ps sp/\mg x=some (.ref f)/\tT K (.ref f)=true/\Binds K fd ps []
section
variable {X:Cx}{x:aE}{k:Nat}{ps:List aE}{sp:Sp}{e:bA}{es:List bA}{t:TA}{p pos:cD}
theorem YX (D:Def X.prog X.w X.K X.mg X.base x k ps sp)(hr:Room k X.A)(hg:Gl X x)(ha:PA X (e::es) t)(hdb:(x == ("__debug__" : aE))=false:=by decide)(he:bL (e::es) X.env=(false,bX e X.env)::bL es X.env:=by rfl)
  (hpl:(fY pos (bL es X.env)).any (·.1)=false:=by rfl):PE X (.Call (.Name x p) (e::es) [] pos) (MH sp [] E0 t):=by
 obtain⟨f,fd,F,hm,hk,hb⟩:=D.ex
 exact Lu F hr hg hm hk hb .nil XE ha hdb he hpl
end
noncomputable def ES (a b:String):Option Bool:=if (iM a == iM b)=true then some true else if PySem.W.kitMeta b=true then(fastBuiltinMro a).map (·.contains (.type b)) else none
theorem Aqd {K:aP}{a b:String}:UQ K (.type a) (.type b)=ES a b:=rfl
noncomputable def kinds:List String:=["NoneType","bool","int","str","list","tuple","dict"]
noncomputable def isK (t T:String):Bool:=t == T||(t == "bool" && T == "int")
theorem Oq:(kinds.all fun t=>["int","bool","str","list","tuple","dict"].all fun T=>decide (ES t T=some (isK t T)))=true:=by decide +kernel
theorem Cc {t T:String}(ht:t∈kinds)(hT:T∈["int","bool","str","list","tuple","dict"]):ES t T=some (isK t T):=by
 have h:=oV.mp Oq t ht
 have h:=oV.mp h T hT
 exact of_decide_eq_true h
def Kd (K:aP)(H:Hp)(x:V)(t:String):Prop:=TyOf K H x (.type t)/\t∈kinds
theorem Kd.int {K:aP}{H:Hp}{x:V}(h:Kd K H x "int") : ∃ i,x = .int i:=by
 obtain⟨h,_⟩:=h
 generalize e:iM "int" = t at h
 cases h <;> first | exact⟨_,rfl⟩ | exact absurd (Value.type.inj e) (by decide) | cases e
theorem Kd.str {K:aP}{H:Hp}{x:V}(h:Kd K H x "str") : ∃ i,x = .str i:=by
 obtain⟨h,_⟩:=h
 generalize e:iM "str" = t at h
 cases h <;> first | exact⟨_,rfl⟩ | exact absurd (Value.type.inj e) (by decide) | cases e
section
variable {X:Cx}
theorem YG {x:aE}{T:String}{pos:cD}(hg:Gl X x)(hm:X.mg x=none)(hv:mQ x=some (.type T))(hn:x ≠ "__name__":=by decide)(hd:(x == ("__debug__" : aE))=false:=by decide):PE X (.Name x pos) (tC (.ty T)):=
 Mz hg hm hv rfl hn hd
end
theorem boot_isinstance:mQ "isinstance" = some (.builtin "isinstance"):=by decide +kernel
theorem boot_all:mQ "all" = some (.builtin "all"):=by decide +kernel
theorem bits_le {i:Int}{n:Nat}(h:i.natAbs<2 ^ n):jC i≤n:=by
 unfold jC
 split
 ·exact mS _
 ·rename_i hne
  have h0:i.natAbs≠0:=by
   intro z; apply hne; simp[Int.natAbs_eq_zero.mp z]
  have:i.natAbs.log2<n:=(Nat.log2_lt h0).mpr h
  omega
theorem Nq {X:Cx}:OpR X (jV .Mult) (rI (fun i j=>i.natAbs<2 ^ 1000/\j.natAbs<2 ^ 1000) fun i j=>.int (i*j)):=opI fun i j _ _ _ _ _ hc q=>
 mul_int q (Sr (bits_le hc.1) (bits_le hc.2) (by decide))
theorem fF {A:eD}{k:Nat}(hr:Room k A):A.units+100<cLine:=by
 have:=hr.un
 omega
theorem HY : ∀ {xs:List V} {us:List aG},xs.length=us.length->(∀ (j:Nat) x u,xs[j]?=some x->us[j]?=some u->RelV x u)->Vals xs us
 | [],[],_,_=>.nil
 | [],_::_,h,_=>by simp at h
 | _::_,[],h,_=>by simp at h
 | x::xs,u::us,h,r=>.cons (r 0 x u rfl rfl) (HY (by simpa using h) fun j y w h1 h2=>r (j+1) y w (by simpa using h1) (by simpa using h2))
noncomputable def qG (c:Nat):V:=.str ⟨#[c]⟩
section
variable {X:Cx}
theorem Gx (hc:X.calm=true):Ae3 X (.type "list") (fun xs H Q=>∃ z:aE,xs=[.str z]/\z.length≤sizeLine /\ ∀ l,H l=none->Q (.ref l) (upd H l (.lst (z.cps.toList.map qG)))):=by
 intro pins s σ H xs us Q I r h
 obtain⟨z,rfl,hz,q⟩:=h
 obtain⟨u,rfl,t,rfl⟩:=vals1 r
 refine call_list_str (I.ok.hd hc) z t (fun h' tk acc' c' hk hS hacc=>?_) hz
 have hv:Vals (z.cps.toList.map qG) acc'.toList:=by
  refine HY (by simp[hacc.1]) fun j x u h1 h2=>?_
  obtain⟨c,t',hc1,rfl⟩:=hacc.2 j u (by simpa using h2)
  have:(z.cps.toList.map qG)[j]?=some (qG c):=by simp[hc1]
  rw[this] at h1
  cases h1
  exact⟨t',rfl⟩
 exact⟨.ref s.heap.objs.size,_,I.laid (o:=.lst (z.cps.toList.map qG)) hk (dA _) (show Ady X.prog X.w _ h' _ (.lst (z.cps.toList.map qG)) from⟨by rw[gM,LF]; exact hz,acc'.toList,c',hv,by simpa using hS⟩),rfl,q _ I.fresh⟩
end
def ItD (K:aP)(B:Hp)(J:It)(ds:List aA):Prop:=∀ (i:Nat) (H2:Hp),Ext B H2 ->
 (∀ d,ds[i]?=some d->J.go i H2 /\ ∀ x H3,J.yld i H2 x H3->Ext H2 H3 /\ ∀ P2,Hid P2 H2->Ext B (hid H2 P2)->Acb K (hid H3 P2) d x)/\(ds.length=i->J.stop i H2)
noncomputable def tI (K:aP)(f:AF):TI:=fun σ H R=>∃ P ρ ds,Hid P H/\Ans K (hid H P) ρ σ/\f ρ=some ds /\ ∀ J H',Ext H H'->ItD K (hid H' P) J ds->R J H'
noncomputable def tI0 (K:aP)(f:AF):TI:=fun σ H R=>∃ P ρ ds,Hid P H/\Ans K (hid H P) ρ σ/\f ρ=some ds /\ ∀ J H',Ext H H'->ItD K (fun _=>none) J ds->R J H'
abbrev DI (X:Cx)(tg e:bA)(f:AF):Prop:=PI X tg e (tI X.K f)
abbrev DI0 (X:Cx)(tg e:bA)(f:AF):Prop:=PI X tg e (tI0 X.K f)
noncomputable def itemsOf:aA->Option (List aA)
 | .list ds=>some ds
 | .tuple ds=>some ds
 | .str x=>some (x.cps.toList.map fun c=>.str ⟨#[c]⟩)
 | _=>none
noncomputable def iIt (f:EF):AF:=fun ρ=>(f ρ).bind itemsOf
section
variable {X:Cx}{tg e a b:bA}{p pos:cD}
theorem PI.imp {t t':TI}(h:PI X tg e t)(w : ∀ σ H R,t' σ H R->t σ H R):PI X tg e t':=fun pins s σ H R I q=>h pins s σ H R I (w _ _ _ q)
theorem PI.or {t t':TI}(h:PI X tg e t)(h':PI X tg e t'):PI X tg e (fun σ H R=>t σ H R \/ t' σ H R):=fun pins s σ H R I q=>q.elim (h pins s σ H R I) (h' pins s σ H R I)
theorem Og {K:aP}{B:Hp}{a:aD}{xs:List V}{ds:List aA}(h:SqL K B a xs)(r:Aaz K B ds xs):ItD K B (EJ K a) ds:=fun i H2 x2=>by
 have h2:SqL K H2 a xs:=x2.sqL h
 refine⟨fun d hd=>?_,fun e=>⟨xs,h2,by rw[r.length]; omega⟩⟩
 obtain⟨v,h3,h4⟩:=r.get hd
 refine⟨⟨xs,v,h2,h3⟩,?_⟩
 rintro x H3 ⟨rfl,hx⟩
 have:some v=some x:=h3.symm.trans (hx xs h2)
 cases this
 exact⟨Ext.refl,fun P2 _ xb=>h4.ext xb⟩
theorem Ci {K:aP}{B:Hp}{a:aD}{xs:List V}{ds:List aA}(h:B a=some (.tup xs))(r:Aaz K B ds xs):ItD K B (tZ K a) ds:=fun i H2 x2=>by
 have h2:SqT K H2 a xs:=SqT.of (x2 _ _ h)
 refine⟨fun d hd=>?_,fun e=>⟨xs,h2,by rw[r.length]; omega⟩⟩
 obtain⟨v,h3,h4⟩:=r.get hd
 refine⟨⟨xs,v,h2,h3⟩,?_⟩
 rintro x H3 ⟨rfl,hx⟩
 have:some v=some x:=h3.symm.trans (hx xs h2)
 cases this
 exact⟨Ext.refl,fun P2 _ xb=>h4.ext xb⟩
theorem GH {z:aE}{i c:Nat}(h:fA (.str z)=true)(hc:z.cps.toList[i]?=some c):fA (.str ⟨#[c]⟩)=true:=by
 have hz : ∀ d∈z.cps,d<0x110000:=by
  have h':z.cps.all (· < 0x110000)=true:=by simpa only[fA,JR] using h
  intro d hd
  exact of_decide_eq_true (Array.all_eq_true'.mp h' d hd)
 have:=hz c (by simpa using mU hc)
 simp[fA,JR,this]
theorem Mu {K:aP}{B:Hp}{z:aE}(hl:fA (.str z)=true):ItD K B (AM z) (z.cps.toList.map fun c=>.str ⟨#[c]⟩):=fun i H2 x2=>by
 refine⟨fun d hd=>?_,fun e=>?_⟩
 ·rw[gN] at hd
  cases hc:z.cps.toList[i]? with
  | none=>rw[hc] at hd; simp at hd
  | some c=>
   rw[hc] at hd
   have hd:kM ⟨#[c]⟩=d:=by simpa using hd
   subst hd
   have hlt:i<z.cps.size:=by simpa using(gE.mp hc).1
   refine⟨hlt,?_⟩
   rintro x H3 ⟨rfl,c',hc',rfl⟩
   have:z.cps.toList[i]?=some c':=by simpa using hc'
   rw[hc] at this
   cases this
   exact⟨Ext.refl,fun P2 _ _=>Abk.mpr ⟨rfl,GH hl hc⟩⟩
 ·have:z.cps.size=i:=by simpa using e
  exact DY this
theorem QB {K:aP}{lo:Int}{n:Nat}{B:Hp}:ItD K B (wV lo n) ((cE n).map fun(k:Nat)=>bT (lo+k)):=fun i H2 x2=>by
 refine⟨fun d hd=>?_,fun e=>?_⟩
 ·have hlt:i<n:=by
   have:=(gE.mp hd).1
   simpa using this
  have hd':bT (lo+i)=d:=by
   rw[gN,wL hlt] at hd
   simpa using hd
  subst hd'
  refine⟨hlt,?_⟩
  rintro x H3 ⟨rfl,rfl⟩
  exact⟨Ext.refl,fun P2 _ _=>Aas.mpr rfl⟩
 ·have:n=i:=by simpa using e
  exact DY this
theorem iR {f:EF}(h:DE X e f):DI X tg e (iIt f):=PI.imp (PI.or (Ma h) (PI.or (TY h) (Am h))) fun σ H R gh=>by
 obtain⟨P,ρ,ds,hP,rs,ef,k⟩:=gh
 obtain⟨d,e1,ef⟩:=XBs ef
 cases d with
 | list ds'=>
  have:ds'=ds:=by simpa [itemsOf] using ef
  subst this
  refine .inl ⟨P,ρ,_,hP,rs,e1,eP fun v H1 x1 r1=>?_⟩
  obtain⟨a,xs,rfl,hr,rr⟩:=Abx.mp r1
  exact⟨a,rfl,⟨xs,Aba.sqL hr⟩,k _ H1 x1 (Og hr rr)⟩
 | tuple ds'=>
  have:ds'=ds:=by simpa [itemsOf] using ef
  subst this
  refine .inr (.inl ⟨P,ρ,_,hP,rs,e1,eP fun v H1 x1 r1=>?_⟩)
  obtain⟨a,xs,rfl,hr,rr⟩:=Aax.mp r1
  exact⟨a,rfl,⟨xs,SqT.of (Aba _ _ hr)⟩,k _ H1 x1 (Ci hr rr)⟩
 | str z=>
  have:z.cps.toList.map (fun c=>kM ⟨#[c]⟩)=ds:=by simpa [itemsOf] using ef
  subst this
  refine .inr (.inr ⟨P,ρ,_,hP,rs,e1,eP fun v H1 x1 r1=>?_⟩)
  exact⟨z,(Abk.mp r1).1,k _ H1 x1 (Mu (Abk.mp r1).2)⟩
 | _=>simp[itemsOf] at ef
noncomputable def uE (lo hi:Int):Option (List aA):=if -(2 ^ 62)≤lo/\lo<2 ^ 62 /\ -(2 ^ 62)≤hi/\hi<2 ^ 62 then some ((cE (hi - lo).toNat).map fun(k:Nat)=>bT (lo+k)) else none
noncomputable def iR1 (fa:AF):AF:=fun ρ=>(fa ρ).bind fun ds=>match ds with
 | [.int j]=>uE 0 j
 | _=>none
noncomputable def iR2 (fa:AF):AF:=fun ρ=>(fa ρ).bind fun ds=>match ds with
 | [.int i,.int j]=>uE i j
 | _=>none
theorem mB {fa:AF}(hg:Gl X "range")(hm:X.mg "range" = none)(ha:DA X [a] fa)(hs:bL [a] X.env=[(false,bX a X.env)]:=by rfl):DI0 X tg (.Call (.Name "range" p) [a] [] pos) (iR1 fa):=PI.imp (Di hg hm ha hs) fun σ H R gh=>by
 obtain⟨P,ρ,ds,hP,rs,ef,k⟩:=gh
 obtain⟨as,e1,ef⟩:=XBs ef
 refine⟨P,ρ,as,hP,rs,e1,fun vs H1 x1 r1=>?_⟩
 split at ef
 ·rename_i j
  obtain⟨hb,rfl⟩:=eI ef
  obtain⟨v,t,rfl,h1,h2⟩:=Aan.mp r1
  obtain rfl:=Aau.mp h2
  obtain rfl:=Aas.mp h1
  have e0:(j - 0).toNat=j.toNat:=by simp
  refine⟨j,rfl,hb.2.2.1,hb.2.2.2,k _ H1 x1 ?_⟩
  rw[e0]
  exact QB
 ·cases ef
theorem GR {fa:AF}(hg:Gl X "range")(hm:X.mg "range" = none)(ha:DA X [a,b] fa)(hs:bL [a,b] X.env=[(false,bX a X.env),(false,bX b X.env)]:=by rfl)(hs2:bL [b] X.env=[(false,bX b X.env)]:=by rfl):DI0 X tg (.Call (.Name "range" p) [a,b] [] pos) (iR2 fa):=PI.imp (Sj hg hm ha hs hs2) fun σ H R gh=>by
 obtain⟨P,ρ,ds,hP,rs,ef,k⟩:=gh
 obtain⟨as,e1,ef⟩:=XBs ef
 refine⟨P,ρ,as,hP,rs,e1,fun vs H1 x1 r1=>?_⟩
 split at ef
 ·rename_i i j
  obtain⟨hb,rfl⟩:=eI ef
  obtain⟨v,t,rfl,h1,h2⟩:=Aan.mp r1
  obtain⟨v2,t2,rfl,h3,h4⟩:=Aan.mp h2
  obtain rfl:=Aau.mp h4
  obtain rfl:=Aas.mp h1
  obtain rfl:=Aas.mp h3
  exact⟨i,j,rfl,hb,k _ H1 x1 QB⟩
 ·cases ef
theorem qL {f:AF}(h:DI0 X tg e f):DI X tg e f:=PI.imp h fun σ H R ⟨P,ρ,ds,hP,rs,ef,k⟩=>⟨P,ρ,ds,hP,rs,ef,fun J H' x it=>k J H' x fun i H2 x2=>by
 obtain⟨h1,h2⟩:=it i H2 (fun _ _ e=>by cases e)
 exact⟨fun d hd=>⟨(h1 d hd).1,fun v H3 y=>⟨((h1 d hd).2 v H3 y).1,fun P2 hp _=>((h1 d hd).2 v H3 y).2 P2 hp fun _ _ e=>by cases e⟩⟩,h2⟩⟩
noncomputable def tI' (K:aP)(H0:Hp)(P0:aD->Prop)(m:Md)(f:AF):TI:=fun σ H R=>∃ B0 ρ fp ds,Sta K H0 P0 B0 ρ σ H fp/\aV m f ρ=some ds /\ ∀ J B1 H',Sta K H0 P0 B1 ρ σ H' fp->Ext B0 B1->ItD K B1 J ds->R J H'
theorem Sta.rebase {K:aP}{H0 H B0 B1:Hp}{P0:aD->Prop}{ρ:bD}{σ:St}{fp:Nat->List aD}(S:Sta K H0 P0 B0 ρ σ H fp)(b:Ext B1 (L2.hid H (Hd P0 fp))):Sta K H0 P0 B1 ρ σ H fp:=⟨S.len,S.nd,S.dj,S.own,S.ext,S.hd,b,S.slot⟩
variable {H0:Hp}{P0:aD->Prop}
theorem evI {f:AF}(h:DI X tg e f):PI X tg e (tI' X.K H0 P0 .s f):=PI.imp h fun σ H R ⟨B0,ρ,fp,ds,S,ef,k⟩=>
 ⟨Hd P0 fp,vS ρ,ds,S.hid,S.viewS,ef,fun J H' x it=>k J _ H' ((S.grow x).rebase Ext.refl) (S.grow x).base it⟩
theorem WB {f:AF}(m:Md)(h:DI0 X tg e f):PI X tg e (tI' X.K H0 P0 m f):=PI.imp h fun σ H R gh=>by
 obtain⟨B0,ρ,fp,ds,S,ef,k⟩:=gh
 have up : ∀ {J:It} {B:Hp},ItD X.K (fun _=>none) J ds->ItD X.K B J ds:=fun {J B} it i H2 x2=>by
  obtain⟨h1,h2⟩:=it i H2 (fun _ _ e=>by cases e)
  exact⟨fun d hd=>⟨(h1 d hd).1,fun v H3 y=>⟨((h1 d hd).2 v H3 y).1,fun P2 hp _=>((h1 d hd).2 v H3 y).2 P2 hp fun _ _ e=>by cases e⟩⟩,h2⟩
 cases m with
 | s=>exact⟨Hd P0 fp,vS ρ,ds,S.hid,S.viewS,ef,fun J H' x it=>k J _ H' (S.grow x) Ext.refl (up it)⟩
 | a=>exact⟨P0,vA ρ,ds,S.hd.ext S.ext,S.viewA,ef,fun J H' x it=>k J _ H' (S.grow x) Ext.refl (up it)⟩
end
noncomputable def tG (K:aP)(H0:Hp)(P0:aD->Prop)(T:aA->bD->Option bD):TG:=fun v σ H Q=>∃ B0 ρ fp d ρ',Sta K H0 P0 B0 ρ σ H fp/\Acb K (hid H (Hd P0 fp)) d v/\T d ρ=some ρ' /\ ∀ σ' fp',Sta K H0 P0 B0 ρ' σ' H fp'->Q σ' H
abbrev DG (X:Cx)(H0:Hp)(P0:aD->Prop)(tg:bA)(T:aA->bD->Option bD):Prop:=PG X tg (tG X.K H0 P0 T)
section
variable {X:Cx}{H0:Hp}{P0:aD->Prop}{n0:Nat}{pos:cD}
theorem PG.imp {tg:bA}{t t':TG}(h:PG X tg t)(w : ∀ v σ H Q,t' v σ H Q->t v σ H Q):PG X tg t':=fun pins s σ H v u Q I r q=>h pins s σ H v u Q I r (w _ _ _ _ q)
theorem Sta.set0 {K:aP}{H B0:Hp}{ρ:bD}{σ:St}{fp:Nat->List aD}{d:aA}{v:V}{i:Nat}(S:Sta K H0 P0 B0 ρ σ H fp)(r:Acb K (L2.hid H (Hd P0 fp)) d v)(hi:i<ρ.length) : ∃ fp',Sta K H0 P0 B0 (ρ.set i (some (0,d))) (σ.set i (some v)) H fp':=by
 have hsub : ∀ a,Hd P0 (fun j=>if j=ρ.length then [] else fp j) a->Hd P0 fp a:=fun a h=>by
  rcases h with h | ⟨j,h⟩
  ·exact .inl h
  ·by_cases hj:j=ρ.length
   ·simp only[hj,if_true] at h; simp at h
   ·simp only[hj,if_false] at h; exact .inr ⟨j,h⟩
 have S2:Sta K H0 P0 B0 ρ σ H (fun j=>if j=ρ.length then [] else fp j):=by
  refine⟨S.len,fun j=>?_,fun j k a h1 h2=>?_,fun j a h1=>?_,S.ext,S.hd,S.base.trans (kF hsub),fun j n d e=>?_⟩
  ·by_cases hj:j=ρ.length
   ·simp only[hj,if_true]; exact .nil
   ·simp only[hj,if_false]; exact S.nd j
  ·by_cases hj:j=ρ.length
   ·simp only[hj,if_true] at h1; simp at h1
   ·by_cases hk:k=ρ.length
    ·simp only[hk,if_true] at h2; simp at h2
    ·simp only[hj,if_false] at h1; simp only[hk,if_false] at h2; exact S.dj j k a h1 h2
  ·by_cases hj:j=ρ.length
   ·simp only[hj,if_true] at h1; simp at h1
   ·simp only[hj,if_false] at h1; exact S.own j a h1
  ·have hlt:j<ρ.length:=(gE.mp e).1
   have hj:j≠ρ.length:=by omega
   obtain⟨v',h1,h2⟩:=S.slot j n d e
   refine⟨v',h1,?_⟩
   simp only[hj,if_false]
   exact h2.keep (kF hsub) fun a m=>rfl
 refine Tmp.set (n:=0) ⟨_,S2,?_⟩ hi
 simp only[if_true]
 exact⟨rfl,r.ext (kF hsub)⟩
noncomputable def gNm (i:Nat):aA->bD->Option bD:=fun d ρ=>if i<ρ.length then some (ρ.set i (some (0,d))) else none
theorem mL {i:Nat}{x:aE}(hN:X.N.Nodup)(hi:X.N[i]?=some x)(hx:jY X.env.scope x)(hf:X.fn x=true \/ X.env.scope.names.lookup x=some .local:=by first | exact .inl rfl | exact .inr rfl | assumption):DG X H0 P0 (.Name x pos) (gNm i):=
 PG.imp (pE hN hi hx hf) fun v σ H Q gh=>by
  obtain⟨B0,ρ,fp,d,ρ',S,r,ef,k⟩:=gh
  obtain⟨hl,rfl⟩:=eI ef
  obtain⟨fp',S'⟩:=S.set0 r hl
  exact k _ fp' S'
noncomputable def rZ (i j:Nat):aA->bD->Option bD:=fun d ρ=>match d with
 | .tuple [a,b]=>(gNm i a ρ).bind fun ρ'=>gNm j b ρ'
 | _=>none
theorem xS {i j:Nat}{x y:aE}{p1 p2:cD}{k}(hc:X.calm=true)(hN:X.N.Nodup)(hi:X.N[i]?=some x)(hj:X.N[j]?=some y)(hx:jY X.env.scope x)(hy:jY X.env.scope y)
  (hf:X.fn x=true \/ X.env.scope.names.lookup x=some .local:=by first | exact .inl rfl | exact .inr rfl | assumption) (hf2:X.fn y=true \/ X.env.scope.names.lookup y=some .local:=by first | exact .inl rfl | exact .inr rfl | assumption)
  (hn:(gL [.Name x p1,.Name y p2] X.env).length=2:=by rfl) (hst:(gL [.Name x p1,.Name y p2] X.env).findIdx? (·.1)=none:=by rfl)
  (h1:(gL [.Name x p1,.Name y p2] X.env).map (·.2)=kL (.Name x p1) X.env::(gL [.Name y p2] X.env).map (·.2):=by rfl) (h2:(gL [.Name y p2] X.env).map (·.2)=kL (.Name y p2) X.env::(gL [] X.env).map (·.2):=by rfl):DG X H0 P0 (.Tuple [.Name x p1,.Name y p2] k pos) (rZ i j):=
 PG.imp (SW hc (vC (pE hN hi hx hf) (vC (pE hN hj hy hf2) FP h2) h1) hn hst) fun v σ H Q gh=>by
  obtain⟨B0,ρ,fp,d,ρ',S,r,ef,k⟩:=gh
  unfold rZ at ef
  split at ef
  ·rename_i a b
   obtain⟨ρ1,e1,e2⟩:=XBs ef
   obtain⟨l1,rfl⟩:=eI e1
   obtain⟨l2,rfl⟩:=eI e2
   obtain⟨p,xs,rfl,hp,rr⟩:=Aax.mp r
   obtain⟨v1,t1,rfl,r1,rr⟩:=Aan.mp rr
   obtain⟨v2,t2,rfl,r2,rr⟩:=Aan.mp rr
   obtain rfl:=Aau.mp rr
   refine⟨p,_,rfl,SqT.of (Aba _ _ hp),rfl,v1,_,rfl,v2,_,rfl,rfl,?_⟩
   have Sb:=S.rebase (B1:=hid H (Hd P0 fp)) Ext.refl
   obtain⟨fp1,S1⟩:=Sb.set0 r1 l1
   obtain⟨fp2,S2⟩:=S1.set0 (r2.ext S1.base) l2
   exact k _ fp2 (S2.rebase (S.base.trans S2.base))
  ·cases ef
end
noncomputable def kR (F:SF)(T:aA->bD->Option bD):List aA->SF
 | [],ρ=>some (.nx ρ)
 | d::r,ρ=>(T d ρ).bind fun ρ1=>(F ρ1).bind fun o=>match o with
  | .nx ρ'=>kR F T r ρ'
  | .ct ρ'=>kR F T r ρ'
  | .bk ρ'=>some (.nx ρ')
  | .rt d=>some (.rt d)
noncomputable def gG (m:Md)(fi:AF)(T:aA->bD->Option bD)(F:SF):SF:=fun ρ=>(aV m fi ρ).bind fun ds=>kR F T ds ρ
section
variable {X:Cx}{H0:Hp}{P0:aD->Prop}{n0:Nat}{pos:cD}{tg iter:bA}{body:List cG}{F:SF}{T:aA->bD->Option bD}{fi:AF}{m:Md}
theorem OQ (hp:zZ (bC X.prog X.w) X.A X.env X.xe)(hc:X.calm=true)(hi:PI X tg iter (tI' X.K H0 P0 m fi))(hg:DG X H0 P0 tg T)(hb:DSs X H0 P0 n0 body F)
  (hs : ∀ x,tQ iter X.env x=pure x:=by intro _; rfl):DS X H0 P0 n0 (.For tg iter body [] pos) (gG m fi T F):=PS.imp (TF hp hc hi hg hb hs) fun D σ H gh=>by
 obtain⟨B0,ρ,fp,o,S,ef,k⟩:=gh
 obtain⟨ds,e1,ef⟩:=XBs ef
 refine⟨B0,ρ,fp,ds,S,e1,fun J B1 H' S1 xb it=>?_⟩
 refine⟨fun i m σ H=>m=ds.length - i/\i≤ds.length /\ ∃ ρ fp,Sta X.K H0 P0 B1 ρ σ H fp/\kR F T (ds.drop i) ρ=some o,⟨ds.length,by simp,mS _,ρ,fp,S1,by simpa using ef⟩,?_⟩
 rintro i m σ2 H2 ⟨rfl,hi,ρ2,fp2,S2,e2⟩
 have x2:Ext B1 H2:=S2.base.trans Aba
 obtain⟨go,st⟩:=it i H2 x2
 by_cases hlt:i<ds.length
 ·have hd:ds[i]?=some ds[i]:=iO hlt
  rw[VM hlt] at e2
  obtain⟨ρ3,e3,e2⟩:=XBs e2
  obtain⟨o3,e4,e2⟩:=XBs e2
  obtain⟨g1,g2⟩:=go _ hd
  refine .inr ⟨g1,fun σ' H'=>i+1≤ds.length /\ ∃ ρ fp,Sta X.K H0 P0 B1 ρ σ' H' fp/\kR F T (ds.drop (i+1)) ρ=some o,fun σ' H' ⟨h1,h2⟩=>⟨ds.length - (i+1),by omega,rfl,h1,h2⟩,fun x H3 y=>?_⟩
  obtain⟨x3,r3⟩:=g2 x H3 y
  refine⟨B1,ρ2,fp2,_,ρ3,S2.grow x3,r3 _ S2.hid S2.base,e3,fun σ4 fp4 S4=>⟨B1,ρ3,fp4,o3,S4,e4,?_⟩⟩
  cases o3 with
  | nx ρ5=>exact fun σ5 H5 fp5 S5=>⟨hlt,ρ5,fp5,S5,e2⟩
  | ct ρ5=>exact fun σ5 H5 fp5 S5=>⟨hlt,ρ5,fp5,S5,e2⟩
  | bk ρ5=>
   cases e2
   exact fun σ5 H5 fp5 S5=>k σ5 H5 fp5 (S5.rebase (xb.trans S5.base))
  | rt d=>
   cases e2
   exact k
 ·have e:i=ds.length:=by omega
  subst e
  rw[List.drop_length] at e2
  cases e2
  exact .inl ⟨st rfl,k σ2 H2 fp2 (S2.rebase (xb.trans S2.base))⟩
theorem oZ (hp:zZ (bC X.prog X.w) X.A X.env X.xe)(hc:X.calm=true)(hi:DI X tg iter fi)(hg:DG X H0 P0 tg T)(hb:DSs X H0 P0 n0 body F)
  (hs : ∀ x,tQ iter X.env x=pure x:=by intro _; rfl):DS X H0 P0 n0 (.For tg iter body [] pos) (gG .s fi T F):=OQ hp hc (evI hi) hg hb hs
theorem qP (m:Md)(hp:zZ (bC X.prog X.w) X.A X.env X.xe)(hc:X.calm=true)(hi:DI0 X tg iter fi)(hg:DG X H0 P0 tg T)(hb:DSs X H0 P0 n0 body F)
  (hs : ∀ x,tQ iter X.env x=pure x:=by intro _; rfl):DS X H0 P0 n0 (.For tg iter body [] pos) (gG m fi T F):=OQ hp hc (WB m hi) hg hb hs
end
noncomputable def whD (m:Md)(t:BF)(F:SF):Nat->SF
 | 0,_=>none
 | n+1,ρ=>(bV m t ρ).bind fun b=>if b=true then(F ρ).bind fun o=>match o with
   | .nx ρ'=>whD m t F n ρ'
   | .ct ρ'=>whD m t F n ρ'
   | .bk ρ'=>some (.nx ρ')
   | .rt d=>some (.rt d)
  else some (.nx ρ)
section
variable {X:Cx}{H0:Hp}{P0:aD->Prop}{n0:Nat}{pos:cD}{c:bA}{body:List cG}{F:SF}{t:BF}
theorem Pz (m:Md)(fuel:Nat)(hp:zZ (bC X.prog X.w) X.A X.env X.xe)(hc:DT X c t)(hb:DSs X H0 P0 n0 body F):DS X H0 P0 n0 (.While c body [] pos) (whD m t F fuel):=
 PS.imp (Pj hp (evB (H0:=H0) (P0:=P0) m hc) hb) fun D σ H gh=>by
  obtain⟨B0,ρ,fp,o,S,ef,k⟩:=gh
  refine⟨fun n σ H=>∃ ρ fp,Sta X.K H0 P0 B0 ρ σ H fp/\whD m t F n ρ=some o,⟨fuel,ρ,fp,S,ef⟩,?_⟩
  rintro n σ1 H1 ⟨ρ1,fp1,S1,e1⟩
  cases n with
  | zero=>cases e1
  | succ n=>
   obtain⟨b,e2,e1⟩:=XBs e1
   refine⟨B0,ρ1,fp1,b,S1,e2,fun H2 S2=>?_⟩
   cases b with
   | false=>
    have:some (Out.nx ρ1)=some o:=by simpa using e1
    cases this
    exact pK (k σ1 H2 fp1 S2)
   | true=>
    rw[if_pos rfl] at e1
    obtain⟨o3,e4,e1⟩:=XBs e1
    refine pL ⟨fun σ' H'=>∃ ρ fp,Sta X.K H0 P0 B0 ρ σ' H' fp/\whD m t F n ρ=some o,fun σ' H' h=>⟨n,Nat.lt_succ_self n,h⟩,B0,ρ1,fp1,o3,S2,e4,?_⟩
    cases o3 with
    | nx ρ5=>exact fun σ5 H5 fp5 S5=>⟨ρ5,fp5,S5,e1⟩
    | ct ρ5=>exact fun σ5 H5 fp5 S5=>⟨ρ5,fp5,S5,e1⟩
    | bk ρ5=>cases e1; exact k
    | rt d=>cases e1; exact k
end
noncomputable def lcD (T:aA->List (Option aA)->Option (List (Option aA)))(t:BF)(f:EF)(ρ:List (Option aA)):List aA->Option (List aA)
 | []=>some []
 | d::r=>(T d ρ).bind fun ρ1=>(t ρ1).bind fun c=>if c=true then(f ρ1).bind fun y=>(lcD T t f ρ r).bind fun ys=>some (y::ys) else lcD T t f ρ r
noncomputable def jM (cap:List (Option Nat))(ρ:List (Option aA)):List (Option aA):=cap.map fun o=>o.bind fun j=>(ρ[j]?).join
noncomputable def eLC (cap:List (Option Nat))(fi:AF)(T:aA->List (Option aA)->Option (List (Option aA)))(t:BF)(f:EF):EF:=fun ρ=>(fi ρ).bind fun ds=>(lcD T t f (jM cap ρ) ds).bind fun ys=>if ds.length≤sizeLine then some (.list ys) else none
noncomputable def tGB (K:aP)(T:aA->List (Option aA)->Option (List (Option aA))):TG:=fun v σ H Q=>∃ P ρ d ρ',Hid P H/\Ans K (hid H P) ρ σ/\Acb K (hid H P) d v/\T d ρ=some ρ' /\ ∀ σ',Ans K (hid H P) ρ' σ'->Q σ' H
def TOk (T:aA->List (Option aA)->Option (List (Option aA))):Prop:=∀ d ρ ρ',T d ρ=some ρ' -> ∀ (i:Nat) d',ρ[i]?=some (some d')->ρ'[i]?=some (some d')
noncomputable def cJ:BF:=fun _=>some true
noncomputable def gB (j:Nat):aA->List (Option aA)->Option (List (Option aA)):=fun d ρ=>match ρ[j]? with
 | some none=>some (ρ.set j (some d))
 | _=>none
theorem BN {j:Nat}{d:aA}{ρ ρ':List (Option aA)}(h:gB j d ρ=some ρ'):ρ[j]?=some none/\ρ.set j (some d)=ρ':=by
 unfold gB at h
 split at h
 ·rename_i e
  exact⟨e,gW h⟩
 ·cases h
noncomputable def gB2 (i j:Nat):aA->List (Option aA)->Option (List (Option aA)):=fun d ρ=>match d with
 | .tuple [a,b]=>(gB i a ρ).bind fun ρ'=>gB j b ρ'
 | _=>none
theorem gP {j:Nat}:TOk (gB j):=fun d ρ ρ' e i d' h=>by
 obtain⟨hj,rfl⟩:=BN e
 by_cases q:j=i
 ·subst q; rw[hj] at h; cases h
 ·rw[nY q]; exact h
theorem Av {i j:Nat}:TOk (gB2 i j):=fun d ρ ρ' e k d' h=>by
 unfold gB2 at e
 split at e
 ·obtain⟨ρ1,e1,e2⟩:=XBs e
  exact gP _ _ _ e2 k d' (gP _ _ _ e1 k d' h)
 ·cases e
section
variable {X:Cx}{N:List aE}{cap:List (Option Nat)}{sc:iY}{elt iter tg c:bA}{ifs:List bA}{pos:cD}{fi:AF}{T:aA->List (Option aA)->Option (List (Option aA))}{t:BF}{f:EF}
theorem lX:uD X [] (tTF X.K cJ):=fun pins s σ H Q I gh=>by
 obtain⟨P,ρ,b,hP,rs,ef,k⟩:=gh
 cases ef
 exact Ll pins s σ H Q I (k H Ext.refl)
theorem oG (h:DT X c t):uD X [c] (tTF X.K t):=Lg h
theorem Ans.set {K:aP}{B:Hp}{ρ:List (Option aA)}{σ:St}{d:aA}{v:V}{j:Nat}(h:Ans K B ρ σ)(r:Acb K B d v)(hl:j<σ.length):Ans K B (ρ.set j (some d)) (σ.set j (some v)):=fun i d' e=>by
 by_cases q:j=i
 ·subst q
  have hj:j<ρ.length:=by
   have:=(gE.mp e).1
   simpa using this
  rw[rR hj] at e
  cases e
  exact⟨v,rR hl,r⟩
 ·rw[nY q] at e
  obtain⟨w,h1,h2⟩:=h i d' e
  exact⟨w,by rw[nY q]; exact h1,h2⟩
def DGB (X:Cx)(tg:bA)(T:aA->List (Option aA)->Option (List (Option aA))):Prop:=
 ∀ (pins:List (aD×bP)) (s:aL) (σ:St) (H:Hp) (v:V) (u:aG) (Q:St->Hp->Prop),Inv X pins σ H s->RelV v u->tGB X.K T v σ H Q ->
  aO (bC X.prog X.w) X.A (kL tg X.env u) (fun _ s'=>∃ σ' H',Inv X pins σ' H' s'/\Q σ' H') X.xe s
theorem hZ {j:Nat}{x:aE}(hN:X.N.Nodup)(hi:X.N[j]?=some x)(hx:jY X.env.scope x)(hf:X.fn x=true \/ X.env.scope.names.lookup x=some .local:=by first | exact .inl rfl | exact .inr rfl | assumption):DGB X (.Name x pos) (gB j):=fun pins s σ H v u Q I r gh=>by
 obtain⟨P,ρ,d,ρ',hP,rs,rd,ef,k⟩:=gh
 obtain⟨hj,rfl⟩:=BN ef
 have hl:j<σ.length:=by rw[I.len]; exact(gE.mp hi).1
 exact pE hN hi hx hf pins s σ H v u Q I r (k _ (rs.set rd hl))
theorem Oi {i j:Nat}{x y:aE}{p1 p2:cD}{kk}(hc:X.calm=true)(hN:X.N.Nodup)(hi:X.N[i]?=some x)(hj:X.N[j]?=some y)(hx:jY X.env.scope x)(hy:jY X.env.scope y)
  (hf:X.fn x=true \/ X.env.scope.names.lookup x=some .local:=by first | exact .inl rfl | exact .inr rfl | assumption) (hf2:X.fn y=true \/ X.env.scope.names.lookup y=some .local:=by first | exact .inl rfl | exact .inr rfl | assumption)
  (hn:(gL [.Name x p1,.Name y p2] X.env).length=2:=by rfl) (hst:(gL [.Name x p1,.Name y p2] X.env).findIdx? (·.1)=none:=by rfl)
  (h1:(gL [.Name x p1,.Name y p2] X.env).map (·.2)=kL (.Name x p1) X.env::(gL [.Name y p2] X.env).map (·.2):=by rfl) (h2:(gL [.Name y p2] X.env).map (·.2)=kL (.Name y p2) X.env::(gL [] X.env).map (·.2):=by rfl):DGB X (.Tuple [.Name x p1,.Name y p2] kk pos) (gB2 i j):=fun pins s σ H v u Q I r gh=>by
 obtain⟨P,ρ,d,ρ',hP,rs,rd,ef,k⟩:=gh
 unfold gB2 at ef
 split at ef
 ·rename_i a b
  obtain⟨ρ1,e1,e2⟩:=XBs ef
  obtain⟨l1,rfl⟩:=BN e1
  obtain⟨l2,rfl⟩:=BN e2
  obtain⟨p,xs,rfl,hp,rr⟩:=Aax.mp rd
  obtain⟨v1,t1,rfl,r1,rr⟩:=Aan.mp rr
  obtain⟨v2,t2,rfl,r2,rr⟩:=Aan.mp rr
  obtain rfl:=Aau.mp rr
  have hl:i<σ.length:=by rw[I.len]; exact(gE.mp hi).1
  have hl2:j<σ.length:=by rw[I.len]; exact(gE.mp hj).1
  exact SW hc (vC (pE hN hi hx hf) (vC (pE hN hj hy hf2) FP h2) h1) hn hst pins s σ H _ u Q I r ⟨p,_,rfl,SqT.of (Aba _ _ hp),rfl,v1,_,rfl,v2,_,rfl,rfl,k _ ((rs.set r1 hl).set r2 (by simpa using hl2))⟩
 ·cases ef
theorem Rf {K:aP}{B:Hp}{ρ:List (Option aA)}{σ:St}(h:Ans K B ρ σ):Ans K B (jM cap ρ) (uB cap σ):=fun i d e=>by
 unfold jM at e
 unfold uB
 rw[gN] at e ⊢
 cases hc:cap[i]? with
 | none=>rw[hc] at e; simp at e
 | some o=>
  rw[hc] at e
  cases o with
  | none=>simp at e
  | some j=>
   simp only[rP,cM,DU] at e ⊢
   obtain⟨v,h1,h2⟩:=h j d (QN e)
   exact⟨v,by rw[h1]; rfl,h2⟩
theorem MD {K:aP}(hT:TOk T) : ∀ σ H Q,tF K 1 (eLC cap fi T t f) σ H Q->tLC cap (tI K fi) (tGB K T) (tTF K t) (tF K 0 f) σ H Q:=fun σ H Q gh=>by
 obtain⟨P,ρ,d,hP,rs,ef,k⟩:=gh
 obtain⟨ds,e1,ef⟩:=XBs ef
 obtain⟨all,e2,ef⟩:=XBs ef
 obtain⟨hz,rfl⟩:=eI ef
 refine⟨P,ρ,ds,hP,rs,e1,fun J H1 x1 it A hA=>?_⟩
 have hPA : ¬ P A:=(hP.ext x1).new hA
 have back : ∀ {H':Hp} {ys:List V},hid (upd H' A (.lst ys)) (orL P [A])=hid H' (orL P [A]):=fun {H' ys}=>by
  funext b
  unfold hid
  by_cases hb:orL P [A] b
  ·rw[if_pos hb,if_pos hb]
  ·rw[if_neg hb,if_neg hb]
   exact fH (fun z=>hb (.inr (by simp[z])))
 refine⟨fun i m ys σ' H'=>m=ds.length - i/\i≤ds.length/\H' A=some (.lst ys)/\Ext H1 H'/\Ext (hid H1 P) (hid H' (orL P [A]))/\Ans K (hid H' (orL P [A])) (jM cap ρ) σ'/\ys.length≤i /\
  ∃ done rest,Aaz K (hid H' (orL P [A])) done ys/\lcD T t f (jM cap ρ) (ds.drop i)=some rest/\all=done++rest,⟨ds.length,?_⟩,?_⟩
 ·have xa:Ext (hid H1 P) (hid (upd H1 A (.lst [])) (orL P [A])):=fun b o e=>by
   obtain⟨nb,e⟩:=Acz.mp e
   have hb:b≠A:=kJ e hA
   exact jR (fun z=>z.elim nb fun m=>hb (by simpa using m)) (by rw[fH hb]; exact e)
  exact⟨by simp,mS _,gR,Ext.new hA,xa,(Rf (rs.ext (dW x1))).ext xa,mS _,[],all,Aau.mpr rfl,by simpa using e2,rfl⟩
 ·rintro i m ys σ' H' ⟨rfl,hi,hD,x2,xb,rs2,hl,done,rest,rd,e3,rfl⟩
  refine⟨hD,?_⟩
  obtain⟨go,st⟩:=it i H' (Aba.trans x2)
  have hid2:Hid (orL P [A]) H':=fun a h=>by
   rcases h with h | h
   ·exact(hP.ext (x1.trans x2)) a h
   ·have:a=A:=by simpa using h
    subst this
    exact .inl ⟨_,hD⟩
  by_cases hlt:i<ds.length
  ·have hd:ds[i]?=some ds[i]:=iO hlt
   rw[VM hlt] at e3
   obtain⟨ρ1,e4,e3⟩:=XBs e3
   obtain⟨c,e5,e3⟩:=XBs e3
   obtain⟨g1,g2⟩:=go _ hd
   refine .inr ⟨g1,by omega,fun ys σ' H'=>i+1≤ds.length/\H' A=some (.lst ys)/\Ext H1 H'/\Ext (hid H1 P) (hid H' (orL P [A]))/\Ans K (hid H' (orL P [A])) (jM cap ρ) σ'/\ys.length≤i+1 /\
    ∃ d2 r2,Aaz K (hid H' (orL P [A])) d2 ys/\lcD T t f (jM cap ρ) (ds.drop (i+1))=some r2/\done++rest=d2++r2,fun zs σ2 H2 h=>⟨ds.length - (i+1),by omega,rfl,h⟩,fun x H2 y=>?_⟩
   obtain⟨x3,r3⟩:=g2 x H2 y
   refine⟨orL P [A],jM cap ρ,_,ρ1,hid2.ext x3,rs2.ext (dW x3),r3 _ hid2 xb,e4,fun σ3 rs3=>?_⟩
   refine⟨orL P [A],ρ1,c,hid2.ext x3,rs3,e5,fun H4 x4=>?_⟩
   have rs4:Ans K (hid H2 (orL P [A])) (jM cap ρ) σ3:=fun j d' e=>rs3 j d' (hT _ _ _ e4 j d' e)
   cases c with
   | false=>
    rw[if_neg mV] at e3
    refine pK ⟨hlt,x4 _ _ (x3 _ _ hD),x2.trans (x3.trans x4),xb.trans (dW (x3.trans x4)),rs4.ext (dW x4),by omega,done,rest,rd.ext (dW (x3.trans x4)),e3,rfl⟩
   | true=>
    rw[if_pos rfl] at e3
    obtain⟨yd,e6,e3⟩:=XBs e3
    obtain⟨r2,e7,e3⟩:=XBs e3
    cases e3
    refine pL ⟨orL P [A],ρ1,yd,hid2.ext (x3.trans x4),rs3.ext (dW x4),e6,eP fun v H5 x5 r5=>⟨x5 _ _ (x4 _ _ (x3 _ _ hD)),hlt,gR,?_,?_,?_,by simp; omega,done++[yd],r2,?_,e7,by simp⟩⟩
    ·intro b o e
     rw[fH (kJ e hA)]
     exact x5 _ _ (x4 _ _ (x3 _ _ (x2 _ _ e)))
    ·rw[back]; exact xb.trans (dW (x3.trans (x4.trans x5)))
    ·rw[back]; exact rs4.ext (dW (x4.trans x5))
    ·rw[back]; exact(rd.ext (dW (x3.trans (x4.trans x5)))).snoc r5
  ·have e:i=ds.length:=by omega
   subst e
   rw[List.drop_length] at e3
   cases e3
   rw[AC] at k
   refine .inl ⟨st rfl,?_⟩
   refine k (.ref A) H' [A] (x1.trans x2) (mE.mpr ⟨by simp,.nil⟩) (fun a m=>?_) ⟨A,ys,ys.map fun _=>[],rfl,hD,?_,?_⟩
   ·have:a=A:=by simpa using m
    subst this
    exact⟨x1.none hA,_,hD⟩
   ·have : ∀ l:List V,(l.map fun _=>([]:List aD)).flatten=[]:=fun l=>by
     induction l with
     | nil=>rfl
     | cons a l ih=>rw[fS,lG,ih]; rfl
    rw[this]
   ·have go : ∀ (ds:List aA) (xs:List V),Aaz K (hid H' (orL P [A])) ds xs->All3 (Agu K (hid H' (orL P [A])) H' 0) ds xs (xs.map fun _=>[]):=by
     intro ds
     induction ds with
     | nil=>intro xs r; rw[Aau.mp r]; exact .nil
     | cons d ds ih=>
      intro xs r
      obtain⟨y,t,rfl,h1,h2⟩:=Aan.mp r
      exact .cons ⟨rfl,h1⟩ (ih t h2)
    exact go _ _ rd
def SQ (X:Cx)(N:List aE)(sc:iY)(tg elt:bA)(ifs:List bA)(T:aA->List (Option aA)->Option (List (Option aA)))(t:BF)(f:EF):Prop:=
 ∀ (cl:List (aE×aD)) (C:aD) (s₀:aL) (H₀:Hp) (ex:List aD),DGB (iQ X N sc cl C s₀ H₀ ex) tg T/\uD (iQ X N sc cl C s₀ H₀ ex) ifs (tTF X.K t)/\DE (iQ X N sc cl C s₀ H₀ ex) elt f
theorem jD (hc:X.calm=true)(S:CompScope X N cap sc)(hT:TOk T)(hi:DI X tg iter fi)(hb:SQ X N sc tg elt ifs T t f)(hs : ∀ x,tQ iter X.env x=pure x:=by intro _; rfl) :
  DF 1 X (.ListComp elt [⟨tg,iter,ifs,0⟩] sc pos) (eLC cap fi T t f):=PE.imp (XC hc S hi (g:=tGB X.K T) (tc:=tTF X.K t) (te:=tF X.K 0 f) hb hs) (MD hT)
variable {H0:Hp}{P0:aD->Prop}{n0:Nat}
theorem uX {i:Nat}{x:aE}{px spos:cD}(m:Md)(hc:X.calm=true)(hN:X.N.Nodup)(hi':X.N[i]?=some x)(hx:jY X.env.scope x)(S:CompScope X N cap sc)(hT:TOk T)(hi:DI X tg iter fi)(hb:SQ X N sc tg elt ifs T t f)
  (hsw:nR (.ListComp elt [⟨tg,iter,ifs,0⟩] sc pos) (some (.Name x px)) spos.line X.env=pure true:=by rfl)
  (hs : ∀ x,tQ iter X.env x=pure x:=by intro _; rfl) (hf:X.fn x=true \/ X.env.scope.names.lookup x=some .local:=by first | exact .inl rfl | exact .inr rfl | assumption) :
  DS X H0 P0 n0 (.Assign [.Name x px] (.ListComp elt [⟨tg,iter,ifs,0⟩] sc pos) spos) (bB i 1 m (eLC cap fi T t f)):=PS.imp (Qa hc hN hi' hx S hi (g:=tGB X.K T) (tc:=tTF X.K t) (te:=tF X.K 0 f) hb hsw hs hf) fun D σ H gh=>by
 obtain⟨B0,ρ,fp,o,S,ef,k⟩:=gh
 obtain⟨d,e1,ef⟩:=XBs ef
 obtain⟨hl,rfl⟩:=eI ef
 refine MD hT σ H _ (LK m σ H _ ⟨B0,ρ,fp,d,S,e1,fun v H' t=>?_⟩)
 obtain⟨fp',S'⟩:=t.set hl
 exact k _ _ fp' S'
end
noncomputable def outD:Option Out->Option aA
 | some (.rt d)=>some d
 | some (.nx _)=>some .none
 | _=>none
noncomputable def fnD (np n:Nat)(body:SF):List aA->Option aA:=fun ds=>if ds.length=np then outD (body (ds.map (fun d=>some (0,d))++fR (n - np) none)) else none
noncomputable def spF (K:aP)(n0:Nat)(F:List aA->Option aA):Sp:=fun vs H Q _=>∃ P ds d,Hid P H/\Aaz K (hid H P) ds vs/\F ds=some d/\Res K P n0 d H Q
section
variable {P:cL}{w:cA}{K:aP}{mg:aE->Option aG}{base:bG}
theorem fD {x qual:aE}{st:cG}{f:aD}{fd:iA}{N ps:List aE}{k n0 np:Nat}{body:SF}(F:Fun K x qual st f fd)(S:FnScope N ps (bZ st))(hnp:np=ps.length)(hN:ps.length≤N.length)
  (hb : ∀ (cdv:aG) (A:eD) (outer:List Env) (s:aL) (H:Hp) (E:XK) (P0:aD->Prop),Room k (A.deeper (pQ qual (bZ st) s.heap.objs.size f cdv))->DSs (tJ CX0 P w K mg base N qual (bZ st) f cdv A outer s H E).nox H P0 n0 (kG st) body) :
  FnOk P w K mg base CX0 (k+1) f fd ps (spF K n0 (fnD np N.length body)):=by
 refine F.ok S (fun vs H Q E h=>?_) (fun cdv A outer s H vs Q E hr h=>?_)
 ·obtain⟨P,ds,d,_,r,ef,_⟩:=h
  unfold fnD at ef
  by_cases hl:ds.length=np
  ·rw[r.length,hl,hnp]
  ·rw[if_neg hl] at ef; cases ef
 ·obtain⟨P0,ds,d,hP,r,ef,k⟩:=h
  refine⟨_,hb cdv A outer s H E P0 hr,?_⟩
  unfold fnD at ef
  by_cases hl:ds.length=np
  case neg=>rw[if_neg hl] at ef; cases ef
  rw[if_pos hl] at ef
  rw[← hl] at ef
  have hlen:=r.length
  have S0:Sta K H P0 (hid H P0) (ds.map (fun d=>some (0,d))++fR (N.length - ds.length) none) (start N vs) H (fun _=>[]):=by
   have eH:Hd P0 (fun _=>[])=P0:=by
    funext a
    simp[Hd]
   refine⟨by simp[start,hlen],fun _=>.nil,fun i j a h=>by simp at h,fun i a h=>by simp at h,Ext.refl,hP,by rw[eH]; exact Ext.refl,fun i n' d' e=>?_⟩
   rw[eH]
   by_cases hi:i<ds.length
   ·rw[KD (by simpa using hi),gN] at e
    cases q:ds[i]? with
    | none=>rw[q] at e; simp at e
    | some d2=>
     rw[q] at e
     have e':0=n'/\d2=d':=by simpa using e
     obtain⟨rfl,rfl⟩:=e'
     obtain⟨v,h1,h2⟩:=r.get q
     refine⟨v,?_,rfl,h2⟩
     unfold start
     rw[KD (by rw[gM,hlen]; exact hi),gN,h1]
     rfl
   ·rw[VH (by simpa using hi)] at e
    have:=mU e
    simp at this
  cases eb:body (ds.map (fun d=>some (0,d))++fR (N.length - ds.length) none) with
  | none=>rw[eb] at ef; cases ef
  | some o=>
   rw[eb] at ef
   refine⟨_,_,_,o,S0,eb,?_⟩
   cases o with
   | rt d'=>
    cases ef
    exact fun v H' ⟨Fr,h1,h2,h3,h4⟩=>k v H' Fr h1 h2 h3 h4
   | nx ρ'=>
    cases ef
    intro σ' H' fp' S'
    refine k .non H' [] S'.ext .nil (fun a m=>by simp at m) ?_
    cases n0 with
    | zero=>exact⟨rfl,Aco.mpr rfl⟩
    | succ n=>
     unfold Ajx
     split
     ·exact .inl ⟨rfl,rfl,rfl⟩
     ·exact⟨rfl,Aco.mpr rfl⟩
   | bk _=>cases ef
   | ct _=>cases ef
variable {X:Cx}{x:aE}{k n0 np:Nat}{ps:List aE}{F:List aA->Option aA}{e:bA}{es:List bA}{fa:AF}{p pos:cD}
theorem cH (D:Def X.prog X.w X.K X.mg X.base x k ps (spF X.K n0 F))(hr:Room k X.A)(hg:Gl X x)(ha:DA X (e::es) fa)(hdb:(x == ("__debug__" : aE))=false:=by decide)(he:bL (e::es) X.env=(false,bX e X.env)::bL es X.env:=by rfl)
  (hpl:(fY pos (bL es X.env)).any (·.1)=false:=by rfl):DF n0 X (.Call (.Name x p) (e::es) [] pos) (aQ F fa):=
 PE.imp (YX D hr hg ha hdb he hpl) fun σ H Q gh=>by
  obtain⟨P,ρ,d,hP,rs,ef,k⟩:=gh
  obtain⟨ds,e1,ef⟩:=XBs ef
  refine⟨P,ρ,ds,hP,rs,e1,fun vs H1 x1 r1=>?_⟩
  show spF X.K n0 F (vs++[]) H1 Q E0
  rw[AC]
  exact⟨P,ds,d,hP.ext x1,r1,ef,k.mono x1⟩
end
noncomputable def g2I (g:Int->Int->aA):aA->aA->Option aA
 | .int i,.int j=>some (g i j)
 | _,_=>none
noncomputable def g2C (C:Int->Int->Prop)[∀ i j,Decidable (C i j)](g:Int->Int->aA):aA->aA->Option aA
 | .int i,.int j=>if C i j then some (g i j) else none
 | _,_=>none
section
variable {K:aP}
theorem FK {g:Int->Int->V}{gd:Int->Int->aA}(h : ∀ i j H,Acb K H (gd i j) (g i j)):OpD K 0 (rI0 g) (g2I gd):=fun P H x y a b d Q hP ra rb e k=>by
 unfold g2I at e
 split at e
 ·rename_i i j
  cases e
  exact⟨i,j,Aas.mp ra,Aas.mp rb,k.zero Ext.refl (h i j _)⟩
 ·cases e
theorem xA {C C':Int->Int->Prop}[∀ i j,Decidable (C' i j)]{g:Int->Int->V}{gd:Int->Int->aA}(hC : ∀ i j,C' i j->C i j)(h : ∀ i j H,Acb K H (gd i j) (g i j)):OpD K 0 (rI C g) (g2C C' gd):=fun P H x y a b d Q hP ra rb e k=>by
 unfold g2C at e
 split at e
 ·rename_i i j
  obtain⟨hc,rfl⟩:=eI e
  exact⟨i,j,Aas.mp ra,Aas.mp rb,hC i j hc,k.zero Ext.refl (h i j _)⟩
 ·cases e
end
section
variable {X:Cx}{a b c:bA}{fa fb fc:EF}{pos:cD}
noncomputable def dE:aA->aA->Option aA:=g2I fun i j=>.int (i - j)
theorem uQ (ha:DE X a fa)(hb:DE X b fb):DE X (.BinOp a .Sub b pos) (eOp dE fa fb):=oB Bi (FK fun _ _ _=>Aas.mpr rfl) ha hb
noncomputable def cO:aA->aA->Option aA:=g2C (fun i j=>(i.natAbs<2 ^ 64 \/ j.natAbs<2 ^ 64) \/ (i.natAbs<2 ^ 1000/\j.natAbs<2 ^ 1000)) fun i j=>.int (i*j)
theorem PN:OpR X (jV .Mult) (rI (fun i j=>(i.natAbs<2 ^ 64 \/ j.natAbs<2 ^ 64) \/ (i.natAbs<2 ^ 1000/\j.natAbs<2 ^ 1000)) fun i j=>.int (i*j)):=by
 intro pins s σ H x y v u Q I rx ry h
 obtain⟨i,j,ex,ey,hc,q⟩:=h
 rcases hc with hc | hc
 ·refine ZP pins s σ H x y v u Q I rx ry ⟨i,j,ex,ey,?_,q⟩
  rcases hc with hc | hc
  ·exact .inl ⟨by omega,by omega⟩
  ·exact .inr ⟨by omega,by omega⟩
 ·exact Nq pins s σ H x y v u Q I rx ry ⟨i,j,ex,ey,hc,q⟩
theorem kC (ha:DE X a fa)(hb:DE X b fb):DE X (.BinOp a .Mult b pos) (eOp cO fa fb):=oB PN (xA (fun _ _ h=>h) fun _ _ _=>Aas.mpr rfl) ha hb
noncomputable def cB:aA->aA->Option aA:=g2C (fun _ j=>0<j/\j<1073741824) fun i j=>.int (i / j)
theorem gJ (ha:DE X a fa)(hb:DE X b fb):DE X (.BinOp a .FloorDiv b pos) (eOp cB fa fb):=oB Lo (xA (fun _ _ h=>h) fun _ _ _=>Aas.mpr rfl) ha hb
noncomputable def bM:aA->aA->Option aA:=g2C (fun _ j=>0<j) fun i j=>.int (i%j)
theorem eS (ha:DE X a fa)(hb:DE X b fb):DE X (.BinOp a .Mod b pos) (eOp bM fa fb):=oB Bq (xA (fun _ _ h=>h) fun _ _ _=>Aas.mpr rfl) ha hb
noncomputable def dR:aA->aA->Option aA:=g2C (fun i j=>0≤j/\j≤1000000/\i.natAbs<2 ^ 64) fun i j=>.int (i ^ j.toNat)
theorem BG (ha:DE X a fa)(hb:DE X b fb):DE X (.BinOp a .Pow b pos) (eOp dR fa fb):=oB Ax (xA (fun _ _ h=>h) fun _ _ _=>Aas.mpr rfl) ha hb
noncomputable def AU:aA->Option aA
 | .int i=>some (.int (-i))
 | _=>none
theorem Ad (ha:DE X a fa):DE X (.UnaryOp .USub a pos) (eUn AU fa):=WT Ah (fun P H x a d Q hP r e k=>by
 unfold AU at e
 split at e
 ·cases e
  exact⟨_,Aas.mp r,k.zero Ext.refl (Aas.mpr rfl)⟩
 ·cases e) ha
theorem Fx {x y:aE}(hx:fA (.str x)=true)(hy:fA (.str y)=true):fA (.str (x++y))=true:=by
 have e:(x++y).cps=x.cps++y.cps:=rfl
 simp only[fA,JR] at hx hy ⊢
 rw[e,Array.all_append,hx,hy]
 rfl
noncomputable def bQ:aA->aA->Option aA
 | .int i,.int j=>some (.int (i+j))
 | .str x,.str y=>if x.length+y.length≤sizeLine then some (.str (x++y)) else none
 | .tuple (x::xs),.tuple ys=>if (x::xs).length+ys.length≤sizeLine then some (.tuple ((x::xs)++ys)) else none
 | _,_=>none
theorem Nm {K:aP}:OpD K 0 (fun x y H Q=>rI0 (fun i j=>.int (i+j)) x y H Q \/ (∃ i j,x = .str i/\y = .str j/\i.length+j.length≤sizeLine/\Q (.str (i++j)) H) \/ IS K x y H Q) bQ:=fun P H x y a b d Q hP ra rb e k=>by
 unfold bQ at e
 split at e
 ·rename_i i j
  cases e
  exact .inl ⟨i,j,Aas.mp ra,Aas.mp rb,k.zero Ext.refl (Aas.mpr rfl)⟩
 ·rename_i i j
  obtain⟨hc,rfl⟩:=eI e
  exact .inr (.inl ⟨i,j,(Abk.mp ra).1,(Abk.mp rb).1,hc,k.zero Ext.refl (Abk.mpr ⟨rfl,Fx (Abk.mp ra).2 (Abk.mp rb).2⟩)⟩)
 ·rename_i z zs ys
  obtain⟨hc,rfl⟩:=eI e
  obtain⟨p,us,rfl,hp,r1⟩:=Aax.mp ra
  obtain⟨q,ws,rfl,hq,r2⟩:=Aax.mp rb
  have l1:=r1.length
  have l2:=r2.length
  refine .inr (.inr ⟨p,q,us,ws,rfl,rfl,SqT.of (Aba _ _ hp),SqT.of (Aba _ _ hq),fun z=>by rw[z] at l1; simp at l1,by rw[l1,l2]; exact hc,fun z=>?_,fun z r hr=>?_⟩)
  ·subst z
   have:ys=[]:=by simpa using l2.symm
   subst this
   refine k.zero Ext.refl ?_
   rw[AC]
   exact ra
  ·exact k.tup hP hr (r1.append r2)
 ·cases e
theorem fN (ha:DE X a fa)(hb:DE X b fb):DE X (.BinOp a .Add b pos) (eOp bQ fa fb):=oB (Ba9.or (Av4.or Aw2)) Nm ha hb
mutual
noncomputable def noDict:aA->Bool
 | .dict _=>false
 | .list ds=>noDicts ds
 | .tuple ds=>noDicts ds
 | _=>true
noncomputable def noDicts:List aA->Bool
 | []=>true
 | d::r=>noDict d&&noDicts r
end
mutual
theorem nL {X:Cx}{pins:List (aD×bP)}{σ:St}{H:Hp}{s:aL}(I:Inv X pins σ H s) : ∀ {d:aA} {v:V} {u:aG},noDict d=true->Acb X.K H d v->RelV v u->d.canLay0=true /\ ∃ as,pS s.heap u d as
 | .none,v,u,_,h,r=>by
  obtain rfl:=Aco.mp h
  cases r; exact⟨by simp[fA],_,.none⟩
 | .bool b,v,u,_,h,r=>by
  obtain rfl:=Aav.mp h
  cases r; exact⟨by simp[fA],_,.bool b⟩
 | .int i,v,u,_,h,r=>by
  obtain rfl:=Aas.mp h
  obtain⟨t,rfl⟩:=r; exact⟨by simp[fA],_,.int i t⟩
 | .str x,v,u,_,h,r=>by
  obtain⟨rfl,hl⟩:=Abk.mp h
  obtain⟨t,rfl⟩:=r; exact⟨hl,_,.str x t⟩
 | .list ds,v,u,n,h,r=>by
  obtain⟨a,xs,rfl,hs,hr⟩:=Abx.mp h
  cases r
  obtain⟨its,rv,⟨o,m,e,hc,_,hd⟩,_⟩:=I.list hs
  obtain⟨hl,as,ha⟩:=HU I (by simpa [noDict] using n) hr rv
  exact⟨by simpa [fA] using hl,_,.list e hc hd (by simpa using ha)⟩
 | .tuple ds,v,u,n,h,r=>by
  obtain⟨a,xs,rfl,hs,hr⟩:=Aax.mp h
  cases r
  obtain⟨its,rv,⟨o,e,hc,m,hd⟩,_⟩:=I.tuple (SqT.of hs)
  obtain⟨hl,as,ha⟩:=HU I (by simpa [noDict] using n) hr rv
  exact⟨by simpa [fA] using hl,_,.tuple e hc hd (by simpa using ha)⟩
 | .dict _,_,_,n,h,_=>by simp[noDict] at n
theorem HU {X:Cx}{pins:List (aD×bP)}{σ:St}{H:Hp}{s:aL}(I:Inv X pins σ H s) : ∀ {ds:List aA} {vs:List V} {us:List aG},noDicts ds=true->Aaz X.K H ds vs->Vals vs us->zY ds=true /\ ∃ as,wI s.heap us ds as
 | [],vs,us,_,h,r=>by
  obtain rfl:=Aau.mp h
  cases r; exact⟨by simp[zY],_,.nil⟩
 | d::ds,vs,us,n,h,r=>by
  have n':noDict d=true/\noDicts ds=true:=by simpa [noDicts] using n
  obtain⟨x,rr,rfl,h1,h2⟩:=Aan.mp h
  cases r with
  | cons r1 r2=>
   obtain⟨l1,as,ha⟩:=nL I n'.1 h1 r1
   obtain⟨l2,bs,hb⟩:=HU I n'.2 h2 r2
   exact⟨by simp[zY,l1,l2],_,.cons ha hb⟩
end
noncomputable def bN (d:aA):Bool:=noDict d&&decide (d.depth≤60)
noncomputable def gEq:aA->aA->Option aA:=fun a b=>if (bN a&&bN b)=true then some (.bool (bJ a b)) else none
noncomputable def gNe:aA->aA->Option aA:=fun a b=>if (bN a&&bN b)=true then some (.bool (!bJ a b)) else none
noncomputable def AV (K:aP)(neg:Bool):R2:=fun x y H Q=>∃ da db,Acb K H da x/\Acb K H db y/\bN da=true/\bN db=true/\Q (.bl (neg != bJ da db)) H
theorem eU (hu:X.A.units+100<cLine):OpR X (gS .Eq) (AV X.K false):=by
 intro pins s σ H x y v u Q I rx ry h
 obtain⟨da,db,ra,rb,fa,fb,q⟩:=h
 have fa':noDict da=true/\da.depth≤60:=by simpa [bN] using fa
 have fb':noDict db=true/\db.depth≤60:=by simpa [bN] using fb
 obtain⟨la,as,ra⟩:=nL I fa'.1 ra rx
 obtain⟨lb,bs,rb⟩:=nL I fb'.1 rb ry
 exact SeqAt.compareEq_reads ra rb la lb (by omega) ⟨.bl _,H,I,rfl,by simpa using q⟩
theorem nE (hu:X.A.units+100<cLine):OpR X (gS .NotEq) (AV X.K true):=by
 intro pins s σ H x y v u Q I rx ry h
 obtain⟨da,db,ra,rb,fa,fb,q⟩:=h
 have fa':noDict da=true/\da.depth≤60:=by simpa [bN] using fa
 have fb':noDict db=true/\db.depth≤60:=by simpa [bN] using fb
 obtain⟨la,as,ra⟩:=nL I fa'.1 ra rx
 obtain⟨lb,bs,rb⟩:=nL I fb'.1 rb ry
 exact SeqAt.compareNe_reads ra rb la lb (by omega) ⟨.bl _,H,I,rfl,by simpa using q⟩
theorem eT {K:aP}:OpD K 0 (AV K false) gEq:=fun P H x y a b d Q hP ra rb e k=>by
 obtain⟨hc,rfl⟩:=eI e
 have hc':bN a=true/\bN b=true:=by simpa using hc
 exact⟨a,b,ra.ext Aba,rb.ext Aba,hc'.1,hc'.2,k.zero Ext.refl (Aav.mpr (by simp))⟩
theorem nD {K:aP}:OpD K 0 (AV K true) gNe:=fun P H x y a b d Q hP ra rb e k=>by
 obtain⟨hc,rfl⟩:=eI e
 have hc':bN a=true/\bN b=true:=by simpa using hc
 exact⟨a,b,ra.ext Aba,rb.ext Aba,hc'.1,hc'.2,k.zero Ext.refl (Aav.mpr (by simp))⟩
noncomputable def ER (K:aP)(neg:Bool):R2:=fun x y H Q=>∃ d ds,Acb K H d x/\(Acb K H (.list ds) y \/ Acb K H (.tuple ds) y)/\bN d=true/\noDicts ds=true/\Q (.bl (neg != ds.any fun z=>bJ z d)) H
theorem Ag (hu:X.A.units+100<cLine):OpR X (gS .In) (ER X.K false):=by
 intro pins s σ H x y v u Q I rx ry h
 obtain⟨d,ds,ra,rb,fa,fb,q⟩:=h
 have fa':noDict d=true/\d.depth≤60:=by simpa [bN] using fa
 obtain⟨la,as,ra⟩:=nL I fa'.1 ra rx
 rcases rb with rb | rb
 ·obtain⟨lb,bs,rb⟩:=nL I (by simpa [noDict] using fb) rb ry
  exact SeqAt.in_list_reads rb ra (by simpa [fA] using lb) la (by omega) ⟨.bl _,H,I,rfl,by simpa using q⟩
 ·obtain⟨lb,bs,rb⟩:=nL I (by simpa [noDict] using fb) rb ry
  exact SeqAt.in_tuple_reads rb ra (by simpa [fA] using lb) la (by omega) ⟨.bl _,H,I,rfl,by simpa using q⟩
theorem Dc (hu:X.A.units+100<cLine):OpR X (gS .NotIn) (ER X.K true):=by
 intro pins s σ H x y v u Q I rx ry h
 obtain⟨d,ds,ra,rb,fa,fb,q⟩:=h
 have fa':noDict d=true/\d.depth≤60:=by simpa [bN] using fa
 obtain⟨la,as,ra⟩:=nL I fa'.1 ra rx
 rcases rb with rb | rb
 ·obtain⟨lb,bs,rb⟩:=nL I (by simpa [noDict] using fb) rb ry
  exact SeqAt.notIn_list_reads rb ra (by simpa [fA] using lb) la (by omega) ⟨.bl _,H,I,rfl,by simpa using q⟩
 ·obtain⟨lb,bs,rb⟩:=nL I (by simpa [noDict] using fb) rb ry
  exact SeqAt.notIn_tuple_reads rb ra (by simpa [fA] using lb) la (by omega) ⟨.bl _,H,I,rfl,by simpa using q⟩
end
theorem PE.or {X:Cx}{e:bA}{t t':TE}(h:PE X e t)(h':PE X e t'):PE X e (fun σ H Q=>t σ H Q \/ t' σ H Q):=fun pins s σ H Q I q=>q.elim (h pins s σ H Q I) (h' pins s σ H Q I)
noncomputable def gLt:aA->aA->Option aA
 | .int i,.int j=>some (.bool (decide (i<j)))
 | .str i,.str j=>some (.bool (decide (i.cps.toList<j.cps.toList)))
 | _,_=>none
noncomputable def gLe:aA->aA->Option aA
 | .int i,.int j=>some (.bool (decide (i≤j)))
 | .str i,.str j=>some (.bool (!(decide (j.cps.toList<i.cps.toList))))
 | _,_=>none
noncomputable def gGt:aA->aA->Option aA:=g2I fun i j=>.bool (decide (j<i))
noncomputable def gGe:aA->aA->Option aA:=g2I fun i j=>.bool (decide (j≤i))
section
variable {K:aP}
theorem AW:OpD K 0 (fun x y H Q=>rI0 (fun i j=>.bl (decide (i<j))) x y H Q \/ ∃ i j,x = .str i/\y = .str j/\Q (.bl (decide (i.cps.toList<j.cps.toList))) H) gLt:=fun P H x y a b d Q hP ra rb e k=>by
 unfold gLt at e
 split at e
 ·cases e
  exact .inl ⟨_,_,Aas.mp ra,Aas.mp rb,k.zero Ext.refl (Aav.mpr rfl)⟩
 ·cases e
  exact .inr ⟨_,_,(Abk.mp ra).1,(Abk.mp rb).1,k.zero Ext.refl (Aav.mpr rfl)⟩
 ·cases e
theorem BA:OpD K 0 (rI0 fun i j=>.bl (decide (j<i))) gGt:=FK fun _ _ _=>Aav.mpr rfl
theorem xG:OpD K 0 (rI0 fun i j=>.bl (decide (j≤i))) gGe:=FK fun _ _ _=>Aav.mpr rfl
noncomputable def uG:aA->aA->Option aA
 | .none,.none=>some (.bool true)
 | _,.none=>some (.bool false)
 | _,_=>none
noncomputable def oC:aA->aA->Option aA
 | .none,.none=>some (.bool false)
 | _,.none=>some (.bool true)
 | _,_=>none
theorem QA {H:Hp}{a:aA}{x:V}(r:Acb K H a x):decide (x = .non)=(match a with | .none=>true | _=>false):=by
 cases a with
 | none=>obtain rfl:=Aco.mp r; rfl
 | bool b=>obtain rfl:=Aav.mp r; rfl
 | int b=>obtain rfl:=Aas.mp r; rfl
 | str b=>obtain⟨rfl,_⟩:=Abk.mp r; rfl
 | list b=>obtain⟨_,_,rfl,_⟩:=Abx.mp r; rfl
 | tuple b=>obtain⟨_,_,rfl,_⟩:=Aax.mp r; rfl
 | dict b=>obtain⟨_,rfl,_⟩:=Aez.mp r; rfl
theorem FZ:OpD K 0 (fun x y H Q=>y = .non/\Q (.bl (decide (x = .non))) H) uG:=fun P H x y a b d Q hP ra rb e k=>by
 have q:=QA ra
 unfold uG at e
 split at e
 ·cases e
  exact⟨Aco.mp rb,k.zero Ext.refl (Aav.mpr (by rw[q]))⟩
 ·rename_i h
  cases e
  refine⟨Aco.mp rb,k.zero Ext.refl (Aav.mpr ?_)⟩
  rw[q]
  cases a <;> first | rfl | exact(h rfl).elim
 ·cases e
theorem GI:OpD K 0 (fun x y H Q=>y = .non/\Q (.bl (!decide (x = .non))) H) oC:=fun P H x y a b d Q hP ra rb e k=>by
 have q:=QA ra
 unfold oC at e
 split at e
 ·cases e
  exact⟨Aco.mp rb,k.zero Ext.refl (Aav.mpr (by rw[q]; rfl))⟩
 ·rename_i h
  cases e
  refine⟨Aco.mp rb,k.zero Ext.refl (Aav.mpr ?_)⟩
  rw[q]
  cases a <;> first | rfl | exact(h rfl).elim
 ·cases e
end
noncomputable def cR:aA->Option aK
 | .int i=>some (.inl i)
 | .str x=>some (.inr x)
 | _=>none
theorem RE {d:aA}{k:aK}(h:cR d=some k):d=kD k:=by
 cases d <;> simp[cR] at h <;> subst h <;> rfl
noncomputable def dG (kds:List (aA×aA))(k:aK):Option aA:=(kds.find? fun kd=>decide (cR kd.1=some k)).map (·.2)
theorem Ach (k:aK):cR (kD k)=some k:=by cases k <;> rfl
theorem CB {K:aP}{H:Hp}{k:aK} : ∀ {kds:List (aA×aA)} {kvs:List (aK×V)},Ac1 K H kds kvs->(dG kds k=none/\gX kvs k=none) \/ ∃ d v,dG kds k=some d/\gX kvs k=some v/\Acb K H d v
 | [],kvs,h=>by rw[Acw.mp h]; exact .inl ⟨rfl,rfl⟩
 | (k0,d)::r,kvs,h=>by
  obtain⟨k',x,rr,rfl,rfl,h1,h2⟩:=Ab4.mp h
  by_cases e:k'=k
  ·refine .inr ⟨d,x,?_,yB e,h1⟩
   simp[dG,jX,Ach,e]
  ·have e1:dG ((kD k',d)::r) k=dG r k:=by simp[dG,jX,Ach,e]
   rw[e1,yA e]
   exact CB h2
theorem RW {K:aP}{H:Hp}{k:aK} : ∀ {kds:List (aA×aA)} {kvs:List (List aA×V)},Ag2 K H kds kvs->dG kds k=none
 | [],kvs,h=>rfl
 | (k0,d)::r,kvs,h=>by
  obtain⟨k',x,rr,rfl,⟨rfl,_⟩,h1,h2⟩:=Ahf.mp h
  have e1:dG ((.tuple k',d)::r) k=dG r k:=by simp[dG,jX,cR]
  rw[e1]
  exact RW h2
theorem Po {K:aP}{H:Hp}{k:aK}{kds:List (aA×aA)}{v:V}{d:aA}(h:Acb K H (.dict kds) v)(e:dG kds k=some d) : ∃ a,∃ kvs:Nat×List (aK×V),v = .ref a/\H a=some (.dK kvs.1 kvs.2)/\Ac1 K H kds kvs.2:=by
 obtain⟨a,ev,⟨kvs,h1,r⟩ | ⟨ts,h1,r⟩⟩:=Aez.mp h
 ·exact⟨a,kvs,ev,h1,r⟩
 ·cases kds with
  | nil=>simp[Awy] at r
  | cons p q=>
   obtain⟨k0,m⟩:=p
   obtain⟨rfl,r2⟩:=Agi.mp r
   have e1:dG ((.none,m)::q) k=dG q k:=by simp[dG,jX,cR]
   rw[e1,RW r2] at e
   cases e
noncomputable def sC (kds:List (aA×aA))(k:List aA):Option aA:=(kds.find? fun kd=>bJ kd.1 (.tuple k)).map (·.2)
theorem Mn (a b:List aA):bJ (.tuple a) (.tuple b)=fQ a b:=by simp[bJ]
theorem Ge {a k:List aA}{d:aA}{r:List (aA×aA)}(ha:dC a=true)(hk:dC k=true):sC ((.tuple a,d)::r) k=if a=k then some d else sC r k:=by
 have e:bJ (.tuple a) (.tuple k)=decide (a=k):=by rw[Mn,GW _ _ ha hk]
 unfold sC
 rw[jX,e]
 by_cases h:a=k
 ·rw[if_pos h,decide_eq_true h]; rfl
 ·rw[if_neg h,decide_eq_false h]
theorem QG {K:aP}{H:Hp}{k:List aA}(hk:dC k=true) : ∀ {kds:List (aA×aA)} {kvs:List (List aA×V)},Ag2 K H kds kvs->(sC kds k=none/\gX kvs k=none) \/ ∃ d v,sC kds k=some d/\gX kvs k=some v/\Acb K H d v
 | [],kvs,h=>by rw[Akc.mp h]; exact .inl ⟨rfl,rfl⟩
 | (k0,d)::r,kvs,h=>by
  obtain⟨k',x,rr,rfl,⟨rfl,hk'⟩,h1,h2⟩:=Ahf.mp h
  rw[Ge hk' hk]
  by_cases e:k'=k
  ·rw[if_pos e]
   exact .inr ⟨d,x,rfl,yB e,h1⟩
  ·rw[if_neg e,yA e]
   exact QG hk h2
noncomputable def putD (kds:List (aA×aA))(k:aK)(d:aA):List (aA×aA):=
 if (kds.any fun kd=>decide (cR kd.1=some k))=true then kds.map fun kd=>if cR kd.1=some k then(kd.1,d) else kd else kds++[(kD k,d)]
theorem MQ {K:aP}{H:Hp}{k:aK} : ∀ {kds:List (aA×aA)} {kvs:List (aK×V)},Ac1 K H kds kvs->(kds.any fun kd=>decide (cR kd.1=some k))=kvs.any fun kv=>decide (kv.1=k)
 | [],kvs,h=>by rw[Acw.mp h]; rfl
 | (k0,d)::r,kvs,h=>by
  obtain⟨k',x,rr,rfl,rfl,h1,h2⟩:=Ab4.mp h
  rw[EG,EG,MQ h2,Ach]
  simp
theorem GL {K:aP}{H:Hp}{k:aK}{d:aA}{v:V}(rv:Acb K H d v) : ∀ {kds:List (aA×aA)} {kvs:List (aK×V)},Ac1 K H kds kvs ->
  Ac1 K H (kds.map fun kd=>if cR kd.1=some k then(kd.1,d) else kd) (kvs.map fun kv=>if kv.1=k then(kv.1,v) else kv)
 | [],kvs,h=>by rw[Acw.mp h]; exact Acw.mpr rfl
 | (k0,d0)::r,kvs,h=>by
  obtain⟨k',x,rr,rfl,rfl,h1,h2⟩:=Ab4.mp h
  rw[fS,fS]
  by_cases e:k'=k
  ·rw[if_pos (show cR (kD k',d0).1=some k by rw[Ach,e]),if_pos (show(k',x).1=k from e)]
   exact Ab4.mpr ⟨k',v,_,rfl,rfl,rv,GL rv h2⟩
  ·rw[if_neg (show ¬ cR (kD k',d0).1=some k by rw[Ach]; simpa using e),if_neg (show ¬ (k',x).1=k from e)]
   exact Ab4.mpr ⟨k',x,_,rfl,rfl,h1,GL rv h2⟩
theorem Ac1.snoc {K:aP}{H:Hp}{k:aK}{d:aA}{v:V}(rv:Acb K H d v) : ∀ {kds:List (aA×aA)} {kvs:List (aK×V)},Ac1 K H kds kvs->Ac1 K H (kds++[(kD k,d)]) (kvs++[(k,v)])
 | [],kvs,h=>by rw[Acw.mp h]; exact Ab4.mpr ⟨k,v,[],rfl,rfl,rv,Acw.mpr rfl⟩
 | (k0,d0)::r,kvs,h=>by
  obtain⟨k',x,rr,rfl,rfl,h1,h2⟩:=Ab4.mp h
  exact Ab4.mpr ⟨k',x,_,rfl,rfl,h1,Ac1.snoc rv h2⟩
theorem Ld {K:aP}{H:Hp}{k:aK}{d:aA}{v:V}{kds:List (aA×aA)}{kvs:List (aK×V)}(h:Ac1 K H kds kvs)(rv:Acb K H d v):Ac1 K H (putD kds k d) (putK kvs k v):=by
 unfold putD putK
 rw[MQ h]
 by_cases q:(kvs.any fun kv=>decide (kv.1=k))=true
 ·rw[if_pos q,if_pos q]; exact GL rv h
 ·rw[if_neg q,if_neg q]; exact Ac1.snoc rv h
theorem Ac1.length {K:aP}{H:Hp} : ∀ {kds:List (aA×aA)} {kvs:List (aK×V)},Ac1 K H kds kvs->kvs.length=kds.length
 | [],kvs,h=>by rw[Acw.mp h]; rfl
 | (k0,d0)::r,kvs,h=>by
  obtain⟨k',x,rr,rfl,rfl,h1,h2⟩:=Ab4.mp h
  rw[mF,mF,Ac1.length h2]
theorem qV {K:aP}{H:Hp}{d:aA}{x:V}{k:aK}(h:cR d=some k)(r:Acb K H d x):x=kV k:=by
 rw[RE h] at r
 exact Im r
noncomputable def gIx:aA->aA->Option aA
 | .list ds,.int i=>atI ds i
 | .tuple ds,.int i=>atI ds i
 | .str z,.int i=>if z.length≤sizeLine then(atI z.cps.toList i).bind fun c=>some (.str ⟨#[c]⟩) else none
 | .dict kds,d=>(cR d).bind fun k=>dG kds k
 | _,_=>none
theorem NC {K:aP}{H:Hp}{ds:List aA}{xs:List V}{i:Int}{d:aA}(r:Aaz K H ds xs)(h:atI ds i=some d) : ∃ v,atI xs i=some v/\Acb K H d v:=by
 unfold atI at h ⊢
 rw[r.length]
 obtain⟨j,h1,h2⟩:=XBs h
 obtain⟨v,h3,h4⟩:=r.get h2
 exact⟨v,by rw[h1]; exact h3,h4⟩
theorem Mw {α:Type}{xs:List α}{i:Int}{x:α}(h:atI xs i=some x) : ∃ j:Nat,xs[j]?=some x:=by
 unfold atI at h
 obtain⟨j,h1,h2⟩:=XBs h
 exact⟨j,h2⟩
section
variable {X:Cx}{a b e:bA}{es:List bA}{fa fb f:EF}{pos p:cD}
theorem aU (hu:X.A.units+40<cLine)(ha:DE X a fa)(hb:DE X b fb)(hs:FY b):DE X (.Subscript a b pos) (eOp gIx fa fb):=PE.imp (PE.or (LZ TH ha hb hs) (Nl hu ha hb hs)) fun σ H Q h=>by
 obtain⟨P,ρ,d,hP,rs,ef,k⟩:=h
 obtain⟨d1,e1,ef2⟩:=XBs ef
 obtain⟨d2,e2,ef3⟩:=XBs ef2
 clear ef ef2
 have seq:(∀ (H2:Hp) (v u:V),Ext H H2->Acb X.K (hid H2 P) d1 v->Acb X.K (hid H2 P) d2 u->rIx X.K v u H2 Q)->tOp (rIx X.K) (tF X.K 0 fa) (tF X.K 0 fb) σ H Q:=fun z=>
  ⟨P,ρ,d1,hP,rs,e1,eP fun v H1 x1 r1=>⟨P,ρ,d2,hP.ext x1,rs.ext (dW x1),e2,eP fun u H2 x2 r2=>z H2 v u (x1.trans x2) (r1.ext (dW x2)) r2⟩⟩
 cases d1 with
 | list ds=>
  cases d2 with
  | int i=>
   refine .inl (seq fun H2 v u x r1 r2=>.inl ?_)
   obtain⟨q,xs,rfl,hq,rr⟩:=Abx.mp r1
   obtain⟨w,h1,h2⟩:=NC rr (show atI ds i=some d from ef3)
   exact⟨q,xs,i,w,rfl,Aas.mp r2,Aba.sqL hq,h1,k.zero x h2⟩
  | _=>cases ef3
 | tuple ds=>
  cases d2 with
  | int i=>
   refine .inl (seq fun H2 v u x r1 r2=>.inr (.inl ?_))
   obtain⟨q,xs,rfl,hq,rr⟩:=Aax.mp r1
   obtain⟨w,h1,h2⟩:=NC rr (show atI ds i=some d from ef3)
   exact⟨q,xs,i,w,rfl,Aas.mp r2,SqT.of (Aba _ _ hq),h1,k.zero x h2⟩
  | _=>cases ef3
 | str z=>
  cases d2 with
  | int i=>
   have ef3:(if z.length≤sizeLine then(atI z.cps.toList i).bind fun c=>some (.str ⟨#[c]⟩) else none)=some d:=ef3
   by_cases hz:z.length≤sizeLine
   ·rw[if_pos hz] at ef3
    obtain⟨c,h1,h2⟩:=XBs ef3
    cases h2
    obtain⟨j,hj⟩:=Mw h1
    refine .inl (seq fun H2 v u x r1 r2=>.inr (.inr ⟨z,i,c,(Abk.mp r1).1,Aas.mp r2,hz,h1,k.zero x (Abk.mpr ⟨rfl,GH (Abk.mp r1).2 hj⟩)⟩))
   ·rw[if_neg hz] at ef3; cases ef3
  | _=>cases ef3
 | dict kds=>
  obtain⟨kk,h1,h2⟩:=XBs (show((cR d2).bind fun k=>dG kds k)=some d by cases d2 <;> exact ef3)
  refine .inr ⟨P,ρ,_,hP,rs,e1,eP fun v H1 x1 r1=>⟨P,ρ,d2,hP.ext x1,rs.ext (dW x1),e2,eP fun u H2 x2 r2=>?_⟩⟩
  obtain⟨q,kvs,rfl,hq,rr⟩:=Po (r1.ext (dW x2)) h2
  rcases CB (k:=kk) rr with⟨n1,_⟩ | ⟨d',v',s1,s2,rd⟩
  ·rw[h2] at n1; cases n1
  ·rw[h2] at s1
   cases s1
   refine⟨q,v',rfl,.inl ⟨kvs.1,kvs.2,kk,.inl (Aba _ _ hq),qV h1 r2,s2.symm⟩,k.zero (x1.trans x2) rd⟩
 | _=>cases d2 <;> cases ef3
noncomputable def ET (neg:Bool):aA->List (aA×aA)->Option aA
 | .tuple k,(_,_)::kds=>if (dC k&&decide (bU k≤6))=true then some (.bool (neg != (sC kds k).isSome)) else none
 | _,_=>none
noncomputable def gIn (neg:Bool):aA->aA->Option aA
 | d,.list ds=>if (bN d&&noDicts ds)=true then some (.bool (neg != ds.any fun z=>bJ z d)) else none
 | d,.tuple ds=>if (bN d&&noDicts ds)=true then some (.bool (neg != ds.any fun z=>bJ z d)) else none
 | .str i,.str j=>some (.bool (neg != !(KU j i 0 j.length 1).isEmpty))
 | d,.dict kds=>if plK kds=true then(cR d).bind fun k=>some (.bool (neg != (dG kds k).isSome)) else ET neg d kds
 | _,_=>none
noncomputable def FM (K:aP)(neg:Bool):R2:=fun x y H Q=>ER K neg x y H Q \/ (∃ i j,x = .str i/\y = .str j/\Q (.bl (neg != !(KU j i 0 j.length 1).isEmpty)) H) \/ ∃ a o,y = .ref a/\A1d H a x o/\Q (.bl (neg != o.isSome)) H
theorem Pw (hu:X.A.units+100<cLine):OpR X (gS .In) (FM X.K false):=by
 intro pins s σ H x y v u Q I rx ry h
 rcases h with h | ⟨i,j,ex,ey,q⟩ | ⟨a,o,rfl,g,q⟩
 ·exact Ag hu pins s σ H x y v u Q I rx ry h
 ·exact Se pins s σ H x y v u Q I rx ry ⟨i,j,ex,ey,by simpa using q⟩
 ·cases ry
  exact WM (by omega) I g rx fun s' I'=>⟨.bl _,H,I',rfl,by simpa using q⟩
theorem CH (hu:X.A.units+100<cLine):OpR X (gS .NotIn) (FM X.K true):=by
 intro pins s σ H x y v u Q I rx ry h
 rcases h with h | ⟨i,j,ex,ey,q⟩ | ⟨a,o,rfl,g,q⟩
 ·exact Dc hu pins s σ H x y v u Q I rx ry h
 ·exact Jj pins s σ H x y v u Q I rx ry ⟨i,j,ex,ey,by simpa using q⟩
 ·cases ry
  exact Cp (by omega) I g rx fun s' I'=>⟨.bl _,H,I',rfl,by simpa using q⟩
theorem xN {K:aP}{neg:Bool}:OpD K 0 (FM K neg) (gIn neg):=fun P H x y a b d Q hP ra rb e k=>by
 unfold gIn at e
 split at e
 ·obtain⟨hc,rfl⟩:=eI e
  have hc':=hW.mp hc
  exact .inl ⟨a,_,ra.ext Aba,.inl (rb.ext Aba),hc'.1,hc'.2,k.zero Ext.refl (Aav.mpr rfl)⟩
 ·obtain⟨hc,rfl⟩:=eI e
  have hc':=hW.mp hc
  exact .inl ⟨a,_,ra.ext Aba,.inr (rb.ext Aba),hc'.1,hc'.2,k.zero Ext.refl (Aav.mpr rfl)⟩
 ·cases e
  exact .inr (.inl ⟨_,_,(Abk.mp ra).1,(Abk.mp rb).1,k.zero Ext.refl (Aav.mpr rfl)⟩)
 ·rename_i kds
  by_cases pk:plK kds=true
  case neg=>
   rw[if_neg pk] at e
   have ek : ∃ m r,kds=(.none,m)::r:=by
    cases kds with
    | nil=>simp[plK] at pk
    | cons p r=>
     obtain⟨k0,m⟩:=p
     cases k0 <;> simp[plK] at pk
     exact⟨m,r,rfl⟩
   obtain⟨m,r,rfl⟩:=ek
   cases a with
   | tuple kk=>
    have e:(if (dC kk&&decide (bU kk≤6))=true then some (fV (neg != (sC r kk).isSome)) else none)=some d:=e
    obtain⟨hc,rfl⟩:=eI e
    have hc':dC kk=true/\bU kk≤6:=by simpa using hc
    obtain⟨q,ts,rfl,hq,rr⟩:=Arw.mp rb
    obtain⟨b,xs,rfl,hb,rx⟩:=Aax.mp (ra.ext Aba)
    refine .inr (.inr ⟨q,gX ts kk,rfl,.inr ⟨ts,kk,b,.inl (Aba _ _ hq),rfl,⟨hc'.1,hc'.2,xs,hb,Aaz.keys kk hc'.1 rx⟩,rfl⟩,k.zero Ext.refl (Aav.mpr ?_)⟩)
    rcases QG hc'.1 rr with⟨n1,n2⟩ | ⟨d',v',s1,s2,rd⟩
    ·rw[n1,n2]; rfl
    ·rw[s1,s2]; rfl
   | _=>simp[ET] at e
  rw[if_pos pk] at e
  obtain⟨kk,h1,h2⟩:=XBs e
  cases h2
  obtain⟨q,kvs,rfl,hq,rr⟩:=(BW pk).mp rb
  refine .inr (.inr ⟨q,gX kvs.2 kk,rfl,.inl ⟨kvs.1,kvs.2,kk,.inl (Aba _ _ hq),qV h1 ra,rfl⟩,k.zero Ext.refl (Aav.mpr ?_)⟩)
  rcases CB (k:=kk) rr with⟨n1,n2⟩ | ⟨d',v',s1,s2,rd⟩
  ·rw[n1,n2]; rfl
  ·rw[s1,s2]; rfl
 ·cases e
end
noncomputable def bH:List aA->Option aA
 | [.list ds]=>some (.int ds.length)
 | [.tuple ds]=>some (.int ds.length)
 | [.dict kds]=>if plK kds=true then some (.int kds.length) else none
 | [.str z]=>if z.length≤sizeLine then some (.int z.length) else none
 | _=>none
theorem hX {K:aP}{H:Hp}{d:aA}{xs:List V}(r:Aaz K H [d] xs) : ∃ v,xs=[v]/\Acb K H d v:=by
 obtain⟨v,t,rfl,h1,h2⟩:=Aan.mp r
 obtain rfl:=Aau.mp h2
 exact⟨v,rfl,h1⟩
section
variable {X:Cx}
def LO (K:aP):List V->Hp->VK->Prop:=fun xs H Q=>(∃ p ys,xs=[.ref p]/\(SqL K H p ys \/ SqT K H p ys)/\Q (.int ys.length) H) \/ (∃ z,xs=[.str z]/\z.length≤sizeLine/\Q (.int z.length) H) \/ ∃ a ep kvs,xs=[V.ref a]/\H a=some (.dK ep kvs)/\Q (.int kvs.length) H
theorem fO:Ae3 X (.builtin "len") (LO X.K):=Aqk.or (Ar1.or Ef)
theorem fP {K:aP}:CallD K 0 (LO K) bH:=fun P H xs ds d Q hP r e k=>by
 unfold bH at e
 split at e
 ·cases e
  obtain⟨v,rfl,r'⟩:=hX r
  replace r:=r'
  obtain⟨q,ys,rfl,hq,rr⟩:=Abx.mp r
  exact .inl ⟨q,ys,rfl,.inl (Aba.sqL hq),k.zero Ext.refl (Aas.mpr (by rw[rr.length]))⟩
 ·cases e
  obtain⟨v,rfl,r'⟩:=hX r
  replace r:=r'
  obtain⟨q,ys,rfl,hq,rr⟩:=Aax.mp r
  exact .inl ⟨q,ys,rfl,.inr (SqT.of (Aba _ _ hq)),k.zero Ext.refl (Aas.mpr (by rw[rr.length]))⟩
 ·obtain⟨pk,rfl⟩:=eI e
  obtain⟨v,rfl,r'⟩:=hX r
  replace r:=r'
  obtain⟨q,ys,rfl,hq,rr⟩:=(BW pk).mp r
  exact .inr (.inr ⟨q,ys.1,ys.2,rfl,Aba _ _ hq,k.zero Ext.refl (Aas.mpr (by rw[rr.length]))⟩)
 ·obtain⟨hz,rfl⟩:=eI e
  obtain⟨v,rfl,r'⟩:=hX r
  replace r:=r'
  exact .inr (.inl ⟨_,by rw[(Abk.mp r).1],hz,k.zero Ext.refl (Aas.mpr rfl)⟩)
 ·cases e
noncomputable def dM:aA->String
 | .none=>"NoneType"
 | .bool _=>"bool"
 | .int _=>"int"
 | .str _=>"str"
 | .list _=>"list"
 | .tuple _=>"tuple"
 | .dict _=>"dict"
noncomputable def OL:List String:=["int","bool","str","list","tuple","dict"]
theorem Dn (d:aA):dM d∈kinds:=by cases d <;> simp[dM,kinds]
theorem El:Ae3 X (.builtin "isinstance") (fun xs H Q=>∃ x T d,xs=[x,.ty T]/\Acb X.K H d x/\T∈OL/\Q (.bl (isK (dM d) T)) H):=by
 intro pins s σ H xs us Q I r h
 obtain⟨x,T,d,rfl,rd,hT,q⟩:=h
 have ek:=Cc (Dn d) hT
 have by_ty:TyOf X.K H x (.type (dM d))->aO (bC X.prog X.w) X.A (call (.builtin "isinstance") us) (EP X pins σ Q) X.xe s:=fun ty=>
  Hu pins s σ H _ us Q I r ⟨x,T,_,isK (dM d) T,rfl,ty,Aqd.trans ek,q⟩
 cases d with
 | none=>obtain rfl:=Aco.mp rd; exact by_ty .non
 | bool b=>obtain rfl:=Aav.mp rd; exact by_ty (.bl _)
 | int b=>obtain rfl:=Aas.mp rd; exact by_ty (.int _)
 | str b=>obtain⟨rfl,_⟩:=Abk.mp rd; exact by_ty (.str _)
 | list b=>
  obtain⟨a,ys,rfl,h,_⟩:=Abx.mp rd
  obtain⟨u,w',rfl,ru,rw'⟩:=vals2 r
  cases rw'
  cases ru
  obtain⟨its,_,⟨o,n,e1,hc,_,_⟩,_⟩:=I.list h
  exact nW UP I.kIn ⟨o,e1,hc⟩ (Aqd.trans ek) (fun z=>nomatch z) fun tk=>⟨.bl _,H,I.tok tk,rfl,q⟩
 | tuple b=>obtain⟨_,_,rfl,h,_⟩:=Aax.mp rd; exact by_ty (.tup h)
 | dict b=>
  obtain⟨_,rfl,⟨_,h,_⟩ | ⟨_,h,_⟩⟩:=Aez.mp rd
  ·exact by_ty (.dK h)
  ·exact by_ty (.dT h)
noncomputable def cT (T:String):aA->Option aA:=fun d=>some (.bool (isK (dM d) T))
variable {e a b:bA}{es:List bA}{f:EF}{fa:AF}{p p2 pos apos cpos:cD}{x:aE}
theorem mJ {T:String}(hgl:Gl X "isinstance")(hm:X.mg "isinstance" = none)(hg:Gl X x)(hmx:X.mg x=none)(hv:mQ x=some (.type T))(hT:T∈OL)(he:DE X e f)
  (hn:x ≠ "__name__":=by decide) (hd:(x == ("__debug__" : aE))=false:=by decide) (hs1:bL (e::[.Name x p2]) X.env=(false,bX e X.env)::bL [.Name x p2] X.env:=by rfl)
  (hs2:bL (.Name x p2::[]) X.env=(false,bX (.Name x p2) X.env)::bL [] X.env:=by rfl) (hpl:(fY pos (bL [.Name x p2] X.env)).any (·.1)=false:=by rfl):DE X (.Call (.Name "isinstance" p) [e,.Name x p2] [] pos) (eUn (cT T) f):=
 PE.imp (OS El hgl hm boot_isinstance (iI he (iI (YG hg hmx hv hn hd) kU hs2) hs1) (by decide) (by decide) hs1 hpl) fun σ H Q gh=>by
  obtain⟨P,ρ,d,hP,rs,ef,k⟩:=gh
  obtain⟨d1,e1,ef⟩:=XBs ef
  cases ef
  exact⟨P,ρ,d1,hP,rs,e1,eP fun v H1 x1 r1=>⟨v,T,d1,rfl,r1.ext Aba,hT,k.zero x1 (Aav.mpr rfl)⟩⟩
noncomputable def dB:List aA->Option aA
 | [.list ds]=>some (.tuple ds)
 | [.tuple ds]=>some (.tuple ds)
 | _=>none
theorem oI {K:aP}:CallD K 0 (fun xs H Q=>∃ p ys,xs=[.ref p]/\((SqL K H p ys /\ ∀ l,H l=none->Q (.ref l) (upd H l (.tup ys))) \/ (SqT K H p ys/\Q (.ref p) H))) dB:=fun P H xs ds d Q hP r e k=>by
 unfold dB at e
 split at e
 ·cases e
  obtain⟨v,rfl,r'⟩:=hX r
  replace r:=r'
  obtain⟨q,ys,rfl,hq,rr⟩:=Abx.mp r
  exact⟨q,ys,rfl,.inl ⟨Aba.sqL hq,fun l hl=>k.tup hP hl rr⟩⟩
 ·cases e
  obtain⟨v,rfl,r'⟩:=hX r
  replace r:=r'
  obtain⟨q,ys,rfl,hq,rr⟩:=Aax.mp r
  exact⟨q,ys,rfl,.inr ⟨SqT.of (Aba _ _ hq),k.zero Ext.refl r⟩⟩
 ·cases e
noncomputable def dZ:List aA->Option aA
 | [.list ds]=>some (.list ds)
 | [.tuple ds]=>some (.list ds)
 | [.str z]=>if z.length≤sizeLine then some (.list (z.cps.toList.map fun c=>.str ⟨#[c]⟩)) else none
 | _=>none
def ME (K:aP):List V->Hp->VK->Prop:=fun xs H Q=>(∃ p ys,xs=[.ref p]/\(SqL K H p ys \/ SqT K H p ys) /\ ∀ l,H l=none->Q (.ref l) (upd H l (.lst ys))) \/ ∃ z:aE,xs=[.str z]/\z.length≤sizeLine /\ ∀ l,H l=none->Q (.ref l) (upd H l (.lst (z.cps.toList.map qG)))
theorem SG (hc:X.calm=true):Ae3 X (.type "list") (ME X.K):=Aqb.or (Gx hc)
theorem RF {K:aP}{H:Hp} : ∀ {cs:List Nat},(∀ c∈cs,fA (.str ⟨#[c]⟩)=true)->Aaz K H (cs.map fun c=>.str ⟨#[c]⟩) (cs.map qG)
 | [],_=>Aau.mpr rfl
 | c::r,h=>Aan.mpr ⟨_,_,rfl,Abk.mpr ⟨rfl,h c dF⟩,RF fun c' m=>h c' (eR _ m)⟩
theorem RH {K:aP}:CallD K 1 (ME K) dZ:=fun P H xs ds d Q hP r e k=>by
 unfold dZ at e
 split at e
 ·cases e
  obtain⟨v,rfl,r'⟩:=hX r
  replace r:=r'
  obtain⟨q,ys,rfl,hq,rr⟩:=Abx.mp r
  exact .inl ⟨q,ys,rfl,.inl (Aba.sqL hq),fun l hl=>k.lst hP hl rr⟩
 ·cases e
  obtain⟨v,rfl,r'⟩:=hX r
  replace r:=r'
  obtain⟨q,ys,rfl,hq,rr⟩:=Aax.mp r
  exact .inl ⟨q,ys,rfl,.inr (SqT.of (Aba _ _ hq)),fun l hl=>k.lst hP hl rr⟩
 ·obtain⟨hz,rfl⟩:=eI e
  obtain⟨v,rfl,r'⟩:=hX r
  replace r:=r'
  refine .inr ⟨_,by rw[(Abk.mp r).1],hz,fun l hl=>k.lst hP hl (RF fun c m=>?_)⟩
  obtain⟨j,hj⟩:=List.mem_iff_getElem?.mp m
  exact GH (Abk.mp r).2 hj
 ·cases e
noncomputable def dX:List aA->Option aA
 | [.int i]=>some (.int i)
 | [.bool b]=>some (.int (if b then 1 else 0))
 | _=>none
theorem Rv {K:aP}:CallD K 0 (fun xs H Q=>(∃ i,xs=[.int i]/\Q (.int i) H) \/ ∃ k,xs=[.bl k]/\Q (.int (if k then 1 else 0)) H) dX:=fun P H xs ds d Q hP r e k=>by
 unfold dX at e
 split at e
 ·cases e
  obtain⟨v,rfl,r'⟩:=hX r
  replace r:=r'
  exact .inl ⟨_,by rw[Aas.mp r],k.zero Ext.refl (Aas.mpr rfl)⟩
 ·cases e
  obtain⟨v,rfl,r'⟩:=hX r
  replace r:=r'
  exact .inr ⟨_,by rw[Aav.mp r],k.zero Ext.refl (Aas.mpr rfl)⟩
 ·cases e
noncomputable def mX:List aA->Option (List Bool)
 | []=>some []
 | .bool b::r=>(mX r).bind fun bs=>some (b::bs)
 | _::_=>none
noncomputable def AQ:List aA->Option aA
 | [.list ds]=>(mX ds).bind fun bs=>some (.bool (bs.all id))
 | _=>none
theorem GA {K:aP}{H:Hp} : ∀ {ds:List aA} {xs:List V} {bs:List Bool},mX ds=some bs->Aaz K H ds xs->xs=bs.map V.bl
 | [],xs,bs,e,r=>by
  cases e
  rw[Aau.mp r]; rfl
 | .bool b::ds,xs,bs,e,r=>by
  obtain⟨bs',e1,e2⟩:=XBs (show((mX ds).bind fun bs=>some (b::bs))=some bs from e)
  cases e2
  obtain⟨v,t,rfl,h1,h2⟩:=Aan.mp r
  rw[Aav.mp h1,GA e1 h2]; rfl
 | .none::_,_,_,e,_=>by cases e
 | .int _::_,_,_,e,_=>by cases e
 | .str _::_,_,_,e,_=>by cases e
 | .list _::_,_,_,e,_=>by cases e
 | .tuple _::_,_,_,e,_=>by cases e
 | .dict _::_,_,_,e,_=>by cases e
theorem Fe {K:aP}:CallD K 0 (fun xs H Q=>∃ p ys,xs=[.ref p]/\SqL K H p ys/\(∀ y∈ys,∃ b,y = .bl b)/\Q (.bl (allB ys)) H) AQ:=fun P H xs ds d Q hP r e k=>by
 unfold AQ at e
 split at e
 ·obtain⟨bs,e1,e2⟩:=XBs e
  cases e2
  obtain⟨v,rfl,r'⟩:=hX r
  replace r:=r'
  obtain⟨q,ys,rfl,hq,rr⟩:=Abx.mp r
  obtain rfl:=GA e1 rr
  refine⟨q,_,rfl,Aba.sqL hq,fun y m=>?_,k.zero Ext.refl (Aav.mpr ?_)⟩
  ·obtain⟨b,_,rfl⟩:=dP.mp m
   exact⟨b,rfl⟩
  ·unfold allB
   rw[AD]
   congr 2
   funext b
   cases b <;> rfl
 ·cases e
noncomputable def cutD (ds:List aA)(lo hi:Option Int):List aA:=(ds.drop (HT.sIx ds.length 0 lo)).take (HT.sIx ds.length ds.length hi - HT.sIx ds.length 0 lo)
abbrev OF:=List (Option aA)->Option (Option Int)
noncomputable def tOF (K:aP)(f:OF):TO:=fun σ H Q=>∃ P ρ o,Hid P H/\Ans K (hid H P) ρ σ/\f ρ=some o /\ ∀ H',Ext H H'->Q o H'
abbrev DO (X:Cx)(e:Option bA)(f:OF):Prop:=PO X e (tOF X.K f)
noncomputable def oN:OF:=fun _=>some none
noncomputable def oS (f:EF):OF:=fun ρ=>(f ρ).bind fun d=>match d with
 | .int i=>some (some i)
 | _=>none
theorem PO.imp {o:Option bA}{t t':TO}(h:PO X o t)(w : ∀ σ H Q,t' σ H Q->t σ H Q):PO X o t':=fun pins s σ H Q I q=>h pins s σ H Q I (w _ _ _ q)
theorem sQ:DO X none oN:=PO.imp Ca fun σ H Q gh=>by
 obtain⟨P,ρ,o,hP,rs,ef,k⟩:=gh
 cases ef
 exact k H Ext.refl
theorem sT (h:DE X e f):DO X (some e) (oS f):=PO.imp (Nn h) fun σ H Q gh=>by
 obtain⟨P,ρ,o,hP,rs,ef,k⟩:=gh
 obtain⟨d,e1,ef⟩:=XBs ef
 refine⟨P,ρ,d,hP,rs,e1,eP fun v H1 x1 r1=>?_⟩
 cases d with
 | int i=>cases ef; exact⟨i,Aas.mp r1,k H1 x1⟩
 | _=>cases ef
noncomputable def pM (f:EF)(lo hi:OF):EF:=fun ρ=>(f ρ).bind fun d=>(lo ρ).bind fun l=>(hi ρ).bind fun h=>match d with
 | .list ds=>some (.list (cutD ds l h))
 | _=>none
theorem BC {lo hi:Option bA}{fl fh:OF}{pp:cD}(he:DE X e f)(hl:DO X lo fl)(hh:DO X hi fh):DF 1 X (.Subscript e (.Slice lo hi none pp) pos) (pM f fl fh):=PE.imp (NX Cg he hl hh) fun σ H Q gh=>by
 obtain⟨P,ρ,d,hP,rs,ef,k⟩:=gh
 obtain⟨d1,e1,ef2⟩:=XBs ef
 obtain⟨l,e2,ef3⟩:=XBs ef2
 obtain⟨h,e3,ef4⟩:=XBs ef3
 clear ef ef2 ef3
 cases d1 with
 | list ds=>
  cases ef4
  refine⟨P,ρ,_,hP,rs,e1,eP fun v H1 x1 r1=>⟨P,ρ,l,hP.ext x1,rs.ext (dW x1),e2,fun H2 x2=>⟨P,ρ,h,hP.ext (x1.trans x2),rs.ext (dW (x1.trans x2)),e3,fun H3 x3=>?_⟩⟩⟩
  obtain⟨q,ys,rfl,hq,rr⟩:=Abx.mp (r1.ext (dW (x2.trans x3)))
  refine⟨q,ys,rfl,Aba.sqL hq,fun p hp=>(k.mono ((x1.trans x2).trans x3)).lst (hP.ext ((x1.trans x2).trans x3)) hp ?_⟩
  unfold rG cutD
  rw[rr.length]
  exact(rr.drop _).take _
 | _=>cases ef4
theorem Cj {α:Type}{c:Prop}[Decidable c]{x:Option α}{y:α}(h:(if c then x else none)=some y):c/\x=some y:=by
 by_cases e:c
 ·rw[if_pos e] at h; exact⟨e,h⟩
 ·rw[if_neg e] at h; cases h
noncomputable def eG:aA->aA->aA->Option aA
 | .dict kds,k,x=>if plK kds=true then(cR k).bind fun k=>some ((dG kds k).getD x) else none
 | _,_,_=>none
noncomputable def dU (fd fk fx:EF):EF:=fun ρ=>(fd ρ).bind fun d=>(fk ρ).bind fun k=>(fx ρ).bind fun x=>eG d k x
theorem Mi {o k z:bA}{fd fk fx:EF}(hu:X.A.units+40<cLine)(ho:DE X o fd)(hk:DE X k fk)(hz:DE X z fx)(m:M2 X o "get" apos k z cpos:=by exact⟨rfl,rfl,rfl,rfl⟩):DE X (.Call (.Attribute o "get" apos) [k,z] [] cpos) (dU fd fk fx):=
 PE.imp (Px hu ho hk hz m) fun σ H Q gh=>by
  obtain⟨P,ρ,d,hP,rs,ef,kk⟩:=gh
  obtain⟨d1,e1,ef2⟩:=XBs ef
  obtain⟨d2,e2,ef3⟩:=XBs ef2
  obtain⟨d3,e3,ef4⟩:=XBs ef3
  clear ef ef2 ef3
  cases d1 with
  | dict kds=>
   obtain⟨pk,ef5⟩:=Cj (show(if plK kds=true then(cR d2).bind fun k=>some ((dG kds k).getD d3) else none)=some d from ef4)
   obtain⟨key,h1,h2⟩:=XBs ef5
   cases h2
   refine⟨P,ρ,_,hP,rs,e1,eP fun v H1 x1 r1=>?_⟩
   obtain⟨q,kvs,rfl,hq,rr⟩:=(BW pk).mp r1
   refine⟨q,rfl,.inl ⟨kvs.1,kvs.2,.inl (Aba _ _ hq)⟩,P,ρ,d2,hP.ext x1,rs.ext (dW x1),e2,eP fun u H2 x2 r2=>⟨P,ρ,d3,hP.ext (x1.trans x2),rs.ext (dW (x1.trans x2)),e3,eP fun w H3 x3 r3=>?_⟩⟩
   refine⟨gX kvs.2 key,.inl ⟨kvs.1,kvs.2,key,.inl (x3 _ _ (x2 _ _ (Aba _ _ hq))),qV h1 r2,rfl⟩,kk.zero ((x1.trans x2).trans x3) ?_⟩
   rcases CB (k:=key) (rr.ext (dW (x2.trans x3))) with⟨n1,n2⟩ | ⟨d',v',s1,s2,rd⟩
   ·rw[n1,n2]; exact r3
   ·rw[s1,s2]; exact rd
  | _=>cases ef4
theorem Res.dic {K:aP}{P:aD->Prop}{H:Hp}{Q:VK}{kds:List (aA×aA)}{ep:Nat}{kvs:List (aK×V)}{q:aD}(hP:Hid P H)(h:Res K P 1 (.dict kds) H Q)(n:H q=none)(r:Ac1 K (hid H P) kds kvs):Q (.ref q) (upd H q (.dK ep kvs)):=by
 refine h (.ref q) _ [q] (Ext.new n) (mE.mpr ⟨by simp,.nil⟩) (fun a m=>?_) ⟨q,(ep,kvs),kvs.map fun _=>[],rfl,gR,?_,?_⟩
 ·have:a=q:=by simpa using m
  subst this
  exact⟨n,_,gR⟩
 ·have : ∀ l:List (aK×V),(l.map fun _=>([]:List aD)).flatten=[]:=fun l=>by
   induction l with
   | nil=>rfl
   | cons a l ih=>rw[fS,lG,ih]; rfl
  rw[this]
 ·have xe:Ext (hid H P) (hid (upd H q (.dK ep kvs)) (orL P [q])):=fun b o e=>by
   obtain⟨nb,e⟩:=Acz.mp e
   have hb:b≠q:=kJ e n
   exact jR (fun z=>z.elim nb fun m=>hb (by simpa using m)) (by rw[fH hb]; exact e)
  generalize hid (upd H q (.dK ep kvs)) (orL P [q])=B at xe
  generalize upd H q (.dK ep kvs)=H1
  clear h
  have go : ∀ (ds:List (aA×aA)) (xs:List (aK×V)),Ac1 K (hid H P) ds xs->All3 (fun(kd:aA×aA) (kv:aK×V) f=>kd.1=kD kv.1/\Ajx K B H1 0 kd.2 kv.2 f) ds xs (xs.map fun _=>[]):=by
   intro ds
   induction ds with
   | nil=>intro xs r; rw[Acw.mp r]; exact .nil
   | cons d ds ih=>
    intro xs r
    obtain⟨k',y,t,rfl,ek,h1,h2⟩:=Ab4.mp (show Ac1 K (hid H P) ((d.1,d.2)::ds) xs from r)
    exact .cons ⟨ek,rfl,h1.ext xe⟩ (ih t h2)
  exact go kds kvs r
end
section
variable {K:aP}{H0 H B0:Hp}{P0:aD->Prop}{ρ:bD}{σ:St}{fp:Nat->List aD}{i:Nat}
theorem QS {B:Hp} : ∀ {ds:List aA} {xs:List V} {Fs:List (List aD)},All3 (Agu K B H 0) ds xs Fs->Aaz K B ds xs/\Fs.flatten=[]:=by
 intro ds xs Fs h
 induction h with
 | nil=>exact⟨Aau.mpr rfl,rfl⟩
 | cons h t ih=>
  obtain⟨rfl,r⟩:=h
  exact⟨Aan.mpr ⟨_,_,rfl,r,ih.1⟩,by rw[lG,ih.2]; rfl⟩
theorem Ga {B:Hp} : ∀ {ds:List (aA×aA)} {xs:List (aK×V)} {Fs:List (List aD)},All3 (fun(kd:aA×aA) (kv:aK×V) f=>kd.1=kD kv.1/\Agu K B H 0 kd.2 kv.2 f) ds xs Fs->Ac1 K B ds xs/\Fs.flatten=[]:=by
 intro ds xs Fs h
 induction h with
 | nil=>exact⟨Acw.mpr rfl,rfl⟩
 | @cons p q F ds xs Fs h t ih=>
  obtain⟨k,d⟩:=p
  obtain⟨k',v⟩:=q
  obtain⟨ek,rfl,r⟩:=h
  exact⟨Ab4.mpr ⟨_,_,_,rfl,ek,r,ih.1⟩,by rw[lG,ih.2]; rfl⟩
theorem HB {B H1:Hp} : ∀ {ds:List aA} {xs:List V},Aaz K B ds xs->All3 (Agu K B H1 0) ds xs (xs.map fun _=>[])/\(xs.map fun _=>([]:List aD)).flatten=[]
 | [],xs,r=>by rw[Aau.mp r]; exact⟨.nil,rfl⟩
 | d::ds,xs,r=>by
  obtain⟨y,t,rfl,h1,h2⟩:=Aan.mp r
  obtain⟨q1,q2⟩:=HB h2
  exact⟨.cons ⟨rfl,h1⟩ q1,by rw[fS,lG,q2]; rfl⟩
theorem RD {B H1:Hp} : ∀ {ds:List (aA×aA)} {xs:List (aK×V)},Ac1 K B ds xs->All3 (fun(kd:aA×aA) (kv:aK×V) f=>kd.1=kD kv.1/\Agu K B H1 0 kd.2 kv.2 f) ds xs (xs.map fun _=>[])/\(xs.map fun _=>([]:List aD)).flatten=[]
 | [],xs,r=>by rw[Acw.mp r]; exact⟨.nil,rfl⟩
 | (k,d)::ds,xs,r=>by
  obtain⟨k',y,t,rfl,ek,h1,h2⟩:=Ab4.mp r
  obtain⟨q1,q2⟩:=RD h2
  exact⟨.cons ⟨ek,rfl,h1⟩ q1,by rw[fS,lG,q2]; rfl⟩
theorem Sta.write {p:aD}{o:HO}{d':aA}(S:Sta K H0 P0 B0 ρ σ H fp)(hi:i<ρ.length)(hv:σ[i]?=some (some (.ref p)))(hp:p∈fp i)(ho:(∃ xs,o = .lst xs) \/ ∃ q:DQ,o=dO q)
  (new:Ajx K (L2.hid H (Hd P0 fp)) (upd H p o) 1 d' (.ref p) (fp i)):Sta K H0 P0 B0 (ρ.set i (some (1,d'))) σ (upd H p o) fp:=by
 have hb:L2.hid (upd H p o) (Hd P0 fp)=L2.hid H (Hd P0 fp):=by
  funext b
  unfold L2.hid
  by_cases q:Hd P0 fp b
  ·rw[if_pos q,if_pos q]
  ·rw[if_neg q,if_neg q]
   exact fH fun z=>q (.inr ⟨i,by rw[z]; exact hp⟩)
 refine⟨by simp[S.len],S.nd,S.dj,fun j a m=>⟨(S.own j a m).1,?_⟩,fun b u e=>?_,S.hd,by rw[hb]; exact S.base,fun j n d e=>?_⟩
 ·by_cases q:a=p
  ·subst q
   rcases ho with⟨xs,rfl⟩ | ⟨xs,rfl⟩
   ·exact .inl ⟨xs,gR⟩
   ·exact .inr ⟨xs,gR⟩
  ·rw[fH q]; exact(S.own j a m).2
 ·rw[fH (kJ e (S.own i p hp).1)]; exact S.ext b u e
 ·by_cases q:j=i
  ·subst q
   rw[rR hi] at e
   cases e
   exact⟨_,hv,by rw[hb]; exact new⟩
  ·rw[nY (fun z=>q z.symm)] at e
   obtain⟨v,h1,h2⟩:=S.slot j n d e
   refine⟨v,h1,?_⟩
   rw[hb]
   exact h2.keep Ext.refl fun a m=>fH fun z=>q (S.dj j i a m (by rw[z]; exact hp))
theorem Sta.lst1 {ds:List aA}(S:Sta K H0 P0 B0 ρ σ H fp)(e:ρ[i]?=some (some (1,.list ds))) : ∃ p xs,σ[i]?=some (some (.ref p))/\H p=some (.lst xs)/\Aaz K (L2.hid H (Hd P0 fp)) ds xs /\
  ∀ ds' xs',Aaz K (L2.hid H (Hd P0 fp)) ds' xs'->Sta K H0 P0 B0 (ρ.set i (some (1,.list ds'))) σ (upd H p (.lst xs')) fp:=by
 obtain⟨v,h1,h2⟩:=S.slot i 1 _ e
 obtain⟨p,xs,Fs,rfl,hp,hF,h3⟩:=h2
 obtain⟨r,hn⟩:=QS h3
 rw[hn] at hF
 refine⟨p,xs,h1,hp,r,fun ds' xs' r'=>S.write (gE.mp e).1 h1 (by rw[hF]; exact dF) (.inl ⟨_,rfl⟩) ?_⟩
 obtain⟨q1,q2⟩:=HB (H1:=upd H p (.lst xs')) r'
 exact⟨p,xs',_,rfl,gR,by rw[hF,q2],q1⟩
theorem Sta.dic1 {ds:List (aA×aA)}(S:Sta K H0 P0 B0 ρ σ H fp)(e:ρ[i]?=some (some (1,.dict ds))) : ∃ p ep xs,σ[i]?=some (some (.ref p))/\H p=some (.dK ep xs)/\Ac1 K (L2.hid H (Hd P0 fp)) ds xs /\
  ∀ n ds' xs',Ac1 K (L2.hid H (Hd P0 fp)) ds' xs'->Sta K H0 P0 B0 (ρ.set i (some (1,.dict ds'))) σ (upd H p (.dK n xs')) fp:=by
 obtain⟨v,h1,h2⟩:=S.slot i 1 _ e
 obtain⟨p,xs,Fs,rfl,hp,hF,h3⟩:=h2
 obtain⟨r,hn⟩:=Ga h3
 rw[hn] at hF
 refine⟨p,xs.1,xs.2,h1,hp,r,fun n ds' xs' r'=>S.write (gE.mp e).1 h1 (by rw[hF]; exact dF) (.inr ⟨.inl (n,xs'),rfl⟩) ?_⟩
 obtain⟨q1,q2⟩:=RD (H1:=upd H p (.dK n xs')) r'
 exact⟨p,(n,xs'),_,rfl,gR,by rw[hF,q2],q1⟩
end
noncomputable def getL (i:Nat)(ρ:bD):Option (List aA):=match ρ[i]? with
 | some (some (1,.list ds))=>some ds
 | _=>none
noncomputable def dQ (i:Nat)(ρ:bD):Option (List (aA×aA)):=match ρ[i]? with
 | some (some (1,.dict ds))=>some ds
 | _=>none
theorem mN {i:Nat}{ρ:bD}{ds:List aA}(h:getL i ρ=some ds):ρ[i]?=some (some (1,.list ds)):=by
 unfold getL at h
 split at h
 ·rename_i e; cases h; exact e
 ·cases h
theorem GT {i:Nat}{ρ:bD}{ds:List (aA×aA)}(h:dQ i ρ=some ds):ρ[i]?=some (some (1,.dict ds)):=by
 unfold dQ at h
 split at h
 ·rename_i e; cases h; exact e
 ·cases h
section
variable {X:Cx}{H0:Hp}{P0:aD->Prop}{n0:Nat}{e k o:bA}{f g:EF}{x:aE}{px pos apos cpos spos:cD}{i:Nat}
noncomputable def dD (i:Nat)(m:Md)(f:EF):SF:=fun ρ=>(eV 0 m f ρ).bind fun d=>(getL i ρ).bind fun ds=>if ds.length<sizeLine then some (.nx (ρ.set i (some (1,.list (ds++[d]))))) else none
theorem qU (i:Nat)(m:Md)(he:DE X e f)(hN:X.N[i]?=some x:=by rfl)(hv:lH X.env.scope x:=by first | exact aT rfl | exact aY (aT rfl) | exact aY (aY rfl))(hd:(x == ("__debug__" : aE))=false:=by decide)
  (hcd:(x == ("__classdict__" : aE))=false:=by decide) (hbase:rO (.Name x px) "append" X.env (bX (.Name x px) X.env)=bX (.Name x px) X.env:=by rfl)
  (hfew:((fY cpos (bL (e::[]) X.env)).all (fun x=>!x.1)&&(rN cpos (rM [] X.env)).all (fun x=>x.1.isSome)
   && decide ((e::[]).length+([]:List jK).length+(if ([]:List jK).isEmpty then 0 else 1)<30))=true:=by rfl)
  (hline:(apos.endLine == cpos.line)=true:=by rfl) (hs:bL (e::[]) X.env=(false,bX e X.env)::bL [] X.env:=by rfl) (hplain:(fY cpos (bL [] X.env)).any (·.1)=false:=by rfl)
  (hsw:nR (.Call (.Attribute (.Name x px) "append" apos) [e] [] cpos) none pos.line X.env=pure false:=by rfl):DS X H0 P0 n0 (.Expr (.Call (.Attribute (.Name x px) "append" apos) [e] [] cpos) pos) (dD i m f):=
 PS.imp (uU (sI zW UV UT BY (nG hN hv hd hcd) (iI (ev (H0:=H0) (P0:=P0) m he) kU hs) hbase hfew hline hs hplain) hsw) fun D σ H gh=>by
  obtain⟨B0,ρ,fp,o,S,ef,k⟩:=gh
  obtain⟨d,e1,ef2⟩:=XBs ef
  obtain⟨ds,e2,ef3⟩:=XBs ef2
  obtain⟨hl,rfl⟩:=eI ef3
  obtain⟨p,xs,h1,h2,_,_⟩:=S.lst1 (mN e2)
  refine⟨.ref p,h1,.inl ⟨rfl,xs,SqL.of h2⟩,B0,ρ,fp,d,S,e1,fun v H2 gh=>?_⟩
  obtain⟨fp2,S2,r2⟩:=gh
  obtain⟨p2,xs2,q1,q2,q3,q4⟩:=S2.lst1 (mN e2)
  have:p2=p:=by rw[h1] at q1; cases q1; rfl
  subst this
  exact⟨p2,xs2,v,rfl,rfl,q2,by rw[q3.length]; exact hl,k _ _ fp2 (q4 _ _ (q3.snoc r2.2))⟩
noncomputable def eK (i:Nat):SF:=fun ρ=>(getL i ρ).bind fun ds=>some (.nx (ρ.set i (some (1,.list []))))
noncomputable def eO (i:Nat)(m:Md)(f:EF)(mk:Md)(g:EF):SF:=fun ρ=>(eV 0 m f ρ).bind fun d=>(getL i ρ).bind fun ds=>(eV 0 mk g ρ).bind fun k=>match k with
 | .int j=>(ixN ds.length j).bind fun j=>some (.nx (ρ.set i (some (1,.list (ds.set j d)))))
 | _=>none
theorem wZ {K:aP}{m:Md}{σ:St}{H B0:Hp}{ρ:bD}{fp:Nat->List aD}{d:aA}(S:Sta K H0 P0 B0 ρ σ H fp)(e:eV 0 m g ρ=some d){Q:VK}(hd:bS d=true)(k : ∀ v H',Ext H H'->Acb K (hid H' (Hd P0 fp)) d v->Q v H'):tF K 0 g σ H Q:=by
 cases m with
 | s=>exact⟨Hd P0 fp,vS ρ,d,S.hid,S.viewS,e,eP k⟩
 | a=>
  obtain⟨d',ed,ef⟩:=XBs e
  obtain⟨fl,rfl⟩:=eI ef
  refine⟨P0,vA ρ,d',S.hd.ext S.ext,S.viewA,ed,eP fun v H' x r=>k v H' x (r.flat (fun a xs e=>?_) _ hd)⟩
  obtain⟨na,e⟩:=Acz.mp e
  refine jR (fun q=>?_) e
  rcases q with q | ⟨j,q⟩
  ·exact na q
  ·rcases((S.grow x).own j a q).2 with⟨ys,e2⟩ | ⟨ys,e2⟩ <;> rw[e] at e2 <;> first | cases e2 | (cases ys <;> simp[dO] at e2)
noncomputable def eN (i:Nat)(m:Md)(f:EF)(mk:Md)(g:EF):SF:=fun ρ=>(eV 0 m f ρ).bind fun d=>(dQ i ρ).bind fun kds=>(eV 0 mk g ρ).bind fun k=>(cR k).bind fun k=>if kds.length<sizeLine then some (.nx (ρ.set i (some (1,.dict (putD kds k d))))) else none
end
section
variable {X:Cx}{a b c:bA}{fa fb fc:EF}{pos:cD}
theorem Pi {op op':CmpOp}{r r':R2}{g g':aA->aA->Option aA}(ho:OpR X (gS op) r)(ho':OpR X (gS op') r')(hg:OpD X.K 0 r g)(hg':OpD X.K 0 r' g')(ha:DE X a fa)(hb:DE X b fb)(hc:DE X c fc)
  (hm:lastMarks [op,op'] [b,c]=false:=by with_unfolding_all rfl):DT X (.Compare a [op,op'] [b,c] pos) (bOf (xQ g g' fa fb fc)):=PT.imp (Pp ho ho' ha hb hc hm) fun σ H Q gh=>by
 obtain⟨P,ρ,t,hP,rs,ef,k⟩:=gh
 obtain⟨d,e1,ef⟩:=XBs ef
 cases qQ ef
 exact Om hg hg' σ H _ ⟨P,ρ,_,hP,rs,e1,eP fun v H1 x1 r1=>⟨t,Aav.mp r1,k H1 x1⟩⟩
noncomputable def uF:aA->aA->Option aA
 | .list xs,.list ys=>if xs.length+ys.length≤sizeLine then some (.list (xs++ys)) else none
 | _,_=>none
theorem Mv:OpR X (jV .Add) (fun x y H Q=>∃ l b xs zs,x = .ref l/\y = .ref b/\SqL X.K H l xs/\SqL X.K H b zs/\xs.length+zs.length≤sizeLine /\ ∀ p,H p=none->Q (.ref p) (upd H p (.lst (xs++zs)))):=by
 intro pins s σ H x y v u Q I rx ry h
 obtain⟨l,b,xs,zs,rfl,rfl,hH,hB,hz,q⟩:=h
 cases rx
 cases ry
 obtain⟨its,r,p1,z1⟩:=I.list hH
 obtain⟨its2,r2,p2,z2⟩:=I.list hB
 have l1:=r.length
 have l2:=r2.length
 obtain⟨⟨cls,dd,data,sl⟩,ho,hc,n,hd⟩:=p1.isList
 obtain⟨⟨cls2,dd2,data2,sl2⟩,ho2,hc2,n2,hd2⟩:=p2.isList
 simp only at hc hd hc2 hd2
 subst hc hd hc2 hd2
 refine JL ⟨_,ho,rfl⟩ ⟨_,ho2,rfl⟩ noFill_list_add seq_list_add PySem.F.slot_list_add PySem.F.entry_list_add (PySem.F.args_list_add_2 _ _) (list_addW l b its.toArray its2.toArray n n2 dd dd2 sl sl2 (by simp only[fW]; omega)) ⟨ho,ho2,?_⟩
 have ea:its.toArray++its2.toArray=(its++its2).toArray:=by simp
 rw[ea]
 exact⟨.ref _,_,I.lnew (t':=s.toks) (r.append r2) (by rw[pW]; omega),rfl,q _ I.fresh⟩
theorem TB (ha:DE X a fa)(hb:DE X b fb):DF 1 X (.BinOp a .Add b pos) (eOp uF fa fb):=oB Mv (fun P H x y a b d Q hP ra rb e k=>by
 unfold uF at e
 split at e
 ·obtain⟨hz,rfl⟩:=eI e
  obtain⟨p,xs,rfl,hp,r1⟩:=Abx.mp ra
  obtain⟨q,ys,rfl,hq,r2⟩:=Abx.mp rb
  exact⟨p,q,xs,ys,rfl,rfl,Aba.sqL hp,Aba.sqL hq,by rw[r1.length,r2.length]; exact hz,fun l hl=>k.lst hP hl (r1.append r2)⟩
 ·cases e) ha hb
end
variable {X:Cx}{e a b:bA}{f fa fb:EF}{pos:cD}
noncomputable def MA (K:aP):R2:=fun x y H Q=>∃ a b ys,x = .ref a/\y = .ref b/\SqT K H a []/\SqT K H b ys/\Q (.ref b) H
theorem Np:OpR X (jV .Add) (MA X.K):=by
 intro pins s σ H x y v u Q I rx ry h
 obtain⟨a,b,ys,rfl,rfl,ha,hb,q⟩:=h
 cases rx
 cases ry
 obtain⟨its,r1,p1,_⟩:=I.tuple ha
 obtain⟨its2,r2,p2,_⟩:=I.tuple hb
 cases r1
 obtain⟨⟨cls,dd,data,sl⟩,ho,hc,n,hd⟩:=p1
 obtain⟨⟨cls2,dd2,data2,sl2⟩,ho2,hc2,n2,hd2⟩:=p2
 simp only at hc hd hc2 hd2
 subst hc hd hc2 hd2
 exact JL ⟨_,ho,rfl⟩ ⟨_,ho2,rfl⟩ UM seq_tuple_add UU UX (UY _ _)
  (tuple_addW0 a b _ _ n n2 dd dd2 sl sl2 rfl) ⟨ho,ho2,⟨.ref b,H,I,rfl,q⟩⟩
noncomputable def xD:aA->aA->Option aA
 | .tuple xs,.tuple ys=>if xs.length+ys.length≤sizeLine then some (.tuple (xs++ys)) else none
 | _,_=>none
theorem Pe {K:aP}:OpD K 0 (fun x y H Q=>IS K x y H Q \/ MA K x y H Q) xD:=fun P H x y a b d Q hP ra rb e k=>by
 unfold xD at e
 split at e
 ·rename_i zs ys
  obtain⟨hc,rfl⟩:=eI e
  obtain⟨p,us,rfl,hp,r1⟩:=Aax.mp ra
  obtain⟨q,ws,rfl,hq,r2⟩:=Aax.mp rb
  have l1:=r1.length
  have l2:=r2.length
  cases zs with
  | nil=>
   have eu:us=[]:=by simpa using l1
   subst eu
   exact .inr ⟨p,q,ws,rfl,rfl,SqT.of (Aba _ _ hp),SqT.of (Aba _ _ hq),k.zero Ext.refl rb⟩
  | cons z zs=>
   refine .inl ⟨p,q,us,ws,rfl,rfl,SqT.of (Aba _ _ hp),SqT.of (Aba _ _ hq),fun z=>by rw[z] at l1; simp at l1,by rw[l1,l2]; exact hc,fun z=>?_,fun z r hr=>?_⟩
   ·subst z
    have:ys=[]:=by simpa using l2.symm
    subst this
    refine k.zero Ext.refl ?_
    rw[AC]
    exact ra
   ·exact k.tup hP hr (r1.append r2)
 ·cases e
theorem Lm (ha:DE X a fa)(hb:DE X b fb):DE X (.BinOp a .Add b pos) (eOp xD fa fb):=oB (Aw2.or Np) Pe ha hb
noncomputable def AO:List aA->Option aA
 | [.int i,.int j]=>some (.int (if j > i then j else i))
 | _=>none
noncomputable def AN:List aA->Option aA
 | [.int i,.int j]=>some (.int (if j<i then j else i))
 | _=>none
theorem Dz {K:aP}:CallD K 0 (fun xs H Q=>∃ i j,xs=[.int i,.int j]/\Q (.int (if j > i then j else i)) H) AO:=fun P H xs ds d Q hP r e k=>by
 unfold AO at e
 split at e
 ·cases e
  obtain⟨v,t,rfl,h1,h2⟩:=Aan.mp r
  obtain⟨v',rfl,h3⟩:=hX h2
  rw[Aas.mp h1,Aas.mp h3]
  exact⟨_,_,rfl,k.zero Ext.refl (Aas.mpr rfl)⟩
 ·cases e
theorem Da {K:aP}:CallD K 0 (fun xs H Q=>∃ i j,xs=[.int i,.int j]/\Q (.int (if j<i then j else i)) H) AN:=fun P H xs ds d Q hP r e k=>by
 unfold AN at e
 split at e
 ·cases e
  obtain⟨v,t,rfl,h1,h2⟩:=Aan.mp r
  obtain⟨v',rfl,h3⟩:=hX h2
  rw[Aas.mp h1,Aas.mp h3]
  exact⟨_,_,rfl,k.zero Ext.refl (Aas.mpr rfl)⟩
 ·cases e
end L2
namespace L2
open PySem PySem.Spec PyProof.Rows
section
variable {P:cL}{w:cA}{A:eD}{E:aG->aL->Prop}{s:aL}
theorem Jx {t sl:aD}{us:Array aG}{vl vu:aG}{lo hi:Option Int}{Q:aG->aL->Prop}(ht:IsTup s.heap t us)(hs:s.heap.IsSliceOf sl vl vu .none)(pl:qA vl lo)(pu:qA vu hi)
  (hw:HT.sIx us.size 0 lo=0/\HT.sIx us.size us.size hi=us.size) (h:Q (.ref t) s):aO (bC P w) A (pP (.ref t) (.ref sl)) Q E s:=by
 obtain⟨os,e1,e2,e3⟩:=id hs
 have ty:s.TypeIs (.ref sl) "slice":=⟨os,e1,e2⟩
 unfold pP
 try with_reducible refine jI ?_
 first | refine aJ (bE ?_) | skip
 refine aJ (wpAny_sequenceKey ht.typeIs (by decide) (aJ (nQ (name:=nV "__getitem__") ht.typeIs JG (kK JG ht.typeIs entry_tuple_getitem ?_ (args_tuple_getitem _ _)))))
 show aO _ _ (VT (.ref t) >>= _) _ _ s
 refine aJ (tupleItemsOf_ ht (aJ (nM ty ?_)))
 rw[if_pos (by decide)]
 refine aJ (HT.Ah4 hs pl pu ?_)
 have yes:(((HT.sIx us.size 0 lo:Nat):Int) == 0&&(1:Int) == 1&&(HT.sIx us.size us.size hi - HT.sIx us.size 0 lo) == us.size)=true:=by
  rw[hw.1,hw.2]
  simp
 show aO _ _ (if (((HT.sIx us.size 0 lo:Nat):Int) == 0&&(1:Int) == 1&&(HT.sIx us.size us.size hi - HT.sIx us.size 0 lo) == us.size)=true then _ else _) _ _ s
 rw[if_pos yes]
 unfold Builtin.Tuple.tupleIsExact
 refine aJ (aJ (nM ht.typeIs (bE ?_)))
 rw[if_pos (by decide)]
 exact aJ (rJ (bE ⟨_,rfl,bE h⟩))
end
section
variable {X:Cx}{e:bA}{f:EF}{pos:cD}
def XR (K:aP):V->Option Int->Option Int->Hp->VK->Prop:=fun x lo hi H Q=>∃ a xs,x = .ref a/\SqT K H a xs/\(HT.sIx xs.length 0 lo=0/\HT.sIx xs.length xs.length hi=xs.length)/\Q (.ref a) H
theorem A4i:SlR X (XR X.K):=by
 intro pins s σ H x v vl vu lo hi sl Q I rx hs pl pu h
 obtain⟨a,xs,rfl,hx,hw,q⟩:=h
 cases rx
 obtain⟨its,r,ht,hz⟩:=I.tuple hx
 have hlen:its.toArray.size=xs.length:=by rw[fW]; exact r.length.symm
 exact⟨"tuple",_,JG.lookup,ht.typeIs,Jx ht hs pl pu (by rw[hlen]; exact hw) ⟨.ref a,H,I,rfl,q⟩⟩
noncomputable def oK (f:EF)(lo hi:OF):EF:=fun ρ=>(f ρ).bind fun d=>(lo ρ).bind fun l=>(hi ρ).bind fun h=>match d with
 | .tuple ds=>some (.tuple (cutD ds l h))
 | _=>none
theorem Fu {ds:List aA}{l h:Option Int}(hw:HT.sIx ds.length 0 l=0/\HT.sIx ds.length ds.length h=ds.length):cutD ds l h=ds:=by
 unfold cutD
 rw[hw.1,hw.2]
 simp
theorem FD {lo hi:Option bA}{fl fh:OF}{pp:cD}(he:DE X e f)(hl:DO X lo fl)(hh:DO X hi fh):DE X (.Subscript e (.Slice lo hi none pp) pos) (oK f fl fh):=PE.imp (NX (A4i.or ZY) he hl hh) fun σ H Q gh=>by
 obtain⟨P,ρ,d,hP,rs,ef,k⟩:=gh
 obtain⟨d1,e1,ef2⟩:=XBs ef
 obtain⟨l,e2,ef3⟩:=XBs ef2
 obtain⟨h,e3,ef4⟩:=XBs ef3
 clear ef ef2 ef3
 cases d1 with
 | tuple ds=>
  cases ef4
  refine⟨P,ρ,_,hP,rs,e1,eP fun v H1 x1 r1=>⟨P,ρ,l,hP.ext x1,rs.ext (dW x1),e2,fun H2 x2=>⟨P,ρ,h,hP.ext (x1.trans x2),rs.ext (dW (x1.trans x2)),e3,fun H3 x3=>?_⟩⟩⟩
  have r3:=r1.ext (dW (x2.trans x3))
  obtain⟨q,ys,rfl,hq,rr⟩:=Aax.mp r3
  by_cases hw:HT.sIx ds.length 0 l=0/\HT.sIx ds.length ds.length h=ds.length
  ·rw[Fu hw] at k
   exact .inl ⟨q,ys,rfl,SqT.of (Aba _ _ hq),by rw[rr.length]; exact hw,(k.mono ((x1.trans x2).trans x3)).zero Ext.refl r3⟩
  ·refine .inr ⟨q,ys,rfl,SqT.of (Aba _ _ hq),by rw[rr.length]; exact hw,fun p hp=>(k.mono ((x1.trans x2).trans x3)).tup (hP.ext ((x1.trans x2).trans x3)) hp ?_⟩
   unfold rG cutD
   rw[rr.length]
   exact(rr.drop _).take _
 | _=>cases ef4
end
def Avo (h:bG)(d:aD)(es:Array rT)(ep:Nat):Prop:=∃ o,h.get? d=some o/\o.ExactDict/\o.data = .dict es ep
theorem Avo.keep {h h':bG}{d:aD}{es:Array rT}{ep:Nat}(x:Avo h d es ep)(k : ∀ o,h.get? d=some o->h'.get? d=some o):Avo h' d es ep:=
 let ⟨o,e,r⟩:=x; ⟨o,k o e,r⟩
theorem Avo.ty {s:aL}{d:aD}{es:Array rT}{ep:Nat}(x:Avo s.heap d es ep):s.TypeIs (.ref d) "dict":=let ⟨o,e,c,_⟩:=x; ⟨o,e,c.1⟩
section
variable {prog:cL}{w:cA}{A:eD}{E:aG->aL->Prop}{s:aL}{d it:aD}{es:Array rT}{ep i:Nat}
theorem Pq {Q:aG->aL->Prop}(nm:(d == iJ)=false)(R:Avo s.heap d es ep)
  (q:Q (.ref s.heap.objs.size) { s with heap:=s.heap.push { cls:=.type "dict_keyiterator",data:=.fields #[.ref d,.int 0 0,.int es.size 0,.int ep 0] } }):aO (bC prog w) A (tP (.ref d)) Q E s:=by
 have ty:=R.ty
 obtain⟨o,eo,_,ed⟩:=R
 refine wpAny_pyIter_slot ty F.slot_dict_iter (kK F.slot_dict_iter ty F.entry_dict_iter
  ?_ (F.args_dict_iter_1 _))
 unfold Builtin.«dict.__iter__»
 refine aJ ?_
 unfold Builtin.Dict.dictSlotNone
 refine aJ (UJ ty ?_)
 show aO _ _ (pure (fZ d)) _ _ s
 refine bE ?_
 show aO _ _ (Builtin.Dict.showsAll d >>= _) _ _ s
 unfold Builtin.Dict.showsAll
 rw[if_neg (show ¬ (d == iJ)=true by rw[nm]; exact mV)]
 refine aJ (bE ?_)
 refine aJ (UK eo ed ?_)
 refine aJ (wpAny_dictEpoch eo ed ?_)
 refine aJ (nP (bE ⟨_,rfl,"dict_keyiterator",_,
  ⟨_,eW _ rfl,rfl⟩,EH.lookup,?_⟩))
 simpa [iL] using q
theorem Pb {e:rT}{Q:Option aG->aL->Prop}(K:s.heap.IsKeyIter it d i es.size ep)(R:Avo s.heap d es ep)(x:es[i]?=some e)
  (q : ∀ h',h'.IsKeyIter it d (i+1) es.size ep->tW it s.heap h'->Q (some e.key) { s with heap:=h' }):aO (bC prog w) A (hU (.ref it)) Q E s:=by
 obtain⟨oi,ei,ci,di⟩:=id K
 obtain⟨o,eo,_,ed⟩:=R
 unfold hU
 refine aJ (tM (nQ (name:=nV "__next__") K.typeIs
  EH (kK EH K.typeIs
   Sx ?_ (Sy _))))
 refine aJ (bE ?_)
 refine aJ ?_
 refine aJ ?_
 first
  | refine aJ (IZ K.typeIs (bE ?_))
  | refine aJ (IY K.typeIs (bE ?_))
 refine aJ (wpAny_fieldsOf ei di ?_)
 have own:Builtin.Dict_items.ownsTuple "dict_keyiterator" = false:=by decide
 simp only[own,oW,if_false]
 show aO _ _ (if (fZ d == jJ)=true then _ else _) _ _ s
 rw[if_neg (show ¬ (fZ d == jJ)=true from mV)]
 refine aJ (bE ?_)
 refine aJ (UK eo ed ?_)
 rw[if_neg (by simp)]
 refine aJ (bE ?_)
 refine aJ (wpAny_dictEpoch eo ed ?_)
 rw[if_neg (by simp)]
 refine bE ?_
 simp only[show ¬ ((i:Int)<0) from by omega,if_false,AE,x]
 refine aJ ?_
 first
  | refine aJ (IZ K.typeIs (bE ?_))
  | refine aJ (IY K.typeIs (bE ?_))
 refine aJ (wpAny_isOneOf_keyiter K.typeIs ?_)
 show aO _ _ (setField (.ref it) 1 (iL ((i:Int)+1)) >>= _) _ _ s
 refine aJ (JA ei di (by simp) ?_)
 have K':(s.heap.update it (Obj.mapFields (·.setIfInBounds 1 (iL ((i:Int)+1))))).IsKeyIter it d (i+1) es.size ep:=
  ⟨_,KJ _ ei (Obj.isFreed_of_fields (JT di _)),(Obj.cls_mapFields ..).trans ci,by
   rw[JT di]; simp[iL]⟩
 refine aJ (jI ?_)
 refine aJ (wpAny_isOneOf_keyiter (s:={ s with heap:=s.heap.update it (Obj.mapFields (·.setIfInBounds 1 (iL ((i:Int)+1)))) })
  K'.typeIs ?_)
 show aO _ _ (pure e.key) _ _ _
 exact bE (bE ⟨_,rfl,bE (q _ K' (KL ..))⟩)
theorem Lh {Q:Option aG->aL->Prop}(hh:A.handled=none)(K:s.heap.IsKeyIter it d i es.size ep)(R:Avo s.heap d es ep)(x:es.size≤i)
  (q : ∀ h',AG it s.heap h'->Q none { s with heap:=h' }):aO (bC prog w) A (hU (.ref it)) Q E s:=by
 obtain⟨oi,ei,ci,di⟩:=id K
 obtain⟨o,eo,_,ed⟩:=R
 unfold hU
 refine aJ (tM (nQ (name:=nV "__next__") K.typeIs
  EH (kK EH K.typeIs
   Sx ?_ (Sy _))))
 refine aJ (bE ?_)
 refine aJ ?_
 refine aJ ?_
 first
  | refine aJ (IZ K.typeIs (bE ?_))
  | refine aJ (IY K.typeIs (bE ?_))
 refine aJ (wpAny_fieldsOf ei di ?_)
 have own:Builtin.Dict_items.ownsTuple "dict_keyiterator" = false:=by decide
 simp only[own,oW,if_false]
 show aO _ _ (if (fZ d == jJ)=true then _ else _) _ _ s
 rw[if_neg (show ¬ (fZ d == jJ)=true from mV)]
 refine aJ (bE ?_)
 refine aJ (UK eo ed ?_)
 rw[if_neg (by simp)]
 refine aJ (bE ?_)
 refine aJ (wpAny_dictEpoch eo ed ?_)
 rw[if_neg (by simp)]
 refine bE ?_
 simp only[show ¬ ((i:Int)<0) from by omega,if_false,AE,Array.getElem?_eq_none x]
 refine aJ ?_
 first
  | refine aJ (IZ K.typeIs (bE ?_))
  | refine aJ (IY K.typeIs (bE ?_))
 show aO _ _ (setField (.ref it) 0 .none >>= _) _ _ s
 refine aJ (JA ei di (by simp) ?_)
 show aO _ _ (newExc (.type "StopIteration") [] >>= _) _ _ _
 refine aJ ?_
 simp only[newExc,newTuple]
 refine aJ (nP ?_ (by size_fits))
 refine aJ (m:=JK _ _) (wpAny_of_eq (a:=jJ)
  (by first | rfl | (simp only[JK]; rfl)) ?_)
 refine nP ?_ (by size_fits)
 simp only[raiseNew]
 refine aJ (wpAny_handled ?_)
 rw[show A.in1.handled=none from hh]
 refine aJ (bE (wpAny_throw ?_))
 refine aJ (zT (T:="StopIteration") (b:=true)
  ⟨_,eW _ rfl,rfl⟩ JI ?_)
 exact bE (q _ (((KL ..).extBut.push _).push _))
theorem Fg (hh:A.handled=none)(I d:aD)(ne:d≠I)(es:Array rT)(ep:Nat) :
  Walks prog w A I [I,d] [I] es.size (fun i v=>∃ e,es[i]?=some e/\v=e.key) (fun i h=>h.IsKeyIter I d i es.size ep/\Avo h d es ep) where
 sub:=fun b hb=>by simp at hb; simp[hb]
 frame:=fun _ _ _ st hk=>⟨st.1.at fun o e=>hk I (by simp) o e,st.2.keep fun o e=>hk d (by simp) o e⟩
 item:=fun i s Q E hi st hQ=>by
  have hx:es[i]?=some es[i]:=Array.getElem?_eq_getElem hi
  refine Pb st.1 st.2 hx fun h' K' hs=>?_
  exact hQ _ h' s.toks ⟨_,hx,rfl⟩ ⟨K',st.2.keep fun o e=>hs.extBut d o ne e⟩ fun b o hb e=>hs.extBut b o (fun h=>hb (by simp[h])) e
 done:=fun s Q E st hQ=>Lh hh st.1 st.2 (dA _) fun h' he=>hQ h' s.toks fun b o hb e=>he b o (fun h=>hb (by simp[h])) e
 self:=fun _ _ _ _ st hQ=>wpAny_pyIter_keyiter st.1 hQ
theorem Kg:vZ (.type "dict") "__len__" = pure (some (.builtin "dict.__len__")):=by rw[JE,JN]; kernel_rfl
theorem Fk {R:Result->aL->Prop}(hh:A.handled=none)(nm:(d == iJ)=false)(D:Avo s.heap d es ep)(S:aD)(res:aG)(c₀:Nat)(hSd:S≠d)
  (hS:s.heap.get? S=some { cls:=.type "list",data:=.seq #[] c₀ }) (hn:es.size≤sizeLine)
  (q : ∀ h' tk acc c',(∀ b o,b≠S->s.heap.get? b=some o->h'.get? b=some o)->h'.get? S=some { cls:=.type "list",dict:=none,data:=.seq acc c',slots:=#[] } ->
   wN (fun i v=>∃ e,es[i]?=some e/\v=e.key) acc es.size->R (.ok (.ret res)) { s with heap:=h',toks:=tk }) :
  aO (bC prog w) A.in1 (wR (.ref S) (.ref d) res)
   (fun fin s'=>match fin with | .done f=>R (.ok f) s' | .again c'=>c'.quiet=true/\pR (bC prog w) A c' R s') (fun e s'=>R (.error e) s') s:=by
 have ty:=D.ty
 unfold wR
 refine aJ (nM ty ?_)
 have h1:VW (.ref S) (.ref d)=false:=by
  simp[VW,hSd]
 have h2:(iM "dict" == iM "list")=false:=by decide
 have h3:(iM "dict" == iM "tuple")=false:=by decide
 simp only[h1,h2,h3,Bool.or_false,oW,if_false]
 refine aJ (Pq nm D ?_)
 refine aJ (jI ?_)
 have hd0:d<s.heap.objs.size:=by obtain⟨o,e,_⟩:=D; exact cI e
 have hS0:S<s.heap.objs.size:=cI hS
 have keepP : ∀ b o,s.heap.get? b=some o->(s.heap.push { cls:=.type "dict_keyiterator",data:=.fields #[.ref d,.int 0 0,.int es.size 0,.int ep 0] }).get? b=some o:=fun b o e=>cY _ e
 have D':Avo (s.heap.push { cls:=.type "dict_keyiterator",data:=.fields #[.ref d,.int 0 0,.int es.size 0,.int ep 0] }) d es ep:=D.keep fun o e=>keepP d o e
 have itG:(s.heap.push { cls:=.type "dict_keyiterator",data:=.fields #[.ref d,.int 0 0,.int es.size 0,.int ep 0] }).IsKeyIter s.heap.objs.size d 0 es.size ep:=⟨_,eW _ rfl,rfl,rfl⟩
 unfold Builtin.List.listLengthHint
 refine aJ (zR (T:="dict") (v:=.ref d) (by obtain⟨o,e,c,_⟩:=D'; exact⟨o,e,c.1⟩) Kg ?_)
 wp_delta
 refine aJ (zT (T:="dict") (v:=.ref d) (b:=true) (by obtain⟨o,e,c,_⟩:=D'; exact⟨o,e,c.1⟩) (by rw[isSubtype_type]; kernel_rfl) ?_)
 show aO _ _ (typeOf (fZ d) >>= _) _ _ _
 refine aJ (nM (T:="dict") (v:=.ref d) (by obtain⟨o,e,c,_⟩:=D'; exact⟨o,e,c.1⟩) ?_)
 refine bE ?_
 rw[if_pos (by decide)]
 refine aJ (rJ ?_)
 refine aJ ?_
 have S1:=keepP _ _ hS
 generalize(s.heap.push { cls:=.type "dict_keyiterator",data:=.fields #[.ref d,.int 0 0,.int es.size 0,.int ep 0] })=G at keepP D' S1 itG ⊢
 show aO _ _ (updateSeq S (·.push .none) >>= fun _=>updateSeq S (·.pop)) _ _ _
 refine aJ (wpAny_updateSeq S1 rfl ?_)
 have S2:=KJ (oQ (·.push jJ)) S1 rfl
 refine wpAny_updateSeq (hz:=by seq_fits) S2 rfl ?_
 have S3:=KJ (oQ (·.pop)) S2 rfl
 have other : ∀ b o,b≠S->G.get? b=some o->((G.update S (oQ (·.push jJ))).update S (oQ (·.pop))).get? b=some o:=fun b o hb e=>
  (VO _ _ (mR hb)).trans ((VO _ _ (mR hb)).trans e)
 have hne:d≠s.heap.objs.size:=fC hd0
 have hSf:S∉[s.heap.objs.size,d]:=fun hm=>by
  rcases fG.mp hm with z | z
  ·exact absurd hS0 (by rw[z]; exact mD _)
  ·exact hSd (fL.mp z)
 refine bE ⟨zU F.plain_extend_loop _,codeAny_extend_loopS (Fg (A:=A.in1) hh s.heap.objs.size d hne es ep).toS hn _ hSf _ es.size 0 _ _ _ rfl (mS _)
  ⟨itG.at fun o e=>other _ o (kN hS0) e,D'.keep fun o e=>other _ o (mR hSd) e⟩ S3 (ItemsOf.nil _) fun s' acc c' hm hS' hacc=>?_⟩
 rw[Moved.eq_with hm]
 refine q s'.heap s'.toks acc c' (fun b ob hb e=>hm.heap b ob (fun hmem=>?_) (other b ob hb (keepP _ _ e))) hS' hacc
 rcases fG.mp hmem with z | hmem
 ·exact hb z
 ·exact absurd (cI e) (by rw[fL.mp hmem]; exact mD _)
theorem Hn {Q:List aG->aL->Prop}(hh:A.handled=none)(nm:(d == iJ)=false)(D:Avo s.heap d es ep)(hn:es.size≤sizeLine)
  (q : ∀ s' acc,(∀ b o,s.heap.get? b=some o->s'.heap.get? b=some o)->s'.gens=s.gens->s'.drawn=s.drawn->s'.os=s.os->wN (fun i v=>∃ e,es[i]?=some e/\v=e.key) acc es.size->Q acc.toList s') :
  aO (bC prog w) A (collect (.ref d)) Q E s:=by
 have hd0:d<s.heap.objs.size:=by obtain⟨o,e,_⟩:=D; exact cI e
 unfold collect
 refine aJ (wpAny_runValue (tR F.entry_proto_collect ?_))
 rw[AK F.plain_proto_collect _]
 show aO _ A.in1 (newList [] >>= fun l=>again (.builtin "list.__iadd__" ⟨[l,.ref d],[]⟩)) _ _ s
 refine aJ (nP ?_)
 refine bE ⟨zU F.plain_list_iadd _,tR F.entry_list_iadd ?_⟩
 rw[AK F.plain_list_iadd _]
 show aO _ A.in1 (wR (.ref s.heap.objs.size) (.ref d) (.ref s.heap.objs.size)) _ _ _
 have fin : ∀ (r:Result) (s':aL),(r = .ok (.ret (.ref s.heap.objs.size)) /\ ∃ h' tk acc c',s' = { s with heap:=h',toks:=tk }/\(∀ b o,b≠s.heap.objs.size->(s.heap.push { cls:=.type "list",data:=.seq ([]:List aG).toArray }).get? b=some o->h'.get? b=some o) /\
   h'.get? s.heap.objs.size=some { cls:=.type "list",dict:=none,data:=.seq acc c',slots:=#[] }/\wN (fun i v=>∃ e,es[i]?=some e/\v=e.key) acc es.size) ->
   (match r with
    | .ok (.ret v)=>aO (bC prog w) A (match v with
      | .ref a=>do
       let o ← load a
       match o.data with
        | .seq xs _=>pure xs.toList
        | _=>unsupported "internal:collect"
      | _=>unsupported "internal:collect") Q E s'
    | .ok _=>False
    | .error e=>E e s'):=by
  rintro r s' ⟨rfl,h',tk,acc,c',rfl,hk,hS',hacc⟩
  refine aJ (wpAny_load (s:={ s with heap:=h',toks:=tk }) hS' ?_)
  exact bE (q { s with heap:=h',toks:=tk } acc (fun b o e=>hk b o (fC (cI e)) (cY _ e)) rfl rfl rfl hacc)
 refine mC (Fk (A:=A) (s:={ s with heap:=s.heap.push { cls:=.type "list",data:=.seq ([]:List aG).toArray } })
  (R:=fun r s'=>r = .ok (.ret (.ref s.heap.objs.size)) /\ ∃ h' tk acc c',s' = { s with heap:=h',toks:=tk }/\(∀ b o,b≠s.heap.objs.size->(s.heap.push { cls:=.type "list",data:=.seq ([]:List aG).toArray }).get? b=some o->h'.get? b=some o) /\
   h'.get? s.heap.objs.size=some { cls:=.type "list",dict:=none,data:=.seq acc c',slots:=#[] }/\wN (fun i v=>∃ e,es[i]?=some e/\v=e.key) acc es.size)
  hh nm (D.keep fun o e=>cY _ e) s.heap.objs.size _ 0 (kN hd0) (eW _ rfl) hn fun h' tk acc c' hk hS' hacc=>⟨rfl,h',tk,acc,c',rfl,hk,hS',hacc⟩) (fun f s' hf=>?_) fun e s' hf=>absurd hf.1 (by intro z; cases z)
 cases f with
 | done f=>exact fin _ s' hf
 | again c=>exact⟨hf.1,JM hf.2 fun r s2 h2=>fin r s2 h2⟩
theorem Kl (nm:(d == iJ)=false)(hn:es.size≤sizeLine):Meets (Builtin.«tuple.__new__» ⟨[.type "tuple",.ref d],[]⟩)
   (fun A R s=>A.handled=none/\Avo s.heap d es ep /\ ∀ (s':aL) (acc:Array aG),(∀ b o,s.heap.get? b=some o->s'.heap.get? b=some o)->s'.gens=s.gens->s'.drawn=s.drawn->s'.os=s.os->wN (fun i v=>∃ e,es[i]?=some e/\v=e.key) acc es.size ->
    R (.ok (.ret (.ref s'.heap.objs.size))) { s' with heap:=s'.heap.push { cls:=.type "tuple",data:=.seq acc } }):=
 .of_wp fun prog w A R s h=>by
  obtain⟨hh,D,h⟩:=h
  have hsub:=sub_tuple_self
  have hinit:=init_tuple_lookup
  have hmh:=madeHere_tuple
  have ty:=D.ty
  have hh1:A.in1.handled=none:=hh
  wp_walk using nM ty,Hn hh1 nm D hn
  intro s' acc hk hg hd hos hacc
  show aO _ _ (AJ acc.toList.toArray >>= fun v=>ret v) _ _ _
  unfold AJ
  refine aJ (nP ?_ (show acc.toList.toArray.size≤sizeLine by
   simp only[Array.toArray_toList]; rw[hacc.1]; exact hn))
  refine bE ⟨_,rfl,?_⟩
  have e:acc.toList.toArray=acc:=by simp
  rw[e]
  exact h s' acc hk hg hd hos hacc
theorem Dv {Q:aG->aL->Prop}(hh:A.handled=none)(nm:(d == iJ)=false)(D:Avo s.heap d es ep)(hn:es.size≤sizeLine)
  (q : ∀ (h':bG) (tk:Nat) (acc:Array aG),(∀ b o,s.heap.get? b=some o->h'.get? b=some o)->wN (fun i v=>∃ e,es[i]?=some e/\v=e.key) acc es.size ->
   Q (.ref h'.objs.size) { s with heap:=h'.push { cls:=.type "tuple",data:=.seq acc },toks:=tk }):aO (bC prog w) A (call (.type "tuple") [.ref d]) Q E s:=by
 refine callType_new F.called_tuple (by decide) (F.typeCall_tuple_1 _) (F.newCall_tuple_1 _)
  (fun obj=>F.args_object_init_2 obj _) F.entry_tuple_new (Kl nm hn) ⟨hh,D,fun s' acc hk hg hd hos hacc=>⟨⟨_,eW _ rfl,rfl⟩,?_⟩⟩
 obtain⟨h',g',d',tk',os'⟩:=s'
 have e1:g'=s.gens:=hg
 have e2:d'=s.drawn:=hd
 have e3:os'=s.os:=hos
 subst e1 e2 e3
 exact q h' tk' acc hk hacc
end
section
variable {X:Cx}{pins:List (aD×bP)}{σ:St}{H:Hp}{s:aL}
theorem Ru {es:Array rT}{acc:Array aG}(h:wN (fun i v=>∃ e,es[i]?=some e/\v=e.key) acc es.size):acc.toList=es.toList.map (·.key):=by
 obtain⟨h1,h2⟩:=h
 apply List.ext_getElem?
 intro i
 rw[gN]
 by_cases hi:i<acc.size
 ·have ha:acc.toList[i]?=some acc[i]:=by simp[hi]
  obtain⟨e,he,hv⟩:=h2 i acc[i] (by simp[hi])
  have he':es.toList[i]?=some e:=by simpa using he
  rw[ha,he',hv]
  rfl
 ·have ha:acc.toList[i]?=none:=by simp; omega
  have he:es.toList[i]?=none:=by simp; omega
  rw[ha,he]
  rfl
theorem Qp {H:Hp} : ∀ {kvs:List (List aA×V)} {ys:List (List aA×aD×aG)},gV (fun p q=>p.1=q.1/\Aop H p.1 q.2.1/\RelV p.2 q.2.2) kvs ys->gV (fun(p:List aA×V) (b:aD)=>Aop H p.1 b) kvs (ys.map fun y=>y.2.1):=by
 intro kvs ys h
 induction h with
 | nil=>exact .nil
 | cons h _ ih=>exact .cons h.2.1 ih
theorem QM {P:cL}{w:cA} : ∀ (ys:List (List aA×aD×aG)),Vals ((ys.map fun y=>y.2.1).map V.ref) ((ys.map (entryOfKey (qT P w))).map (·.key))
 | []=>.nil
 | _::t=>.cons rfl (QM t)
theorem Jk (hc:X.calm=true):Ae3 X (.type "tuple") (fun xs H Q=>∃ a kvs,xs=[.ref a]/\H a=some (.dT kvs) /\ ∀ l as,H l=none->gV (fun(p:List aA×V) (b:aD)=>Aop H p.1 b) kvs as->Q (.ref l) (upd H l (.tup (as.map V.ref)))):=by
 intro pins s σ H xs us Q I r h
 obtain⟨a,kvs,rfl,ha,q⟩:=h
 obtain⟨u,rfl,ru⟩:=vals1 r
 cases ru
 obtain⟨z,nm,ys,kt,o,es,ep,e1,e2,e3,e4,_⟩:=(show Ady X.prog X.w H s.heap a (.dT kvs) from I.hok a _ ha)
 have el:es.size=kvs.length:=by
  have:=congrArg List.length e4
  rw[gM,← pT kt] at this
  simpa using this
 have hp:gV (fun(p:List aA×V) (b:aD)=>Aop H p.1 b) kvs (ys.map fun y=>y.2.1):=Qp kt
 have rv:Vals ((ys.map fun y=>y.2.1).map V.ref) (es.toList.map (·.key)):=by
  rw[e4]
  exact QM ys
 refine Dv (I.ok.hd hc) nm ⟨o,e1,e2,e3⟩ (by omega) fun h' tk acc hk hacc=>?_
 have ea:=Ru hacc
 rw[← ea] at rv
 have I1:Inv X pins σ H { s with heap:=h',toks:=tk }:=I.kept (t':=tk) hk
 exact⟨.ref h'.objs.size,_,I1.laid (t':=tk) (o:=.tup ((ys.map fun y=>y.2.1).map V.ref)) (fun b o e=>cY _ e) (dA _) (show Ady X.prog X.w _ _ _ (.tup _) from⟨by rw[gM,gM,← pT kt]; exact z,acc.toList,rv,A5l.new _ _⟩),rfl,q _ _ I1.fresh hp⟩
end
open PySem
structure Sub (P:cL)(w:cA)(it:aD)(own:List aD)(St:Nat->bG->Prop)(xs:Array aG):Prop where
 mem:it∈own
 obj : ∀ k h,St k h -> ∀ c∈own,∃ o,h.get? c=some o
 keep : ∀ k h h',St k h->(∀ c∈own,∀ o,h.get? c=some o->h'.get? c=some o)->St k h'
 item : ∀ (A:eD) (E:aG->aL->Prop) (s:aL) (Q:aG->aL->Prop) (k:Nat) (x:aG),St k s.heap->xs[k]?=some x ->
  (∀ h',St (k+1) h'->tW it s.heap h'->Q x { s with heap:=h' })->aO (bC P w) A (mG (.ref it)) Q E s
 done : ∀ (A:eD) (E:aG->aL->Prop) (s:aL) (Q:aG->aL->Prop) (k:Nat),A.handled=none->St k s.heap->xs[k]?=none ->
  (∀ h' e,AG it s.heap h'->(∃ o,h'.get? e=some o/\o.cls = .type "StopIteration")->E (.ref e) { s with heap:=h' })->aO (bC P w) A (mG (.ref it)) Q E s
section
variable {P:cL}{w:cA}{A:eD}{E:aG->aL->Prop}{s:aL}
theorem Qd {j t:aD}{k:Nat}{us:Array aG}{u:aG}{Q:aG->aL->Prop}(hj:s.heap.IsTupleIter j t k)(ht:s.heap.IsTuple t us)(hu:us[k]?=some u)
  (q : ∀ h',h'.IsTupleIter j t (k+1)->tW j s.heap h'->Q u { s with heap:=h' }):aO (bC P w) A (mG (.ref j)) Q E s:=by
 obtain⟨oj,g1,g2,g3⟩:=id hj
 obtain⟨ot,t1,_,nt,t2⟩:=ht
 unfold mG
 refine aJ (nQ (name:=nV "__next__") hj.typeIs KM (kK KM hj.typeIs F.entry_tuple_iterator_next ?_ (F.args_tuple_iterator_next_1 _)))
 show aO _ _ (jU (.ref j) 0 >>= _) _ _ s
 refine aJ (gK g1 g3 (x:=.ref t) rfl ?_)
 show aO _ _ (if (fZ t == jJ)=true then _ else _) _ E s
 have ne : ¬ (fZ t == jJ)=true:=mV
 rw[if_neg ne]
 show aO _ _ (jU (.ref j) 1 >>= _) _ _ s
 refine aJ (gK g1 g3 (x:=.int k 0) rfl ?_)
 show aO _ _ (seqItems? (.ref t) >>= _) _ E s
 refine aJ (mP t1 t2 ?_)
 simp only[AE,hu]
 refine aJ (JA g1 g3 (by simp) (bE ⟨u,rfl,bE (q _ ⟨_,KJ _ g1 (Obj.isFreed_of_fields (JT g3 _)),(Obj.cls_mapFields ..).trans g2,?_⟩ (KL ..))⟩))
 rw[JT g3]
 simp[iL]
theorem Ph {j t:aD}{k:Nat}{us:Array aG}{Q:aG->aL->Prop}(hh:A.handled=none)(hj:s.heap.IsTupleIter j t k)(ht:s.heap.IsTuple t us)(hu:us[k]?=none)
  (q : ∀ h' e,AG j s.heap h'->(∃ o,h'.get? e=some o/\o.cls = .type "StopIteration")->E (.ref e) { s with heap:=h' }):aO (bC P w) A (mG (.ref j)) Q E s:=by
 obtain⟨oj,g1,g2,g3⟩:=id hj
 obtain⟨ot,t1,_,nt,t2⟩:=ht
 unfold mG
 refine aJ (nQ (name:=nV "__next__") hj.typeIs KM (kK KM hj.typeIs F.entry_tuple_iterator_next ?_ (F.args_tuple_iterator_next_1 _)))
 show aO _ _ (jU (.ref j) 0 >>= _) _ _ s
 refine aJ (gK g1 g3 (x:=.ref t) rfl ?_)
 show aO _ _ (if (fZ t == jJ)=true then _ else _) _ E s
 have ne : ¬ (fZ t == jJ)=true:=mV
 rw[if_neg ne]
 show aO _ _ (jU (.ref j) 1 >>= _) _ _ s
 refine aJ (gK g1 g3 (x:=.int k 0) rfl ?_)
 show aO _ _ (seqItems? (.ref t) >>= _) _ E s
 refine aJ (mP t1 t2 ?_)
 simp only[AE,hu]
 refine aJ (rJ (aJ (JA g1 g3 (by simp) ?_)))
 show aO _ _ (newExc (.type "StopIteration") [] >>= _) _ E _
 refine aJ ?_
 simp only[newExc,newTuple]
 refine aJ (nP ?_ (by size_fits))
 refine aJ (m:=JK _ _) (wpAny_of_eq (a:=jJ) (by first | rfl | (simp only[JK]; rfl)) ?_)
 refine nP ?_ (by size_fits)
 simp only[raiseNew]
 refine aJ (wpAny_handled ?_)
 first | rw[show A.in1.handled=none from hh] | rw[hh]
 refine aJ (bE (wpAny_throw (q _ _ (((KL ..).extBut.push _).push _) ⟨_,eW _ rfl,rfl⟩)))
theorem Nf (j t:aD)(us:Array aG)(ne:t≠j):Sub P w j [j,t] (fun k h=>h.IsTupleIter j t k/\h.IsTuple t us) us where
 mem:=dF
 obj:=fun k h ⟨⟨o,e,_⟩,⟨o',e',_⟩⟩ c hc=>by
  rcases fG.mp hc with rfl | hc
  ·exact⟨o,e⟩
  ·rw[fL.mp hc]; exact⟨o',e'⟩
 keep:=fun k h h' ⟨⟨o,e,r⟩,⟨o',e',r'⟩⟩ kp=>⟨⟨o,kp j dF o e,r⟩,⟨o',kp t (by simp) o' e',r'⟩⟩
 item:=fun A E s Q k x ⟨a,b⟩ hx q=>Qd a b hx fun h' a' sb=>q h' ⟨a',b.extBut sb.extBut ne⟩ sb
 done:=fun A E s Q k hh ⟨a,b⟩ hx q=>Ph hh a b hx q
theorem Qg (j t:aD)(us:Array aG)(ne:t≠j):Sub P w j [j,t] (fun k h=>h.IsListIter j t k/\h.IsList t us) us where
 mem:=dF
 obj:=fun k h ⟨⟨o,e,_⟩,⟨o',e',_⟩⟩ c hc=>by
  rcases fG.mp hc with rfl | hc
  ·exact⟨o,e⟩
  ·rw[fL.mp hc]; exact⟨o',e'⟩
 keep:=fun k h h' ⟨⟨o,e,r⟩,⟨o',e',r'⟩⟩ kp=>⟨⟨o,kp j dF o e,r⟩,⟨o',kp t (by simp) o' e',r'⟩⟩
 item:=fun A E s Q k x ⟨a,b⟩ hx q=>wpAny_nextOf_list_item a b hx fun h' a' sb=>q h' ⟨a',b.extBut sb.extBut ne⟩ sb
 done:=fun A E s Q k hh ⟨a,b⟩ hx q=>wpAny_nextOf_list_end hh a b hx q
structure ZApart (z TI TO i1 i2:aD)(o1 o2:List aD):Prop where
 TIz:TI≠z
 TOz:TO≠z
 TITO:TI≠TO
 TI1:TI≠i1
 TI2:TI≠i2
 i12:i1≠i2
 z1:z∉o1
 z2:z∉o2
 TO1:TO∉o1
 TO2:TO∉o2
 x12:i1∉o2
 x21:i2∉o1
variable {z TI TO i1 i2:aD}{o1 o2:List aD}{S1 S2:Nat->bG->Prop}{xs ys:Array aG}{k:Nat}
def ZAt (z TI TO i1 i2:aD)(S1 S2:Nat->bG->Prop)(f0:aG)(k:Nat)(h:bG):Prop:=
 pZ h z TI TO f0/\kP h TI (.ref i1) (.ref i2)/\(∃ a b,kP h TO a b)/\S1 k h/\S2 k h
theorem Sub.but {it c:aD}{own:List aD}{St:Nat->bG->Prop}{us:Array aG}{h h':bG}(U:Sub P w it own St us)(st:St k h)(hc:c∉own)(e:AG c h h'):St k h':=
 U.keep k h h' st fun b hb o g=>e b o (fun q=>hc (q ▸ hb)) g
theorem Qw {x y:aG}{Q:aG->aL->Prop}(D:ZApart z TI TO i1 i2 o1 o2)(U:Sub P w i1 o1 S1 xs)(V:Sub P w i2 o2 S2 ys)(st:ZAt z TI TO i1 i2 S1 S2 .none k s.heap)(hx:xs[k]?=some x)(hy:ys[k]?=some y)
  (q : ∀ h',ZAt z TI TO i1 i2 S1 S2 (iL s.heap.objs.size) (k+1) h'->kP h' s.heap.objs.size x y->h'.objs.size=s.heap.objs.size+1 ->
   (∀ c o,c≠z->c≠TO->c≠i1->c≠i2->s.heap.get? c=some o->h'.get? c=some o)->Q (.ref s.heap.objs.size) { s with heap:=h' }) :
  aO (bC P w) A (Builtin.«zip.__next__» ⟨[.ref z],[]⟩) (fun fin s'=>∃ v,fin = .done (.ret v)/\Q v s') E s:=by
 obtain⟨gz,gI,⟨a,b,gO⟩,st1,st2⟩:=st
 have z1:i1≠z:=fun e=>D.z1 (e ▸ U.mem)
 have z2:i2≠z:=fun e=>D.z2 (e ▸ V.mem)
 have t1:TO≠i1:=fun e=>D.TO1 (e ▸ U.mem)
 have t2:TO≠i2:=fun e=>D.TO2 (e ▸ V.mem)
 show aO _ _ (jU (.ref z) 2 >>= _) _ E s
 refine aJ (gK gz rfl (x:=.bool false) rfl ?_)
 show aO _ _ (jU (.ref z) 3 >>= _) _ E s
 refine aJ (gK gz rfl (x:=.ref TI) rfl (aJ (mP gI rfl ?_)))
 show aO _ _ (qE (.ref z) >>= _) _ E s
 refine aJ ?_
 unfold qE
 refine aJ (gK gz rfl (x:=.none) rfl (bE ?_))
 simp only[if_true]
 refine aJ (rJ (aJ (gK gz rfl (x:=.ref TO) rfl ?_)))
 refine aJ (nN gz (by simp) fun ha gza sa=>?_)
 replace gza:pZ ha z TI TO .ellipsis:=gza
 refine aJ ?_
 simp only[List.zipIdx_cons,List.zipIdx_nil,ED,KF]
 refine aJ (aJ (JB ?_))
 show aO _ _ (mG (.ref i1) >>= _) _ _ _
 refine aJ (U.item _ _ _ _ k x (U.but st1 D.z1 sa.extBut) hx fun hb st1b sb=>bE ?_)
 have gOb:kP hb TO a b:=sb.extBut _ _ t1 (sa.extBut _ _ D.TOz gO)
 refine aJ (mP gOb rfl (aJ (UI gOb fun hc gOc sc=>?_)))
 replace gOc:kP hc TO x b:=gOc
 refine aJ (JC (bE (aJ (aJ (JB ?_)))))
 show aO _ _ (mG (.ref i2) >>= _) _ _ _
 refine aJ (V.item _ _ _ _ k y (V.but (V.but (V.but st2 D.z2 sa.extBut) D.x12 sb.extBut) D.TO2 sc.extBut) hy fun hd st2d sd=>bE ?_)
 have gOd:kP hd TO x b:=sd.extBut _ _ t2 gOc
 refine aJ (mP gOd rfl (aJ (UI gOd fun he gOe se=>?_)))
 replace gOe:kP he TO x y:=gOe
 refine aJ (JC (bE (bE ?_)))
 refine aJ (mP gOe rfl (aJ (wpAny_newTuple ?_)))
 have size:he.objs.size=s.heap.objs.size:=by rw[se.1,sd.1,sc.1,sb.1,sa.1]
 have gze:pZ he z TI TO .ellipsis:=se.extBut _ _ D.TOz.symm (sd.extBut _ _ z2.symm (sc.extBut _ _ D.TOz.symm (sb.extBut _ _ z1.symm gza)))
 have old : ∀ c o,c≠z->c≠TO->c≠i1->c≠i2->s.heap.get? c=some o->he.get? c=some o:=fun c o n1 n2 n3 n4 g=>se.extBut _ _ n2 (sd.extBut _ _ n4 (sc.extBut _ _ n2 (sb.extBut _ _ n3 (sa.extBut _ _ n1 g))))
 have st1e:S1 (k+1) he:=U.but (U.but (U.but st1b D.TO1 sc.extBut) D.x21 sd.extBut) D.TO1 se.extBut
 have st2e:S2 (k+1) he:=V.but st2d D.TO2 se.extBut
 have zlt:z<he.objs.size:=cI gze
 show aO _ _ (KW (.ref z) (.ref he.objs.size) >>= _) _ _ _
 refine aJ ?_
 unfold KW
 have gzf:pZ (he.push { cls:=.type "tuple",data:=.seq #[x,y] }) z TI TO .ellipsis:=cY _ gze
 refine aJ (nN gzf (by simp) fun hg gzg sg=>?_)
 replace gzg:pZ hg z TI TO (iL he.objs.size):=gzg
 refine nN gzg (by simp) fun hi gzi si=>?_
 replace gzi:pZ hi z TI TO (iL he.objs.size):=gzi
 have up : ∀ c o,c≠z->he.get? c=some o->hi.get? c=some o:=fun c o n1 g=>si.extBut _ _ n1 (sg.extBut _ _ n1 (cY _ g))
 have gT:kP hi he.objs.size x y:=si.extBut _ _ (kN zlt) (sg.extBut _ _ (kN zlt) (eW _ rfl))
 have sz:hi.objs.size=he.objs.size+1:=by rw[si.1,sg.1,wO]
 have st1i:S1 (k+1) hi:=U.keep _ _ _ st1e fun c hc o g=>up c o (fun e=>D.z1 (e ▸ hc)) g
 have st2i:S2 (k+1) hi:=V.keep _ _ _ st2e fun c hc o g=>up c o (fun e=>D.z2 (e ▸ hc)) g
 rw[size] at gzi gT sz
 refine bE ⟨_,rfl,?_⟩
 show Q (.ref he.objs.size) _
 rw[size]
 exact q hi ⟨gzi,up _ _ D.TIz (old _ _ D.TIz D.TITO D.TI1 D.TI2 gI),⟨x,y,up _ _ D.TOz gOe⟩,st1i,st2i⟩ gT sz fun c o n1 n2 n3 n4 g=>up c o n1 (old c o n1 n2 n3 n4 g)
theorem Oy {Q:Fin->aL->Prop}(hh:A.handled=none)(D:ZApart z TI TO i1 i2 o1 o2)(U:Sub P w i1 o1 S1 xs)(V:Sub P w i2 o2 S2 ys)(st:ZAt z TI TO i1 i2 S1 S2 .none k s.heap)(hend:xs[k]?=none \/ ys[k]?=none)
  (q : ∀ h' e,(∀ c o,c≠z->c≠TO->c≠i1->c≠i2->s.heap.get? c=some o->h'.get? c=some o)->(∃ o,h'.get? e=some o/\o.cls = .type "StopIteration")->E (.ref e) { s with heap:=h' }) :
  aO (bC P w) A (Builtin.«zip.__next__» ⟨[.ref z],[]⟩) Q E s:=by
 obtain⟨gz,gI,⟨a,b,gO⟩,st1,st2⟩:=st
 have z1:i1≠z:=fun e=>D.z1 (e ▸ U.mem)
 have z2:i2≠z:=fun e=>D.z2 (e ▸ V.mem)
 have t1:TO≠i1:=fun e=>D.TO1 (e ▸ U.mem)
 show aO _ _ (jU (.ref z) 2 >>= _) _ E s
 refine aJ (gK gz rfl (x:=.bool false) rfl ?_)
 show aO _ _ (jU (.ref z) 3 >>= _) _ E s
 refine aJ (gK gz rfl (x:=.ref TI) rfl (aJ (mP gI rfl ?_)))
 show aO _ _ (qE (.ref z) >>= _) _ E s
 refine aJ ?_
 unfold qE
 refine aJ (gK gz rfl (x:=.none) rfl (bE ?_))
 simp only[if_true]
 refine aJ (rJ (aJ (gK gz rfl (x:=.ref TO) rfl ?_)))
 refine aJ (nN gz (by simp) fun ha gza sa=>?_)
 replace gza:pZ ha z TI TO .ellipsis:=gza
 refine aJ ?_
 simp only[List.zipIdx_cons,List.zipIdx_nil,ED,KF]
 refine aJ (aJ (JB ?_))
 show aO _ _ (mG (.ref i1) >>= _) _ _ _
 have far : ∀ {h':bG} {e:aD},pZ h' z TI TO .ellipsis->(∃ o,h'.get? e=some o/\o.cls = .type "StopIteration")->e≠z:=fun g ⟨o,g1,g2⟩ n=>by
  subst n
  rw[g] at g1
  cases g1
  simp at g2
 cases hx:xs[k]? with
 | none=>
  refine aJ (U.done _ _ _ _ k hh (U.but st1 D.z1 sa.extBut) hx fun hb e sb he=>?_)
  have gzb:pZ hb z TI TO .ellipsis:=sb _ _ z1.symm gza
  have ne:=far gzb he
  obtain⟨o,g1,g2⟩:=he
  exact nN gzb (by simp) fun hc _ sc=>q hc e (fun c o n1 _ n3 _ g=>sc.extBut _ _ n1 (sb _ _ n3 (sa.extBut _ _ n1 g))) ⟨o,sc.extBut _ _ ne g1,g2⟩
 | some x=>
  have hy:ys[k]?=none:=hend.resolve_left fun h=>by rw[hx] at h; cases h
  refine aJ (U.item _ _ _ _ k x (U.but st1 D.z1 sa.extBut) hx fun hb st1b sb=>bE ?_)
  have gOb:kP hb TO a b:=sb.extBut _ _ t1 (sa.extBut _ _ D.TOz gO)
  refine aJ (mP gOb rfl (aJ (UI gOb fun hc gOc sc=>?_)))
  refine aJ (JC (bE (aJ (aJ (JB ?_)))))
  show aO _ _ (mG (.ref i2) >>= _) _ _ _
  refine aJ (V.done _ _ _ _ k hh (V.but (V.but (V.but st2 D.z2 sa.extBut) D.x12 sb.extBut) D.TO2 sc.extBut) hy fun hd e sd he=>?_)
  have gzd:pZ hd z TI TO .ellipsis:=sd _ _ z2.symm (sc.extBut _ _ D.TOz.symm (sb.extBut _ _ z1.symm gza))
  have ne:=far gzd he
  obtain⟨o,g1,g2⟩:=he
  exact nN gzd (by simp) fun hf _ sf=>q hf e (fun c o n1 n2 n3 n4 g=>sf.extBut _ _ n1 (sd _ _ n4 (sc.extBut _ _ n2 (sb.extBut _ _ n3 (sa.extBut _ _ n1 g))))) ⟨o,sf.extBut _ _ ne g1,g2⟩
theorem Qt {x y:aG}{Q:Option aG->aL->Prop}(D:ZApart z TI TO i1 i2 o1 o2)(U:Sub P w i1 o1 S1 xs)(V:Sub P w i2 o2 S2 ys)(st:ZAt z TI TO i1 i2 S1 S2 .none k s.heap)(hx:xs[k]?=some x)(hy:ys[k]?=some y)
  (q : ∀ h',ZAt z TI TO i1 i2 S1 S2 (iL s.heap.objs.size) (k+1) h'->kP h' s.heap.objs.size x y->h'.objs.size=s.heap.objs.size+1 ->
   (∀ c o,c≠z->c≠TO->c≠i1->c≠i2->s.heap.get? c=some o->h'.get? c=some o)->Q (some (.ref s.heap.objs.size)) { s with heap:=h' }):aO (bC P w) A (hU (.ref z)) Q E s:=by
 have ty:s.TypeIs (.ref z) "zip":=⟨_,st.1,rfl⟩
 unfold hU
 exact aJ (tM (nQ (name:=nV "__next__") ty tX (kK tX ty KQ (Qw D U V st hx hy fun h' a1 a2 a3 a4=>bE (q h' a1 a2 a3 a4)) (KR _))))
theorem Of {Q:Option aG->aL->Prop}(hh:A.handled=none)(D:ZApart z TI TO i1 i2 o1 o2)(U:Sub P w i1 o1 S1 xs)(V:Sub P w i2 o2 S2 ys)(st:ZAt z TI TO i1 i2 S1 S2 .none k s.heap)(hend:xs[k]?=none \/ ys[k]?=none)
  (q : ∀ h',(∀ c o,c≠z->c≠TO->c≠i1->c≠i2->s.heap.get? c=some o->h'.get? c=some o)->Q none { s with heap:=h' }):aO (bC P w) A (hU (.ref z)) Q E s:=by
 have ty:s.TypeIs (.ref z) "zip":=⟨_,st.1,rfl⟩
 unfold hU
 refine aJ (tM (nQ (name:=nV "__next__") ty tX (kK tX ty KQ (Oy hh D U V st hend fun h' e kp ⟨o,g1,g2⟩=>?_) (KR _))))
 exact aJ (zT (T:="StopIteration") (b:=true) ⟨o,g1,g2⟩ JI (bE (q _ kp)))
end
def SqB (b:Bool)(h:bG)(l:aD)(us:Array aG):Prop:=match b with
 | true=>h.IsList l us
 | false=>h.IsTuple l us
noncomputable def itB (b:Bool)(l:aD):bP:={ cls:=.type (match b with | true=>"list_iterator" | false=>"tuple_iterator"),data:=.fields #[.ref l,.int 0 0] }
def StB (b:Bool)(j l:aD)(us:Array aG)(k:Nat)(h:bG):Prop:=match b with
 | true=>h.IsListIter j l k/\h.IsList l us
 | false=>h.IsTupleIter j l k/\h.IsTuple l us
theorem DB {P:cL}{w:cA}(b:Bool)(j l:aD)(us:Array aG)(ne:l≠j):Sub P w j [j,l] (StB b j l us) us:=by
 cases b with
 | true=>exact Qg j l us ne
 | false=>exact Nf j l us ne
theorem SqB.keep {b:Bool}{h h':bG}{l:aD}{us:Array aG}(q:SqB b h l us)(k : ∀ o,h.get? l=some o->h'.get? l=some o):SqB b h' l us:=by
 cases b with
 | true=>
  obtain⟨o,e,r⟩:=q
  exact⟨o,k o e,r⟩
 | false=>
  obtain⟨o,e,r⟩:=q
  exact⟨o,k o e,r⟩
theorem StB.new {b:Bool}{h:bG}{l j:aD}{us:Array aG}(q:SqB b h l us)(e:h.get? j=some (itB b l)):StB b j l us 0 h:=by
 cases b with
 | true=>exact⟨⟨_,e,rfl,rfl⟩,q⟩
 | false=>exact⟨⟨_,e,rfl,rfl⟩,q⟩
section
variable {P:cL}{w:cA}{A:eD}{E:aG->aL->Prop}{s:aL}{b1 b2:Bool}{l1 l2:aD}{xs ys:Array aG}
theorem xF {b:Bool}{l:aD}{us:Array aG}{Q:aG->aL->Prop}(h:SqB b s.heap l us)(q:Q (.ref s.heap.objs.size) { s with heap:=s.heap.push (itB b l) }):aO (bC P w) A (tP (.ref l)) Q E s:=by
 cases b with
 | true=>exact zS h q
 | false=>exact wpAny_pyIter_tuple h q
noncomputable abbrev zA (b1:Bool)(h:bG)(l1:aD):bG:=h.push (itB b1 l1)
noncomputable abbrev zB (b1 b2:Bool)(h:bG)(l1 l2:aD):bG:=(zA b1 h l1).push (itB b2 l2)
noncomputable abbrev zC (b1 b2:Bool)(h:bG)(l1 l2:aD):bG:=(zB b1 b2 h l1 l2).push { cls:=.type "tuple",data:=.seq #[.ref h.objs.size,.ref (zA b1 h l1).objs.size] }
noncomputable abbrev zD (b1 b2:Bool)(h:bG)(l1 l2:aD):bG:=(zC b1 b2 h l1 l2).push { cls:=.type "tuple",data:=.seq #[.none,.none] }
noncomputable abbrev zE (b1 b2:Bool)(h:bG)(l1 l2:aD):bG:=(zD b1 b2 h l1 l2).push { cls:=.type "zip",data:=.fields #[.none,.bool false,.bool false,.ref (zB b1 b2 h l1 l2).objs.size,.ref (zC b1 b2 h l1 l2).objs.size] }
theorem Pa (b1 b2:Bool)(l1 l2:aD)(xs ys:Array aG) :
  Meets (Builtin.«zip.__new__» ⟨[.type "zip",.ref l1,.ref l2],[]⟩) (fun _ R s=>SqB b1 s.heap l1 xs/\SqB b2 s.heap l2 ys /\
   R (.ok (.ret (.ref (zD b1 b2 s.heap l1 l2).objs.size))) { s with heap:=zE b1 b2 s.heap l1 l2 }):=
 .of_wp fun prog w A R s h=>by
  obtain⟨hp,g,d,tk,os⟩:=s
  obtain⟨q1,q2,q⟩:=h
  have sz:=sub_zip
  have u1:SqB b1 (JQ ⟨hp,g,d,tk,os⟩) l1 xs:=q1
  have u2:SqB b2 (JQ ⟨hp.push (itB b1 l1),g,d,tk,os⟩) l2 ys:=q2.keep fun o e=>cY _ e
  wp_walk using xF u1,xF u2
  exact⟨_,rfl,q⟩
theorem Ew {n l1 l2:Nat}(h1:l1<n)(h2:l2<n):ZApart (n+4) (n+2) (n+3) n (n+1) [n,l1] [n+1,l2]:=by
 have two : ∀ {a b c:Nat},a≠b->a≠c->a∉[b,c]:=fun h h' m=>by
  rcases fG.mp m with m | m
  ·exact h m
  ·exact h' (fL.mp m)
 have ne : ∀ {a b:Nat},a<b->a≠b:=fC
 have en : ∀ {a b:Nat},b<a->a≠b:=kN
 exact⟨ne (by omega),ne (by omega),ne (by omega),en (by omega),en (by omega),ne (by omega),two (en (by omega)) (en (by omega)),two (en (by omega)) (en (by omega)),two (en (by omega)) (en (by omega)),two (en (by omega)) (en (by omega)),two (ne (by omega)) (en h2),two (en (by omega)) (en (by omega))⟩
theorem Ov {Q:aG->aL->Prop}(h1:SqB b1 s.heap l1 xs)(h2:SqB b2 s.heap l2 ys)
  (q : ∀ (z TI TO i1 i2:aD) (h':bG),s.heap.objs.size≤z->s.heap.objs.size≤TI->s.heap.objs.size≤TO->s.heap.objs.size≤i1->s.heap.objs.size≤i2->ZApart z TI TO i1 i2 [i1,l1] [i2,l2]->ZAt z TI TO i1 i2 (StB b1 i1 l1 xs) (StB b2 i2 l2 ys) .none 0 h' ->
   (∀ c o,s.heap.get? c=some o->h'.get? c=some o)->Q (.ref z) { s with heap:=h' }):aO (bC P w) A (call (.type "zip") [.ref l1,.ref l2]) Q E s:=by
 refine callType_new F.called_zip (by decide) (F.typeCall_zip_2 _ _) (F.newCall_zip_2 _ _) (fun obj=>F.args_object_init_3 obj _ _) F.entry_zip_new (Pa b1 b2 l1 l2 xs ys) ⟨h1,h2,?_⟩
 have za:(zA b1 s.heap l1).objs.size=s.heap.objs.size+1:=wO ..
 have zb:(zB b1 b2 s.heap l1 l2).objs.size=s.heap.objs.size+2:=by rw[wO,za]
 have zc:(zC b1 b2 s.heap l1 l2).objs.size=s.heap.objs.size+3:=by rw[wO,zb]
 have zd:(zD b1 b2 s.heap l1 l2).objs.size=s.heap.objs.size+4:=by rw[wO,zc]
 have g5:(zE b1 b2 s.heap l1 l2).get? (zD b1 b2 s.heap l1 l2).objs.size=some _:=eW _ rfl
 have g4:(zE b1 b2 s.heap l1 l2).get? (zC b1 b2 s.heap l1 l2).objs.size=some _:=cY _ (eW _ rfl)
 have g3:(zE b1 b2 s.heap l1 l2).get? (zB b1 b2 s.heap l1 l2).objs.size=some _:=cY _ (cY _ (eW _ rfl))
 have g2:(zE b1 b2 s.heap l1 l2).get? (zA b1 s.heap l1).objs.size=some (itB b2 l2):=cY _ (cY _ (cY _ (eW _ (by cases b2 <;> rfl))))
 have g1:(zE b1 b2 s.heap l1 l2).get? s.heap.objs.size=some (itB b1 l1):=cY _ (cY _ (cY _ (cY _ (eW _ (by cases b1 <;> rfl)))))
 have all : ∀ c o,s.heap.get? c=some o->(zE b1 b2 s.heap l1 l2).get? c=some o:=fun c o x=>cY _ (cY _ (cY _ (cY _ (cY _ x))))
 have lt1:l1<s.heap.objs.size:=by
  cases b1 with
  | true=>obtain⟨o,e,_⟩:=h1; exact cI e
  | false=>obtain⟨o,e,_⟩:=h1; exact cI e
 have lt2:l2<s.heap.objs.size:=by
  cases b2 with
  | true=>obtain⟨o,e,_⟩:=h2; exact cI e
  | false=>obtain⟨o,e,_⟩:=h2; exact cI e
 refine⟨⟨_,g5,rfl⟩,q _ (zB b1 b2 s.heap l1 l2).objs.size (zC b1 b2 s.heap l1 l2).objs.size s.heap.objs.size (zA b1 s.heap l1).objs.size _ (by omega) (by omega) (by omega) (by omega) (by omega) ?_ ⟨g5,g3,⟨_,_,g4⟩,StB.new (h1.keep (all l1)) g1,StB.new (h2.keep (all l2)) g2⟩ all⟩
 have ap:=Ew lt1 lt2
 rw[← za,← zb,← zc,← zd] at ap
 exact ap
end
def ItB (b:Bool)(j l:aD)(k:Nat)(h:bG):Prop:=match b with
 | true=>h.IsListIter j l k
 | false=>h.IsTupleIter j l k
theorem Ao4 {b:Bool}{j l:aD}{us:Array aG}{k:Nat}{h:bG}:StB b j l us k h↔ItB b j l k h/\SqB b h l us:=by cases b <;> exact Iff.rfl
theorem ItB.get {b:Bool}{j l:aD}{k:Nat}{h:bG}(q:ItB b j l k h) : ∃ o,h.get? j=some o /\ ∀ v,o.data ≠ .cell v:=by
 cases b with
 | true=>
  obtain⟨o,e,_,d⟩:=q
  exact⟨o,e,fun v z=>by rw[d] at z; cases z⟩
 | false=>
  obtain⟨o,e,_,d⟩:=q
  exact⟨o,e,fun v z=>by rw[d] at z; cases z⟩
theorem ItB.keep {b:Bool}{j l:aD}{k:Nat}{h h':bG}(q:ItB b j l k h)(kp : ∀ o,h.get? j=some o->h'.get? j=some o):ItB b j l k h':=by
 cases b with
 | true=>
  obtain⟨o,e,r⟩:=q
  exact⟨o,kp o e,r⟩
 | false=>
  obtain⟨o,e,r⟩:=q
  exact⟨o,kp o e,r⟩
def SqV (b:Bool)(K:aP)(H:Hp)(a:aD)(xs:List V):Prop:=match b with
 | true=>SqL K H a xs
 | false=>SqT K H a xs
section
variable {X:Cx}{pins:List (aD×bP)}{σ:St}{H:Hp}{s:aL}
theorem Inv.sqB {b:Bool}{a:aD}{xs:List V}(I:Inv X pins σ H s)(h:SqV b X.K H a xs) : ∃ its:List aG,Vals xs its/\SqB b s.heap a its.toArray:=by
 cases b with
 | true=>
  obtain⟨its,rv,p,_⟩:=I.list h
  exact⟨its,rv,p.isList⟩
 | false=>
  obtain⟨its,rv,p,_⟩:=I.tuple h
  exact⟨its,rv,p⟩
theorem Inv.sqV_inj {b:Bool}{a:aD}{xs ys:List V}(I:Inv X pins σ H s)(h:SqV b X.K H a xs)(h':SqV b X.K H a ys):xs=ys:=by
 cases b with
 | true=>exact I.list_inj h h'
 | false=>exact I.tuple_inj h h'
theorem Inv.turnM {t':Nat}{fp:List aD}{h':bG}(I:Inv X pins σ H s)(hf : ∀ b∈fp,jZ X pins H b)(k : ∀ b o,b∉fp->s.heap.get? b=some o->h'.get? b=some o):Inv X pins σ H { s with heap:=h',toks:=t' }:=by
 have out : ∀ b u,H b=some u->b∉fp:=fun b u e m=>by
  rw[(hf b m).1] at e
  cases e
 have loc:X.env.locals∉fp:=fun m=>(hf _ m).2.1 rfl
 refine I.step (g':=s.gens) (d':=s.drawn) (ch:=fp) (fun b m=>⟨(hf b m).2.2.2.1,(hf b m).2.1,(hf b m).2.2.2.2.1,(hf b m).2.2.2.2.2⟩) (fun b o _ _ n e _=>k b o n e) (fun b o _ _ n e _=>⟨o.slots,k b o n e⟩) (fun _ _ _ _ n=>n)
  (fun b o n e=>⟨o,k b o n e⟩) (fun _ _ e=>e) (fun _ _ _ e=>e) (fun b ps e=>⟨#[],by rw[e]; simp⟩) (fun m hm=>?_) (fun b u e=>?_) I.bare
 ·obtain⟨o,es,ep,ho,r⟩:=hm
  exact⟨o,es,ep,k _ o loc ho,r⟩
 ·refine(I.hok b u e).stay (fun c v hc q=>k c v ?_ q) (fun _ q=>q) fun _ _ q=>q
  rcases hc with z | z
  ·rw[z]; exact out b u e
  ·exact out c _ z
end
section
variable {X:Cx}{a b:bA}{p pos tpos:cD}{es:List bA}{cx:Nat}
noncomputable def oY:aA->Option (List aA)
 | .list ds=>some ds
 | .tuple ds=>some ds
 | _=>none
theorem HI {K:aP}{B:Hp}{d:aA}{v:V}{ds:List aA}(e:oY d=some ds)(r:Acb K B d v) : ∃ a b xs,v = .ref a/\(∀ H2,Ext B H2->SqV b K H2 a xs)/\Aaz K B ds xs:=by
 cases d with
 | list es=>
  cases e
  obtain⟨a,xs,rfl,h,rr⟩:=Abx.mp r
  exact⟨a,true,xs,rfl,fun H2 x2=>x2.sqL h,rr⟩
 | tuple es=>
  cases e
  obtain⟨a,xs,rfl,h,rr⟩:=Aax.mp r
  exact⟨a,false,xs,rfl,fun H2 x2=>SqT.of (x2 _ _ h),rr⟩
 | _=>cases e
end
section
variable {P:cL}{w:cA}{A:eD}{E:aG->aL->Prop}{s:aL}{e j:aD}{own:List aD}{S:Nat->bG->Prop}{xs:Array aG}{k:Nat}{x old:aG}
theorem Ek {Q:aG->aL->Prop}(U:Sub P w j own S xs)(ne:e∉own)(ge:qB s.heap e j (k:Int) old)(st:S k s.heap)(hx:xs[k]?=some x)
  (q : ∀ h',IsEnumOut h' e j ((k+1:Nat):Int) x s.heap.objs.size->S (k+1) h'->kP h' s.heap.objs.size (.int k s.toks) x->h'.objs.size=s.heap.objs.size+1 ->
   (∀ c o,c≠e->c≠j->s.heap.get? c=some o->h'.get? c=some o)->Q (.ref s.heap.objs.size) { s with heap:=h',toks:=s.toks+1 }) :
  aO (bC P w) A (Builtin.«enumerate.__next__» ⟨[.ref e],[]⟩) (fun fin s'=>∃ v,fin = .done (.ret v)/\Q v s') E s:=by
 have nj:e≠j:=fun h=>ne (h ▸ U.mem)
 show aO _ _ (jU (.ref e) 2 >>= _) _ E s
 refine aJ (gK ge rfl (x:=.ref j) rfl (aJ (U.item _ _ _ _ k x st hx fun ha sta sa=>?_)))
 have gea:qB ha e j (k:Int) old:=sa.extBut _ _ nj ge
 show aO _ _ (jU (.ref e) 3 >>= _) _ E _
 refine aJ (gK gea rfl (x:=iL k) rfl ?_)
 show aO _ _ (jU (.ref e) 4 >>= _) _ E _
 refine aJ (gK gea rfl (x:=.none) rfl ?_)
 show aO _ _ (mkInt k >>= _) _ E _
 refine aJ (wpAny_mkInt ?_)
 show aO _ _ (setField (.ref e) 3 (iL ((k:Int)+1)) >>= _) _ E _
 refine aJ (nN gea (by simp) fun hb geb sb=>?_)
 replace geb:qB hb e j ((k+1:Nat):Int) old:=geb
 show aO _ _ (setField (.ref e) 4 .none >>= _) _ E _
 refine aJ (nN geb (by simp) fun hc gec sc=>?_)
 replace gec:qB hc e j ((k+1:Nat):Int) old:=gec
 show aO _ _ (newTuple [.int k s.toks,x] >>= _) _ E _
 refine aJ (wpAny_newTuple ?_)
 have size:hc.objs.size=s.heap.objs.size:=by rw[sc.1,sb.1,sa.1]
 have lt:e<hc.objs.size:=cI gec
 have old' : ∀ c o,c≠e->c≠j->s.heap.get? c=some o->hc.get? c=some o:=fun c o n1 n2 g=>sc.extBut _ _ n1 (sb.extBut _ _ n1 (sa.extBut _ _ n2 g))
 have stc:S (k+1) hc:=U.but (U.but sta ne sb.extBut) ne sc.extBut
 have ged:qB (hc.push { cls:=.type "tuple",data:=.seq #[.int k s.toks,x] }) e j ((k+1:Nat):Int) old:=cY _ gec
 show aO _ _ (qE (.ref e) >>= _) _ E _
 refine aJ ?_
 unfold qE
 refine aJ (gK ged rfl (x:=.none) rfl (bE ?_))
 simp only[if_true]
 refine aJ (rJ (aJ (gK ged rfl (x:=old) rfl (aJ (nN ged (by simp) fun he gee se=>?_)))))
 replace gee:qB he e j ((k+1:Nat):Int) x:=gee
 show aO _ _ (KW (.ref e) (.ref hc.objs.size) >>= _) _ E _
 refine aJ ?_
 unfold KW
 refine aJ (nN gee (by simp) fun hf gef sf=>?_)
 replace gef:IsEnumOut hf e j ((k+1:Nat):Int) x hc.objs.size:=gef
 refine nN gef (by simp) fun hg geg sg=>?_
 replace geg:IsEnumOut hg e j ((k+1:Nat):Int) x hc.objs.size:=geg
 have up : ∀ c o,c≠e->(hc.push { cls:=.type "tuple",data:=.seq #[.int k s.toks,x] }).get? c=some o->hg.get? c=some o:=fun c o n g=>sg.extBut _ _ n (sf.extBut _ _ n (se.extBut _ _ n g))
 have sz:hg.objs.size=hc.objs.size+1:=by rw[sg.1,sf.1,se.1,wO]
 have pr:kP hg hc.objs.size (.int k s.toks) x:=up _ _ (kN lt) (eW _ rfl)
 have stg:S (k+1) hg:=U.keep _ _ _ stc fun c m o g=>up c o (fun h=>ne (h ▸ m)) (cY _ g)
 refine aJ (JC (bE ⟨_,rfl,?_⟩))
 rw[size] at geg pr sz ⊢
 exact q hg geg stg pr sz fun c o n1 n2 g=>up c o n1 (cY _ (old' c o n1 n2 g))
theorem Rz {Q:Option aG->aL->Prop}(U:Sub P w j own S xs)(ne:e∉own)(ge:qB s.heap e j (k:Int) old)(st:S k s.heap)(hx:xs[k]?=some x)
  (q : ∀ h',IsEnumOut h' e j ((k+1:Nat):Int) x s.heap.objs.size->S (k+1) h'->kP h' s.heap.objs.size (.int k s.toks) x->h'.objs.size=s.heap.objs.size+1 ->
   (∀ c o,c≠e->c≠j->s.heap.get? c=some o->h'.get? c=some o)->Q (some (.ref s.heap.objs.size)) { s with heap:=h',toks:=s.toks+1 }):aO (bC P w) A (hU (.ref e)) Q E s:=by
 have ty:s.TypeIs (.ref e) "enumerate":=⟨_,ge,rfl⟩
 unfold hU
 exact aJ (tM (nQ (name:=nV "__next__") ty KO (kK KO ty F.entry_enumerate_next (Ek U ne ge st hx fun h' a1 a2 a3 a4 a5=>bE (q h' a1 a2 a3 a4 a5)) (F.args_enumerate_next_1 _))))
theorem Fc {Q:Option aG->aL->Prop}(hh:A.handled=none)(U:Sub P w j own S xs)(ge:qB s.heap e j (k:Int) old)(st:S k s.heap)(hx:xs[k]?=none)
  (q : ∀ h',AG j s.heap h'->Q none { s with heap:=h' }):aO (bC P w) A (hU (.ref e)) Q E s:=by
 have ty:s.TypeIs (.ref e) "enumerate":=⟨_,ge,rfl⟩
 unfold hU
 refine aJ (tM (nQ (name:=nV "__next__") ty KO (kK KO ty F.entry_enumerate_next ?_ (F.args_enumerate_next_1 _))))
 show aO _ _ (jU (.ref e) 2 >>= _) _ _ _
 refine aJ (gK ge rfl (x:=.ref j) rfl (aJ (U.done _ _ _ _ k hh st hx fun h' a kp gh=>?_)))
 obtain⟨o,g1,g2⟩:=gh
 exact aJ (zT (T:="StopIteration") (b:=true) ⟨o,g1,g2⟩ JI (bE (q _ kp)))
theorem Rp (b:Bool)(l:aD)(us:Array aG) :
  Meets (Builtin.«enumerate.__new__» ⟨[.type "enumerate",.ref l],[]⟩) (fun _ R s=>SqB b s.heap l us /\
   R (.ok (.ret (.ref (s.heap.push (itB b l)).objs.size))) { s with heap:=(s.heap.push (itB b l)).push { cls:=.type "enumerate",data:=.fields #[.none,.bool false,.ref s.heap.objs.size,iL 0,.none,.none] } }):=
 .of_wp fun prog w A R s h=>by
  obtain⟨hp,g,d,tk,os⟩:=s
  obtain⟨q1,q⟩:=h
  have sz:=sub_enumerate
  have u1:SqB b (JQ ⟨hp,g,d,tk,os⟩) l us:=q1
  wp_walk
  refine wpAny_stack_any fun st=>bE ?_
  split
  ·rename_i c _ _ _ _ _
   cases(c == iM "enumerate")
   ·wp_walk using xF u1
    exact⟨_,rfl,q⟩
   ·wp_walk using xF u1
    exact⟨_,rfl,q⟩
  ·wp_walk using xF u1
   exact⟨_,rfl,q⟩
theorem Eh {b:Bool}{l:aD}{us:Array aG}{Q:aG->aL->Prop}(h1:SqB b s.heap l us)
  (q : ∀ (e j:aD) (h':bG),s.heap.objs.size≤e->s.heap.objs.size≤j->e∉[j,l]->l≠j->qB h' e j ((0:Nat):Int) .none->StB b j l us 0 h'->(∀ c o,s.heap.get? c=some o->h'.get? c=some o)->Q (.ref e) { s with heap:=h' }) :
  aO (bC P w) A (call (.type "enumerate") [.ref l]) Q E s:=by
 refine callType_new F.called_enumerate (by decide) (F.typeCall_enumerate_1 _) (F.newCall_enumerate_1 _) (fun obj=>F.args_object_init_2 obj _) F.entry_enumerate_new (Rp b l us) ⟨h1,?_⟩
 have z1:(s.heap.push (itB b l)).objs.size=s.heap.objs.size+1:=wO ..
 have lt:l<s.heap.objs.size:=by
  cases b with
  | true=>obtain⟨o,e,_⟩:=h1; exact cI e
  | false=>obtain⟨o,e,_⟩:=h1; exact cI e
 have all : ∀ c o,s.heap.get? c=some o->((s.heap.push (itB b l)).push { cls:=.type "enumerate",data:=.fields #[.none,.bool false,.ref s.heap.objs.size,iL 0,.none,.none] }).get? c=some o:=fun c o x=>cY _ (cY _ x)
 have g2:((s.heap.push (itB b l)).push { cls:=.type "enumerate",data:=.fields #[.none,.bool false,.ref s.heap.objs.size,iL 0,.none,.none] }).get? (s.heap.push (itB b l)).objs.size=some _:=eW _ rfl
 have g1:((s.heap.push (itB b l)).push { cls:=.type "enumerate",data:=.fields #[.none,.bool false,.ref s.heap.objs.size,iL 0,.none,.none] }).get? s.heap.objs.size=some (itB b l):=cY _ (eW _ (by cases b <;> rfl))
 refine⟨⟨_,g2,rfl⟩,q _ s.heap.objs.size _ (by omega) (dA _) (fun m=>?_) (fC lt) g2 (StB.new (h1.keep (all l)) g1) all⟩
 rw[z1] at m
 rcases fG.mp m with m | m
 ·exact Nat.succ_ne_self _ m
 ·rw[← fL.mp m] at lt
  exact Nat.not_succ_le_self _ (DX lt)
end
noncomputable def EK (K:aP)(b:Bool)(a:aD):It:=
  ⟨fun i H=>∃ xs x,SqV b K H a xs/\xs[i]?=some x,
   fun i H v H'=>∃ T x,H T=none/\v = .ref T/\(∀ xs,SqV b K H a xs->xs[i]?=some x)/\H'=upd H T (.tup [.int i,x]),
   fun i H=>∃ xs,SqV b K H a xs/\xs.length≤i⟩
def tnE (b:Bool)(a e j:aD)(i:Nat)(h:bG):Prop:=(∃ old,qB h e j (i:Int) old)/\ItB b j a i h
theorem Ez {P:cL}{w:cA}{K:aP}{es:List bA}{cx}{pos:cD}{b:Bool}{a e j:aD}(D:e∉[j,a])(n1:a≠j) :
  Turn P w K (.Tuple es cx pos) (EK K b a) [e,j] e (tnE b a e j) where
 mem:=by simp
 obj:=fun i h ⟨⟨old,g1⟩,g2⟩ c hc=>by
  simp only[fG,wJ,or_false] at hc
  rcases hc with rfl | rfl
  ·exact⟨_,g1,fun v q=>by cases q⟩
  ·exact g2.get
 keep:=fun i h h' ⟨⟨old,g1⟩,g2⟩ k=>⟨⟨old,k e (by simp) _ g1⟩,g2.keep (k j (by simp))⟩
 item:=by
  intro X hP hw hK hc i pins s σ H E I hf st hg
  subst hP hw hK
  obtain⟨xs,x,q1,hx⟩:=hg
  obtain⟨us,r1,s1⟩:=I.sqB q1
  obtain⟨u,hu,ru⟩:=r1.get hx
  obtain⟨⟨old,g1⟩,g2⟩:=st
  have young : ∀ b∈[e,j],b<s.heap.objs.size:=fun b m=>by
   simp only[fG,wJ,or_false] at m
   rcases m with rfl | rfl
   ·exact cI g1
   ·obtain⟨o,e,_⟩:=g2.get; exact cI e
  refine Rz (DB b j a us.toArray n1) D g1 (Ao4.mpr ⟨g2,s1⟩) (x:=u) (by simpa using hu) fun h' eo sj pr sz keep=>?_
  have fr:H s.heap.objs.size=none:=I.hok.fresh (dA _)
  have I0:Inv X pins σ (upd H s.heap.objs.size (.tup [.int i,x])) { s with heap:=s.heap.push { cls:=.type "tuple",data:=.seq #[.int i s.toks,u] },toks:=s.toks+1 }:=
   I.laid (t':=s.toks+1) (o:=.tup [.int i,x]) (fun b ob q=>cY _ q) (dA _) ⟨by show 2≤sizeLine; decide,[.int i s.toks,u],.cons ⟨_,rfl⟩ (.cons ru .nil),A5l.new _ _⟩
  have hf' : ∀ b∈[e,j],jZ X pins (upd H s.heap.objs.size (.tup [.int i,x])) b:=fun b m=>⟨by rw[fH (fC (young b m))]; exact(hf b m).1,(hf b m).2⟩
  have I1:Inv X pins σ (upd H s.heap.objs.size (.tup [.int i,x])) { s with heap:=h',toks:=s.toks+1 }:=I0.turnM (t':=s.toks+1) hf' fun b o n g=>by
   simp only[fG,wJ,or_false,not_or] at n
   by_cases hb:b=s.heap.objs.size
   ·subst hb
    have e':(s.heap.push { cls:=.type "tuple",data:=.seq #[.int i s.toks,u] }).get? s.heap.objs.size=some { cls:=.type "tuple",data:=.seq #[.int i s.toks,u] }:=eW _ rfl
    have:some o=some _:=g.symm.trans e'
    rw[this]
    exact pr
   ·exact keep b o n.1 n.2 ((Heap.get?_push_ne _ _ _ hb).symm.trans g)
  have nj:j≠e:=fun h=>D (h ▸ dF)
  refine⟨_,rfl,wpAny_letOwnedTupleGo_enum eo fun h2 ge sb=>?_⟩
  have I2:Inv X pins σ (upd H s.heap.objs.size (.tup [.int i,x])) { s with heap:=h2,toks:=s.toks+1 }:=I1.turnM (t':=s.toks+1) hf' fun b o n g=>sb.extBut b o (fun q=>n (by simp[q])) g
  exact⟨.ref s.heap.objs.size,_,I2,rfl,⟨_,x,fr,rfl,fun xs' h=>by rw[I.sqV_inj h q1]; exact hx,rfl⟩,⟨⟨_,ge⟩,(Ao4.mp sj).1.keep fun o g=>sb.extBut _ _ nj g⟩,fun b m=>(hf' b m).1⟩
 done:=by
  intro X hP hw hK hc i pins s σ H E I hf st hg
  subst hP hw hK
  obtain⟨xs,q1,hl⟩:=hg
  obtain⟨us,r1,s1⟩:=I.sqB q1
  obtain⟨⟨old,g1⟩,g2⟩:=st
  have l1:=r1.length
  refine Fc (I.ok.hd hc) (DB b j a us.toArray n1) g1 (Ao4.mpr ⟨g2,s1⟩) (by simp; omega) fun h' kp=>⟨rfl,I.turnM (t':=s.toks) hf fun b o n g=>?_⟩
  simp only[fG,wJ,or_false,not_or] at n
  exact kp b o n.2 g
 self:=fun _ _ _ _ _ st h=>by
  obtain⟨⟨old,g1⟩,_⟩:=st
  exact wpAny_pyIter_enum g1 h
section
variable {X:Cx}{a:bA}{p pos tpos:cD}{es:List bA}{cx:Nat}
noncomputable def YB (K:aP)(ta:TA):TI:=fun σ H R=>ta σ H fun vs H1=>∃ a1 b1 xs,vs=[.ref a1]/\SqV b1 K H1 a1 xs/\R (EK K b1 a1) H1
theorem Mb {ta:TA}(hg:Gl X "enumerate")(hm:X.mg "enumerate" = none)(ha:PA X [a] ta)(hs:bL [a] X.env=[(false,bX a X.env)]:=by rfl) :
  PI X (.Tuple es cx tpos) (.Call (.Name "enumerate" p) [a] [] pos) (YB X.K ta):=by
 intro pins s σ H R I h
 refine Call_ (qJ I hg hm boot_enumerate (zX (thn (ha pos pins s σ H _ I h) fun us s1 ⟨vs,H1,I1,r1,q1⟩=>?_) hs (by rfl)))
 obtain⟨a1,b1,xs,rfl,k1,q⟩:=q1
 obtain⟨u,rfl,ru⟩:=vals1 r1
 cases ru
 obtain⟨u1,_,w1⟩:=I1.sqB k1
 refine Eh w1 fun e j h' y0 y1 D n1 ge sj all=>wpAny_pyIter_enum ge ?_
 refine⟨e,[e,j],_,_,H1,rfl,I1.kept (t':=s1.toks) all,Ez D n1,⟨⟨_,ge⟩,(Ao4.mp sj).1⟩,fun b m=>?_,q⟩
 have le:s1.heap.objs.size≤b:=by
  simp only[fG,wJ,or_false] at m
  rcases m with rfl | rfl <;> assumption
 exact I1.fpOk le (I1.hok.fresh le)
noncomputable def lJ (i:Nat)(x:aA):aA:=.tuple [.int i,x]
noncomputable def iEn (fa:AF):AF:=fun ρ=>(fa ρ).bind fun ds=>match ds with
 | [x]=>(oY x).bind fun xs=>some (xs.mapIdx lJ)
 | _=>none
theorem Qe {K:aP}{B:Hp}{b1:Bool}{a1:aD}{xs:List V}{ds:List aA}(h1 : ∀ H2,Ext B H2->SqV b1 K H2 a1 xs)(r1:Aaz K B ds xs):ItD K B (EK K b1 a1) (ds.mapIdx lJ):=fun i H2 x2=>by
 refine⟨fun d hd=>?_,fun e=>⟨xs,h1 H2 x2,?_⟩⟩
 ·rw[List.getElem?_mapIdx] at hd
  cases c1:ds[i]? with
  | none=>rw[c1] at hd; simp at hd
  | some d1=>
   rw[c1] at hd
   have hd:lJ i d1=d:=by simpa using hd
   subst hd
   obtain⟨v1,g1,g2⟩:=r1.get c1
   refine⟨⟨xs,v1,h1 H2 x2,g1⟩,?_⟩
   rintro x H3 ⟨T,x',fr,rfl,k1,rfl⟩
   obtain rfl:v1=x':=gW (g1.symm.trans (k1 xs (h1 H2 x2)))
   have ext:Ext H2 (upd H2 T (.tup [.int i,v1])):=fun b u e=>by rw[fH (kJ e fr)]; exact e
   refine⟨ext,fun P2 hP2 xb=>?_⟩
   have nT : ¬ P2 T:=fun q=>by
    rcases hP2 T q with⟨o,e⟩ | ⟨o,e⟩ <;> rw[fr] at e <;> cases e
   have gT:hid (upd H2 T (.tup [.int i,v1])) P2 T=some (.tup [.int i,v1]):=jR nT gR
   have xx:Ext B (hid (upd H2 T (.tup [.int i,v1])) P2):=xb.trans (dW ext)
   exact Aax.mpr ⟨T,_,rfl,gT,Aan.mpr ⟨_,_,rfl,Aas.mpr rfl,Aan.mpr ⟨_,_,rfl,g2.ext xx,Aau.mpr rfl⟩⟩⟩
 ·rw[List.length_mapIdx] at e
  rw[r1.length]
  exact DY e
theorem xY {fa:AF}(hg:Gl X "enumerate")(hm:X.mg "enumerate" = none)(ha:DA X [a] fa)(hs:bL [a] X.env=[(false,bX a X.env)]:=by rfl) :
  DI X (.Tuple es cx tpos) (.Call (.Name "enumerate" p) [a] [] pos) (iEn fa):=PI.imp (Mb hg hm ha hs) fun σ H R gh=>by
 obtain⟨P,ρ,ds,hP,rs,ef,k⟩:=gh
 obtain⟨as,e1,ef2⟩:=XBs ef
 clear ef
 match as,e1,ef2 with
 | [x],e1,ef2=>
  obtain⟨xs,e2,ef3⟩:=XBs (show((oY x).bind fun xs=>some (xs.mapIdx lJ))=some ds from ef2)
  cases ef3
  refine⟨P,ρ,_,hP,rs,e1,fun vs H1 x1 r1=>?_⟩
  obtain⟨v,rfl,q1⟩:=hX r1
  obtain⟨a1,b1,us,rfl,k1,w1⟩:=HI e2 q1
  exact⟨a1,b1,us,rfl,k1 _ Aba,k _ H1 x1 (Qe k1 w1)⟩
 | [],_,h=>cases h
 | _::_::_,_,h=>cases h
end
section
variable {X:Cx}
theorem Dd:Ae3 X (.type "range") (fun xs H Q=>∃ j:Int,xs=[.int j] /\ ∀ a,H a=none->Q (.ref a) (upd H a (.rng 0 j))):=by
 intro pins s σ H xs us Q I r h
 obtain⟨j,rfl,q⟩:=h
 obtain⟨u,rfl,t,rfl⟩:=vals1 r
 refine call_range_1 ?_
 exact⟨.ref s.heap.objs.size,_,I.laid (o:=.rng 0 j) (fun b ob g=>cY _ g) (dA _) ⟨_,_,_,eW _ rfl⟩,rfl,q _ I.fresh⟩
noncomputable def upTo (n:Nat):List aA:=(cE n).map fun(k:Nat)=>bT k
noncomputable def upV (n:Nat):List V:=(cE n).map fun(k:Nat)=>V.int k
theorem Gz (hc:X.calm=true):Ae3 X (.type "list") (fun xs H Q=>∃ a,∃ j:Int,xs=[.ref a]/\H a=some (.rng 0 j) /\ -4096≤j/\j≤4096 /\ ∀ l,H l=none->Q (.ref l) (upd H l (.lst (upV j.toNat)))):=by
 intro pins s σ H xs us Q I r h
 obtain⟨a,j,rfl,ha,h1,h2,q⟩:=h
 obtain⟨u,rfl,ru⟩:=vals1 r
 cases ru
 obtain⟨t,u,v,g⟩:=(show Ady X.prog X.w H s.heap a (.rng 0 j) from I.hok a _ ha)
 have hn:Builtin.Range.rangeSize 0 j 1=(j.toNat:Int):=by rw[rangeSize_one]; split <;> omega
 refine call_list_range (I.ok.hd hc) g (small_one (by omega) (by omega) (by omega) (by omega)) hn (by omega) fun h' tk acc' c' hk hS hacc=>?_
 have hv:Vals (upV j.toNat) acc'.toList:=by
  refine HY (by simp[upV,hacc.1]) fun i x u h1 h2=>?_
  obtain⟨t',rfl⟩:=hacc.2 i u (by simpa using h2)
  have hi:i<j.toNat:=by
   have:=(gE.mp h1).1
   simpa [upV] using this
  have:(upV j.toNat)[i]?=some (V.int i):=by simp[upV,hi]
  rw[this] at h1
  cases h1
  exact⟨t',by simp⟩
 exact⟨.ref s.heap.objs.size,_,I.laid (o:=.lst (upV j.toNat)) hk (dA _) (show Ady X.prog X.w _ h' _ (.lst (upV j.toNat)) from⟨by simp[upV,rL]; omega,acc'.toList,c',hv,by simpa using hS⟩),rfl,q _ I.fresh⟩
theorem Ry {K:aP}{H:Hp}(n:Nat):Aaz K H (upTo n) (upV n):=by
 unfold upTo upV
 generalize cE n=l
 induction l with
 | nil=>exact Aau.mpr rfl
 | cons a l ih=>exact Aan.mpr ⟨_,_,rfl,Aas.mpr rfl,ih⟩
noncomputable def TJ:List aA->Option aA
 | [.int j]=>if -4096≤j/\j≤4096 then some (.list (upTo j.toNat)) else none
 | _=>none
theorem Ri {e:bA}{fe:EF}{p1 p2 pos1 pos2:cD}(hc:X.calm=true)(g1:Gl X "list")(m1:X.mg "list" = none)(g2:Gl X "range")(m2:X.mg "range" = none)(he:DE X e fe)
  (hs1:bL [wQ (.Name "range" p2) [e] [] pos2] X.env=[(false,bX (wQ (.Name "range" p2) [e] [] pos2) X.env)]:=by rfl) (hs2:bL [e] X.env=[(false,bX e X.env)]:=by rfl) :
  DF 1 X (.Call (.Name "list" p1) [.Call (.Name "range" p2) [e] [] pos2] [] pos1) (aQ TJ (aF fe aI)):=by
 have h1:PE X (.Call (.Name "range" p2) [e] [] pos2) _:=CC Dd g2 m2 rfl (iI he kU hs2) (by decide) (by decide) hs2 rfl
 have h2:PE X (.Call (.Name "list" p1) [.Call (.Name "range" p2) [e] [] pos2] [] pos1) _:=CC (Gz hc) g1 m1 rfl (iI h1 kU hs1) (by decide) (by decide) hs1 rfl
 refine PE.imp h2 fun σ H Q gh=>?_
 obtain⟨P,ρ,d,hP,rs,ef,k⟩:=gh
 obtain⟨ds0,e0,ef⟩:=XBs ef
 obtain⟨d1,e1,e0⟩:=XBs e0
 have e0:[d1]=ds0:=by simpa [aI] using e0
 subst e0
 cases d1 with
 | int j=>
  obtain⟨hl,rfl⟩:=eI (show(if -4096≤j/\j≤4096 then some (lE (upTo j.toNat)) else none)=some d from ef)
  refine⟨P,ρ,.int j,hP,rs,e1,eP fun v H1 x1 r1=>?_⟩
  obtain rfl:=Aas.mp r1
  refine⟨j,rfl,fun a hn=>⟨a,j,rfl,gR,hl.1,hl.2,fun l hl2=>?_⟩⟩
  have x2:Ext H (upd H1 a (.rng 0 j)):=x1.trans (Ext.new hn)
  exact(k.mono x2).lst (hP.ext x2) hl2 (Ry _)
 | _=>cases ef
end
section
variable {P:cL}{w:cA}{A:eD}{E:aG->aL->Prop}{s:aL}
theorem SU {j l:aD}{us:Array aG}(ne:l≠j) : ∀ (n i:Nat) (s:aL) (Q:List aG->aL->Prop),s.heap.IsListIter j l i->s.heap.IsList l us->i+n≤us.size ->
    (∀ h',h'.IsListIter j l (i+n)->tW j s.heap h'->Q ((us.toList.drop i).take n) { s with heap:=h' })->aO (bC P w) A (draw (.ref j) n) Q E s
  | 0,i,s,Q,a,_,_,q=>by
    show aO _ _ (pure []) Q E s
    refine bE ?_
    have:=q s.heap a (Heap.SameBut.refl ..)
    rwa [List.take_zero] at this
  | n+1,i,s,Q,a,b,le,q=>by
    have lt:i<us.size:=by omega
    show aO _ _ (hU (.ref j) >>= _) Q E s
    refine aJ (wpAny_pyNext_list_item a b (x:=us[i]) (by simp[lt]) fun h1 a1 sb=>?_)
    refine aJ (jI (SU ne n (i+1) _ _ a1 (b.extBut sb.extBut ne) (by omega) fun h2 a2 sb2=>bE ?_))
    have e:us.toList.drop i=us[i]::us.toList.drop (i+1):=by simp[VM,lt]
    have:=q h2 (by rw[show i+(n+1)=i+1+n by omega]; exact a2) (sb.trans sb2)
    rwa [e,List.take_succ_cons] at this
theorem Ox {l:aD}{us:Array aG}{targets:List (Bool×(aG->Sem Unit))}{Q:Unit->aL->Prop}(hh:A.handled=none)(hl:s.heap.IsList l us)(hn:targets.length=us.size)(hs:targets.findIdx? (·.1)=none)
  (h : ∀ h',AG s.heap.objs.size s.heap h'->aO (bC P w) A (assignInOrder (targets.map (·.2)) us.toList) Q E { s with heap:=h' }):aO (bC P w) A (unpack (.ref l) targets) Q E s:=by
 have ne:l≠s.heap.objs.size:=by
  obtain⟨o,ho,_⟩:=hl
  exact fC (cI ho)
 unfold unpack
 rw[hn,hs]
 refine aJ (jI ?_)
 unfold unpackItems
 refine aJ ?_
 unfold notIterableAtAll
 refine aJ (zR hl.typeIs slot_list_iter.lookup (bE ?_))
 simp only[oW,if_false]
 refine aJ (jI (zS hl (aJ (jI (SU ne us.size 0 _ _ ⟨_,eW _ rfl,rfl,rfl⟩ (hl.push _) (by omega) fun h1 a1 sb=>?_)))))
 have all:List.take us.size (List.drop 0 us.toList)=us.toList:=by
  rw[VL]
  exact DZ (by simp)
 rw[all,if_neg (by simp)]
 refine aJ (jI (wpAny_pyNext_list_end hh a1 ((hl.push _).extBut sb.extBut ne) (by simp) fun h2 x2=>?_))
 simp only[Option.isSome_none,oW,if_false]
 exact bE (h h2 fun b o hb e=>x2 b o hb (sb.extBut b o hb (cY _ e)))
end
section
variable {X:Cx}{H0:Hp}{P0:aD->Prop}{n0:Nat}{pos:cD}
noncomputable def gLs (K:aP)(n:Nat)(t:TGs):TG:=fun v σ H Q=>∃ a xs,v = .ref a/\SqL K H a xs/\xs.length=n/\t xs σ H Q
theorem ZX {es:List bA}{k:Nat}{t:TGs}{n:Nat}(hc:X.calm=true)(h:PGs X es t)
  (hn:(gL es X.env).length=n:=by rfl) (hst:(gL es X.env).findIdx? (·.1)=none:=by rfl):PG X (.Tuple es k pos) (gLs X.K n t):=by
 intro pins s σ H v u Q I r hw
 obtain⟨a,xs,e1,hq,hl,hw⟩:=hw
 subst e1
 cases r
 obtain⟨its,rv,pl,hz⟩:=I.list hq
 rw[assign_Tuple]
 refine aJ (wpAny_standAt (Ox (I.ok.hd hc) pl.isList (by simp[hn,← hl,rv.length]) hst fun h' hx=>?_))
 have I1:Inv X pins σ H { s with heap:=h' }:=I.kept (t':=s.toks) fun b o e=>hx b o (fC (cI e)) e
 exact h pins _ σ H xs _ Q I1 (by simpa using rv) hw
noncomputable def FI (i j:Nat):aA->bD->Option bD:=fun d ρ=>match d with
 | .list [a,b]=>(gNm i a ρ).bind fun ρ'=>gNm j b ρ'
 | _=>none
theorem Rh {i j:Nat}{x y:aE}{p1 p2:cD}{k}(hc:X.calm=true)(hN:X.N.Nodup)(hi:X.N[i]?=some x)(hj:X.N[j]?=some y)(hx:jY X.env.scope x)(hy:jY X.env.scope y)
  (hf:X.fn x=true \/ X.env.scope.names.lookup x=some .local:=by first | exact .inl rfl | exact .inr rfl | assumption) (hf2:X.fn y=true \/ X.env.scope.names.lookup y=some .local:=by first | exact .inl rfl | exact .inr rfl | assumption)
  (hn:(gL [.Name x p1,.Name y p2] X.env).length=2:=by rfl) (hst:(gL [.Name x p1,.Name y p2] X.env).findIdx? (·.1)=none:=by rfl)
  (h1:(gL [.Name x p1,.Name y p2] X.env).map (·.2)=kL (.Name x p1) X.env::(gL [.Name y p2] X.env).map (·.2):=by rfl) (h2:(gL [.Name y p2] X.env).map (·.2)=kL (.Name y p2) X.env::(gL [] X.env).map (·.2):=by rfl):DG X H0 P0 (.Tuple [.Name x p1,.Name y p2] k pos) (FI i j):=
 PG.imp (ZX hc (vC (pE hN hi hx hf) (vC (pE hN hj hy hf2) FP h2) h1) hn hst) fun v σ H Q gh=>by
  obtain⟨B0,ρ,fp,d,ρ',S,r,ef,k⟩:=gh
  unfold FI at ef
  split at ef
  ·rename_i a b
   obtain⟨ρ1,e1,e2⟩:=XBs ef
   obtain⟨l1,rfl⟩:=eI e1
   obtain⟨l2,rfl⟩:=eI e2
   obtain⟨p,xs,rfl,hp,rr⟩:=Abx.mp r
   obtain⟨v1,t1,rfl,r1,rr⟩:=Aan.mp rr
   obtain⟨v2,rfl,r2⟩:=hX rr
   refine⟨p,_,rfl,Aba.sqL hp,rfl,v1,_,rfl,v2,_,rfl,rfl,?_⟩
   have Sb:=S.rebase (B1:=hid H (Hd P0 fp)) Ext.refl
   obtain⟨fp1,S1⟩:=Sb.set0 r1 l1
   obtain⟨fp2,S2⟩:=S1.set0 (r2.ext S1.base) l2
   exact k _ fp2 (S2.rebase (S.base.trans S2.base))
  ·cases ef
noncomputable def CV (m:Md)(f:EF)(T:aA->bD->Option bD):SF:=fun ρ=>(eV 0 m f ρ).bind fun d=>(T d ρ).bind fun ρ'=>some (.nx ρ')
theorem Cn {tg e:bA}{f:EF}{T:aA->bD->Option bD}(m:Md)(he:DE X e f)(hg:DG X H0 P0 tg T)(hs:swapsWithSole [tg] e pos.line X.env=pure false:=by rfl)(hw:swappedStores [tg] e X.env=pure none:=by rfl)
  (h1:(gL [tg] X.env).map (·.2)=[kL tg X.env]:=by rfl):DS X H0 P0 n0 (.Assign [tg] e pos) (CV m f T):=PS.imp (Bv (ev (H0:=H0) (P0:=P0) m he) hg hs hw h1) fun D σ H gh=>by
 obtain⟨B0,ρ,fp,o,S,ef,k⟩:=gh
 obtain⟨d,e1,ef⟩:=XBs ef
 obtain⟨ρ',e2,ef⟩:=XBs ef
 cases ef
 refine⟨B0,ρ,fp,d,S,e1,fun v H' gh=>?_⟩
 obtain⟨fp',S',r⟩:=gh
 exact⟨B0,ρ,fp',d,ρ',S',r.2,e2,fun σ' fp2 S2=>k _ _ fp2 S2⟩
end
open PySem PySem.W PyProof.Rows
structure Ord (lt:Nat->Nat->Bool):Prop where
 asym : ∀ a b,lt a b=true->lt b a=false
 tr : ∀ a b c,lt b a=false->lt c b=false->lt c a=false
section
variable {lt:Nat->Nat->Bool}(O:Ord lt)
noncomputable abbrev at' (p:Array Nat)(i:Nat):Nat:=p.getD i 0
include O
end
mutual
theorem Ajr.rep {K:aP}{H:Hp} : ∀ (d:aA) {v:V},cC d=true->Ajr H d v->Acb K H d v
 | .int i,v,_,h=>Aas.mpr (by simpa [Ajr] using h)
 | .str i,v,k,h=>Abk.mpr ⟨by simpa [Ajr] using h,by simpa [cC] using k⟩
 | .tuple ds,v,k,h=>by
  simp only[Ajr] at h
  obtain⟨a,xs,e,s,r⟩:=h
  exact Aax.mpr ⟨a,xs,e,s,Af6.reps ds (by simpa [cC] using k) r⟩
 | .none,v,k,_=>by simp[cC] at k
 | .bool _,v,k,_=>by simp[cC] at k
 | .list _,v,k,_=>by simp[cC] at k
 | .dict _,v,k,_=>by simp[cC] at k
theorem Af6.reps {K:aP}{H:Hp} : ∀ (ds:List aA) {vs:List V},dC ds=true->Af6 H ds vs->Aaz K H ds vs
 | [],vs,_,h=>Aau.mpr (by simpa [Af6] using h)
 | d::ds,vs,k,h=>by
  have k':cC d=true/\dC ds=true:=by simpa [dC] using k
  simp only[Af6] at h
  obtain⟨x,r,e,h1,h2⟩:=h
  exact Aan.mpr ⟨x,r,e,Ajr.rep d k'.1 h1,Af6.reps ds k'.2 h2⟩
end
theorem Aop.rep {K:aP}{H:Hp}{ks:List aA}{a:aD}(h:Aop H ks a):Acb K H (.tuple ks) (.ref a):=by
 obtain⟨k,_,xs,e,r⟩:=h
 exact Aax.mpr ⟨a,xs,rfl,e,Af6.reps ks k r⟩
theorem Acb.tupK {K:aP}{H:Hp}{ks:List aA}{v:V}(r:Acb K H (.tuple ks) v)(h1:dC ks=true)(h2:bU ks≤6) : ∃ a,v = .ref a/\Aop H ks a:=by
 obtain⟨a,xs,e,s,r⟩:=Aax.mp r
 exact⟨a,e,h1,h2,xs,s,Aaz.keys ks h1 r⟩
theorem RQ {K:aP}{H1 G:Hp}(x : ∀ c ys,H1 c=some (.tup ys)->G c=some (.tup ys)) : ∀ {kvs:List (List aA×V)} {as:List aD},gV (fun(p:List aA×V) (b:aD)=>Aop H1 p.1 b) kvs as->Aaz K G ((kvs.map (·.1)).map gU) (as.map V.ref)
 | _,_,.nil=>Aau.mpr rfl
 | _,_,.cons h t=>Aan.mpr ⟨_,_,rfl,(h.keep x).rep,RQ x t⟩
noncomputable def oO:List aA->Option (List (List aA))
 | []=>some []
 | .tuple ks::r=>if dC ks=true/\bU ks≤6 then(oO r).bind fun kss=>some (ks::kss) else none
 | _::_=>none
noncomputable def uC (acc:List (List aA))(k:List aA):List (List aA):=if k∈acc then acc else acc++[k]
noncomputable def qH (kss:List (List aA)):List (List aA):=kss.foldl uC []
noncomputable def IM:List aA->Option aA
 | [.tuple ds]=>(oO ds).bind fun kss=>if ds.length<sizeLine then some (.tuple ((qH kss).map gU)) else none
 | _=>none
theorem NW : ∀ {ds:List aA} {kss:List (List aA)},oO ds=some kss->ds=kss.map gU /\ ∀ ks∈kss,dC ks=true/\bU ks≤6
 | [],kss,h=>by cases h; exact⟨rfl,fun _ m=>by simp at m⟩
 | .tuple ks::r,kss,h=>by
  by_cases c:dC ks=true/\bU ks≤6
  ·have h':((oO r).bind fun kss=>some (ks::kss))=some kss:=by
    have:(if dC ks=true/\bU ks≤6 then(oO r).bind fun kss=>some (ks::kss) else none)=some kss:=h
    rw[if_pos c] at this
    exact this
   obtain⟨k2,e1,e2⟩:=XBs h'
   cases e2
   obtain⟨q1,q2⟩:=NW e1
   refine⟨by rw[q1]; rfl,fun x m=>?_⟩
   rcases fG.mp m with rfl | m
   ·exact c
   ·exact q2 x m
  ·have:(if dC ks=true/\bU ks≤6 then(oO r).bind fun kss=>some (ks::kss) else none)=some kss:=h
   rw[if_neg c] at this
   cases this
 | .none::_,_,h=>by cases h
 | .bool _::_,_,h=>by cases h
 | .int _::_,_,h=>by cases h
 | .str _::_,_,h=>by cases h
 | .list _::_,_,h=>by cases h
 | .dict _::_,_,h=>by cases h
noncomputable def oA (kss:List (List aA)):List (List aA×V):=kss.foldl (fun acc k=>putK acc k (.bl true)) []
theorem Dw {kvs:List (List aA×V)}{k:List aA}{v:V}:(putK kvs k v).map (·.1)=uC (kvs.map (·.1)) k:=by
 unfold putK uC
 by_cases h:(kvs.any fun kv=>decide (kv.1=k))=true
 ·rw[if_pos h]
  have hm:k∈kvs.map (·.1):=by
   obtain⟨x,hx,e⟩:=pY.mp h
   exact dP.mpr ⟨x,hx,of_decide_eq_true e⟩
  rw[if_pos hm,kO]
  apply KA
  intro x _
  show(if x.1=k then(x.1,v) else x).1=x.1
  split <;> rfl
 ·rw[if_neg h]
  have hm:k∉kvs.map (·.1):=fun m=>by
   obtain⟨x,hx,e⟩:=dP.mp m
   exact h (pY.mpr ⟨x,hx,decide_eq_true e⟩)
  rw[if_neg hm,oU]
  rfl
theorem Hc (kss:List (List aA)):(oA kss).map (·.1)=qH kss:=by
 unfold oA qH
 have go : ∀ (kss:List (List aA)) (acc:List (List aA×V)),(kss.foldl (fun acc k=>putK acc k (.bl true)) acc).map (·.1)=kss.foldl uC (acc.map (·.1)):=by
  intro kss
  induction kss with
  | nil=>intro acc; rfl
  | cons k r ih=>
   intro acc
   rw[pX,pX,ih,Dw]
 exact go kss []
theorem Gp (kss:List (List aA))(k:List aA):oA (kss++[k])=putK (oA kss) k (.bl true):=by
 unfold oA
 rw[KG]
 rfl
theorem Du (kss:List (List aA)):(oA kss).length≤kss.length:=by
 have go : ∀ (kss:List (List aA)) (acc:List (List aA×V)),(kss.foldl (fun acc k=>putK acc k (V.bl true)) acc).length≤acc.length+kss.length:=by
  intro kss
  induction kss with
  | nil=>intro acc; simp
  | cons k r ih=>
   intro acc
   have h1:=ih (putK acc k (.bl true))
   have h2:=CJ acc k (V.bl true)
   rw[pX,mF]
   omega
 have:=go kss []
 unfold oA
 simpa using this
open PySem PySem.Spec PySem.W PyProof.Rows
section
variable {X:Cx}
theorem LW : ∀ {ns:List Int} {vs:List aG},Vals (ns.map V.int) vs->rS vs ns
 | [],_,.nil=>.nil
 | n::ns,_,.cons ⟨t,e⟩ r=>by
  subst e
  exact .cons n t (LW r)
theorem MI : ∀ {ns:List Int} {vs:List aG},rS vs ns->Vals (ns.map V.int) vs
 | _,_,.nil=>.nil
 | _,_,.cons n t h=>.cons ⟨t,rfl⟩ (MI h)
noncomputable def tH:List aA->Option (List Int)
 | []=>some []
 | .int i::r=>(tH r).bind fun is=>some (i::is)
 | _::_=>none
theorem UF : ∀ {ds:List aA} {is:List Int},tH ds=some is->ds=is.map bT
 | [],is,e=>by cases e; rfl
 | .int i::ds,is,e=>by
  obtain⟨is',e1,e2⟩:=XBs (show((tH ds).bind fun is=>some (i::is))=some is from e)
  cases e2
  rw[UF e1]
  rfl
 | .none::_,_,e=>by cases e
 | .bool _::_,_,e=>by cases e
 | .str _::_,_,e=>by cases e
 | .list _::_,_,e=>by cases e
 | .tuple _::_,_,e=>by cases e
 | .dict _::_,_,e=>by cases e
theorem RY {K:aP}{H:Hp} : ∀ {is:List Int} {ys:List V},Aaz K H (is.map bT) ys->ys=is.map V.int
 | [],ys,r=>Aau.mp r
 | i::is,ys,r=>by
  obtain⟨v,t,rfl,r1,r2⟩:=Aan.mp r
  rw[Aas.mp r1,RY r2]
  rfl
noncomputable def sortI (is:List Int):List Int:=is.mergeSort fun a b=>decide (a≤b)
theorem Gf {is js:List Int}(hp:js.Perm is)(hr:js.Pairwise (· ≤ ·)):js=sortI is:=by
 refine List.Perm.eq_of_pairwise (le:=(· ≤ ·)) (fun a b _ _ h1 h2=>Int.le_antisymm h1 h2) hr ?_ (hp.trans (List.mergeSort_perm is _).symm)
 have:=List.pairwise_mergeSort (le:=fun a b:Int=>decide (a≤b)) (fun a b c h1 h2=>decide_eq_true (Int.le_trans (of_decide_eq_true h1) (of_decide_eq_true h2))) (fun a b=>by
  rcases Int.le_total a b with h | h <;> simp[h]) is
 exact this.imp fun h=>of_decide_eq_true h
end
section
variable {X:Cx}{o k:bA}{fo fk:EF}{apos cpos:cD}
theorem QW {K:aP}{H:Hp} : ∀ {ds:List aA} {xs:List V} (n:Nat),Aaz K H ds xs->Aaz K H (ds.eraseIdx n) (xs.eraseIdx n)
 | [],xs,n,r=>by
  rw[Aau.mp r]
  exact Aau.mpr rfl
 | d::ds,xs,0,r=>by
  obtain⟨v,t,rfl,h1,h2⟩:=Aan.mp r
  exact h2
 | d::ds,xs,n+1,r=>by
  obtain⟨v,t,rfl,h1,h2⟩:=Aan.mp r
  exact Aan.mpr ⟨v,_,rfl,h1,QW n h2⟩
theorem NZ {j pos}:DF 1 X (.Constant .none j pos) (eC .none):=PE.imp UB fun σ H Q gh=>by
 obtain⟨P,ρ,d,hP,rs,ef,k⟩:=gh
 cases ef
 exact k .non H [] Ext.refl .nil (fun a m=>by simp at m) ⟨rfl,Aco.mpr rfl⟩
end
section
variable {X:Cx}
noncomputable def anyB (xs:List V):Bool:=xs.any fun v=>decide (v = .bl true)
theorem Es (hc:X.calm=true):Ae3 X (.builtin "any") (fun xs H Q=>∃ p ys,xs=[.ref p]/\SqL X.K H p ys/\(∀ y∈ys,∃ b,y = .bl b)/\Q (.bl (anyB ys)) H):=by
 intro pins s σ H xs us Q I r h
 obtain⟨p,ys,rfl,hs,hb,q⟩:=h
 obtain⟨u,rfl,ru⟩:=vals1 r
 cases ru
 obtain⟨its,rv,pl,hz⟩:=I.list hs
 have hl:s.heap.IsList p its.toArray:=pl.isList
 have hlt:p<s.heap.objs.size:=by obtain⟨o,n,e,_⟩:=pl; exact cI e
 have len:=rv.length
 refine call_any_walk (zS hl ⟨s.heap.objs.size,_,_,_,_,_,fun i=>decide (ys[i]?=some (.bl true)),rfl,Walks.list (A:=X.A.in1) (I.ok.hd hc) s.heap.objs.size p (fC hlt) its.toArray,
  ⟨⟨_,eW _ rfl,rfl,rfl⟩,hl.at fun o e=>cY _ e⟩,?_,?_⟩)
 ·intro i v s' Q' E' hv hq
  have hv':its[i]?=some v:=by simpa using hv
  have hi:i<ys.length:=by rw[len]; exact(gE.mp hv').1
  obtain⟨b,hy⟩:=hb ys[i] (KC hi)
  have hy':ys[i]?=some (.bl b):=by rw[iO hi,hy]
  obtain⟨u',h1,h2⟩:=rv.get hy'
  rw[hv'] at h1; cases h1
  cases h2
  refine rH ?_
  have:decide (ys[i]?=some (V.bl true))=b:=by rw[hy']; cases b <;> simp
  have hq:Q' (decide (ys[i]?=some (V.bl true))) s':=hq
  rw[this] at hq
  exact hq
 ·intro h' tk hk
  have e:((cE its.toArray.size).any fun i=>decide (ys[i]?=some (V.bl true)))=anyB ys:=by
   have hn:its.toArray.size=ys.length:=by simp[len]
   rw[hn]
   unfold anyB
   rw[kQ]
   simp only[pY,jA,decide_eq_true_eq]
   constructor
   ·rintro⟨i,hi,h⟩
    exact⟨_,mU h,rfl⟩
   ·rintro⟨v,hv,rfl⟩
    obtain⟨i,hi,e⟩:=List.getElem_of_mem hv
    exact⟨i,hi,by rw[iO hi,e]⟩
  rw[e]
  refine⟨.bl (anyB ys),H,?_,rfl,q⟩
  exact I.kept fun b o eb=>hk b o (by simp; exact fC (cI eb)) (cY _ eb)
theorem boot_any:mQ "any" = some (.builtin "any"):=by decide +kernel
noncomputable def EU:List aA->Option aA
 | [.list ds]=>(mX ds).bind fun bs=>some (.bool (bs.any id))
 | _=>none
theorem Dy {K:aP}:CallD K 0 (fun xs H Q=>∃ p ys,xs=[.ref p]/\SqL K H p ys/\(∀ y∈ys,∃ b,y = .bl b)/\Q (.bl (anyB ys)) H) EU:=fun P H xs ds d Q hP r e k=>by
 unfold EU at e
 split at e
 ·obtain⟨bs,e1,e2⟩:=XBs e
  cases e2
  obtain⟨v,rfl,r'⟩:=hX r
  obtain⟨q,ys,rfl,hq,rr⟩:=Abx.mp r'
  obtain rfl:=GA e1 rr
  refine⟨q,_,rfl,Aba.sqL hq,fun y m=>?_,k.zero Ext.refl (Aav.mpr ?_)⟩
  ·obtain⟨b,_,rfl⟩:=dP.mp m
   exact⟨b,rfl⟩
  ·unfold anyB
   rw[EE]
   congr 2
   funext b
   cases b <;> simp
 ·cases e
end
section
variable {X:Cx}{H0:Hp}{P0:aD->Prop}{n0:Nat}{e:bA}{f:EF}{x y:aE}{px py pos apos cpos apos2 cpos2:cD}{i j:Nat}
theorem PF {K:aP}{H:Hp} : ∀ {ds:List aA} {xs:List V} {n:Nat} {d:aA} {v:V},Aaz K H ds xs->ds[n]?=some d->xs[n]?=some v->Acb K H d v
 | [],xs,n,d,v,r,e,_=>by simp at e
 | a::ds,xs,0,d,v,r,e,e'=>by
  obtain⟨u,t,rfl,h1,h2⟩:=Aan.mp r
  cases e
  cases e'
  exact h1
 | a::ds,xs,n+1,d,v,r,e,e'=>by
  obtain⟨u,t,rfl,h1,h2⟩:=Aan.mp r
  exact PF h2 (by simpa using e) (by simpa using e')
noncomputable def BL (i j:Nat)(m:Md)(f:EF):SF:=fun ρ=>(eV 0 m f ρ).bind fun d=>(getL j ρ).bind fun ds=>(getL i ρ).bind fun _=>match d with
 | .int a=>(ixN ds.length a).bind fun n=>(ds[n]?).bind fun dv=>(getL i (ρ.set j (some (1,.list (ds.eraseIdx n))))).bind fun es=>if ds.length≤sizeLine/\es.length<sizeLine then some (.nx ((ρ.set j (some (1,.list (ds.eraseIdx n)))).set i (some (1,.list (es++[dv]))))) else none
 | _=>none
theorem Eb (i j:Nat)(m:Md)(he:DE X e f)(hN:X.N[i]?=some x:=by rfl)(hv:lH X.env.scope x:=by first | exact aT rfl | exact aY (aT rfl) | exact aY (aY rfl))(hd:(x == ("__debug__" : aE))=false:=by decide)
  (hcd:(x == ("__classdict__" : aE))=false:=by decide) (hN2:X.N[j]?=some y:=by rfl) (hv2:lH X.env.scope y:=by first | exact aT rfl | exact aY (aT rfl) | exact aY (aY rfl)) (hd2:(y == ("__debug__" : aE))=false:=by decide)
  (hcd2:(y == ("__classdict__" : aE))=false:=by decide)
  (hbase:rO (.Name x px) "append" X.env (bX (.Name x px) X.env)=bX (.Name x px) X.env:=by rfl)
  (hfew:((fY cpos (bL ((.Call (.Attribute (.Name y py) "pop" apos2) [e] [] cpos2)::[]) X.env)).all (fun x=>!x.1)&&(rN cpos (rM [] X.env)).all (fun x=>x.1.isSome)
   && decide (((.Call (.Attribute (.Name y py) "pop" apos2) [e] [] cpos2:bA)::[]).length+([]:List jK).length+(if ([]:List jK).isEmpty then 0 else 1)<30))=true:=by rfl)
  (hline:(apos.endLine == cpos.line)=true:=by rfl) (hs:bL ((.Call (.Attribute (.Name y py) "pop" apos2) [e] [] cpos2)::[]) X.env=(false,bX (.Call (.Attribute (.Name y py) "pop" apos2) [e] [] cpos2) X.env)::bL [] X.env:=by rfl) (hplain:(fY cpos (bL [] X.env)).any (·.1)=false:=by rfl)
  (hbase2:rO (.Name y py) "pop" X.env (bX (.Name y py) X.env)=bX (.Name y py) X.env:=by rfl)
  (hfew2:((fY cpos2 (bL (e::[]) X.env)).all (fun x=>!x.1)&&(rN cpos2 (rM [] X.env)).all (fun x=>x.1.isSome)
   && decide ((e::[]).length+([]:List jK).length+(if ([]:List jK).isEmpty then 0 else 1)<30))=true:=by rfl)
  (hline2:(apos2.endLine == cpos2.line)=true:=by rfl) (hs2:bL (e::[]) X.env=(false,bX e X.env)::bL [] X.env:=by rfl) (hplain2:(fY cpos2 (bL [] X.env)).any (·.1)=false:=by rfl)
  (hsw:nR (.Call (.Attribute (.Name x px) "append" apos) [.Call (.Attribute (.Name y py) "pop" apos2) [e] [] cpos2] [] cpos) none pos.line X.env=pure false:=by rfl):DS X H0 P0 n0 (.Expr (.Call (.Attribute (.Name x px) "append" apos) [.Call (.Attribute (.Name y py) "pop" apos2) [e] [] cpos2] [] cpos) pos) (BL i j m f):=
 PS.imp (uU (sI zW UV UT BY (nG hN hv hd hcd) (iI (sI zW PySem.F.slot_list_pop PySem.F.type_list_pop Ot (nG hN2 hv2 hd2 hcd2) (iI (ev (H0:=H0) (P0:=P0) m he) kU hs2) hbase2 hfew2 hline2 hs2 hplain2) kU hs) hbase hfew hline hs hplain) hsw) fun D σ H gh=>by
  obtain⟨B0,ρ,fp,o,S,ef,k⟩:=gh
  obtain⟨d,e1,ef2⟩:=XBs ef
  obtain⟨ds,e2,ef3⟩:=XBs ef2
  obtain⟨es0,e0,ef3⟩:=XBs ef3
  cases d with
  | int a=>
   obtain⟨n,e4,ef4⟩:=XBs (show((ixN ds.length a).bind fun n=>(ds[n]?).bind fun dv=>(getL i (ρ.set j (some (1,.list (ds.eraseIdx n))))).bind fun es=>if ds.length≤sizeLine/\es.length<sizeLine then some (Out.nx ((ρ.set j (some (1,.list (ds.eraseIdx n)))).set i (some (1,.list (es++[dv]))))) else none)=some o from ef3)
   obtain⟨dv,e5,ef5⟩:=XBs ef4
   obtain⟨es,e6,ef6⟩:=XBs ef5
   obtain⟨⟨lz,lz2⟩,rfl⟩:=eI ef6
   obtain⟨p,xs,h1,h2,_,_⟩:=S.lst1 (mN e0)
   obtain⟨p',xs',h1',h2',_,_⟩:=S.lst1 (mN e2)
   refine⟨.ref p,h1,.inl ⟨rfl,xs,SqL.of h2⟩,.ref p',h1',.inl ⟨rfl,xs',SqL.of h2'⟩,B0,ρ,fp,.int a,S,e1,fun v H2 gh=>?_⟩
   obtain⟨fp2,S2,r2⟩:=gh
   obtain⟨p2,xs2,q1,q2,q3,q4⟩:=S2.lst1 (mN e2)
   have:p2=p':=by rw[h1'] at q1; cases q1; rfl
   subst this
   obtain⟨s1,s2,s3,s4⟩:=NL e4
   have hl:xs2.length=ds.length:=q3.length
   have hz:xs2.length≤sizeLine:=by rw[hl]; exact lz
   have hn:=uR
   have hy:xs2[n]?=some xs2[n]:=iO (by omega)
   have S3:=q4 _ _ (QW n q3)
   obtain⟨p3,xs3,w1,w2,w3,w4⟩:=S3.lst1 (mN e6)
   have:p3=p:=by rw[h1] at w1; cases w1; rfl
   subst this
   have rv:Acb X.K (L2.hid (upd H2 p2 (.lst (xs2.eraseIdx n))) (Hd P0 fp2)) dv xs2[n]:=by
    have hp:p2∈fp2 j:=by
     obtain⟨v',g1,g2⟩:=S2.slot j 1 _ (mN e2)
     obtain⟨pp,xx,Fs,rfl,_,hF,_⟩:=g2
     rw[q1] at g1
     cases g1
     rw[hF]
     exact dF
    have hb:L2.hid (upd H2 p2 (.lst (xs2.eraseIdx n))) (Hd P0 fp2)=L2.hid H2 (Hd P0 fp2):=by
     funext b
     unfold L2.hid
     by_cases q:Hd P0 fp2 b
     ·rw[if_pos q,if_pos q]
     ·rw[if_neg q,if_neg q]
      exact fH fun z=>q (.inr ⟨j,by rw[z]; exact hp⟩)
    rw[hb]
    exact PF q3 e5 hy
   exact⟨p2,xs2,a,n,xs2[n],rfl,by rw[Aas.mp r2.2],q2,by omega,by omega,by rw[hl]; exact s1,hy,p3,xs3,xs2[n],rfl,rfl,w2,by rw[w3.length]; exact lz2,k _ _ fp2 (w4 _ _ (w3.snoc rv))⟩
  | _=>cases ef3
end
section
variable {prog:cL}{w:cA}{A:eD}{E:aG->aL->Prop}{s:aL}
theorem Hy {l:aD}{vs:List aG}{Q:List aG->aL->Prop}(hl:IsTup s.heap l vs.toArray)
  (h:Q vs { s with heap:=(s.heap.push (pO "list" #[] 0)).update s.heap.objs.size (oQ (· ++ vs.toArray)) }) (hsz:vs.length≤sizeLine) :
  aO (bC prog w) A (collect (.ref l)) Q E s:=by
 obtain⟨o,ho,hc,n,hd⟩:=id hl
 unfold collect
 refine aJ (wpAny_runValue (tR entry_proto_collect' ?_))
 show aO _ _ (do again (.builtin "list.__iadd__" ⟨[← newList [],.ref l],[]⟩)) _ _ s
 refine aJ (wpAny_newList (bE ⟨Code.quiet_builtin _ (by decide +kernel),tR entry_list_iadd' ?_⟩))
 show aO _ _ (wR (.ref s.heap.objs.size) (.ref l) (.ref s.heap.objs.size)) _ _ { s with heap:=s.heap.push (pO "list" #[] 0) }
 unfold wR
 have ho':(s.heap.push (pO "list" #[] 0)).get? l=some o:=cY _ ho
 refine aJ (nM (T:="tuple") ⟨o,ho',hc⟩ ?_)
 have yes:(iM "tuple" == iM "tuple")=true:=by rfl
 rw[if_pos (by rw[yes]; simp)]
 refine aJ (listItems_at ho' hd (aJ (listItems_at (xs:=#[]) (n:=0) (eW _ rfl) rfl ?_)))
 rw[if_neg (by simp)]
 refine aJ (listUpdate_at (xs:=#[]) (n:=0) (eW _ rfl) rfl (bE ?_) (mS _) (by show(#[]++vs.toArray).size≤sizeLine+1; simp only[Array.size_append,fW,VF]; omega))
 show aO (bC prog w) A (do
   let o ← load s.heap.objs.size
   match o.data with
   | .seq xs _=>pure xs.toList
   | _=>unsupported "internal:collect") Q E { s with heap:=(s.heap.push (pO "list" #[] 0)).update s.heap.objs.size (oQ (· ++ vs.toArray)) }
 refine aJ (wpAny_load (get?_update_seq (eW _ rfl) _) ?_)
 show aO _ _ (pure ((#[]:Array aG)++vs.toArray).toList) Q E _
 have same:((#[]:Array aG)++vs.toArray).toList=vs:=by simp
 rw[same]
 exact bE h
theorem Ja {l:aD}{vs:List aG}{ns:List Int}{Q:aG->aL->Prop}(hl:IsTup s.heap l vs.toArray)(hI:rS vs ns)(h64:vs.length<64)
  (h : ∀ (out:Array aG) (ns':List Int),rS out.toList ns'->ns'.Perm ns->ns'.Pairwise (· ≤ ·)->Q (.ref (s.heap.objs.size+1)) { s with heap:=sortedAll s.heap vs out }) :
  aO (bC prog w) A (call (.builtin "sorted") [.ref l]) Q E s:=by
 refine Calls.call_function_entry kind_sorted plain_sorted entry_sorted (args_sorted1 _) ?_
 unfold Builtin.«sorted»
 refine aJ (m:=checkCount "sorted" 1 1 _) (bE (aJ (Hy hl (aJ (wpAny_newList ?_)) (by rw[rL]; omega))))
 have z:((s.heap.push (pO "list" #[] 0)).update s.heap.objs.size (oQ (· ++ vs.toArray))).objs.size=s.heap.objs.size+1:=by rw[Heap.size_update,size_push']
 have hoL:(((s.heap.push (pO "list" #[] 0)).update s.heap.objs.size (oQ (· ++ vs.toArray))).push (pO "list" vs.toArray 0)).get? (s.heap.objs.size+1)=some (pO "list" vs.toArray 0):=z ▸ eW _ rfl
 show aO _ _ _ _ _ { s with heap:=((s.heap.push (pO "list" #[] 0)).update s.heap.objs.size (oQ (· ++ vs.toArray))).push (pO "list" vs.toArray 0) }
 rw[z]
 refine aJ (jI (kK slot_list_sort ⟨_,hoL,rfl⟩ entry_list_sort (list_sort_tree (s:={ s with heap:=_ }) hoL hI h64 fun out ns' a1 a2 a3=>⟨_,rfl,?_⟩) (args_list_sort _)))
 exact bE ⟨_,rfl,h out ns' a1 a2 a3⟩
end
section
variable {X:Cx}
theorem Kh:Ae3 X (.builtin "sorted") (fun xs H Q=>∃ p,∃ ns:List Int,xs=[.ref p]/\SqT X.K H p (ns.map V.int)/\ns.length<64 /\ ∀ (l:aD) (ns':List Int),H l=none->ns'.Perm ns->ns'.Pairwise (· ≤ ·)->Q (.ref l) (upd H l (.lst (ns'.map V.int)))):=by
 intro pins s σ H xs us Q I r h
 obtain⟨p,ns,rfl,hp,hl,q⟩:=h
 obtain⟨u,rfl,ru⟩:=vals1 r
 cases ru
 obtain⟨its,rv,pl,hz⟩:=I.tuple hp
 have e1:ns.length=its.length:=by simpa using rv.length
 refine Ja pl (LW rv) (by omega) fun out ns' h1 h2 h3=>?_
 obtain⟨e,he⟩:=sortedAll_at s.heap its out
 have hn:H (s.heap.objs.size+1)=none:=I.hok.fresh (DV _)
 have lz:(ns'.map V.int).length≤sizeLine:=by
  rw[gM,h2.length_eq]
  simpa using hz
 exact⟨.ref (s.heap.objs.size+1),_,I.laid (t':=s.toks) (o:=.lst (ns'.map V.int)) (fun b ob g=>sortedAll_old g) (DV _) ⟨lz,out.toList,e,MI h1,he⟩,rfl,q _ ns' hn h2 h3⟩
noncomputable def BJ:List aA->Option aA
 | [.tuple ds]=>(tH ds).bind fun is=>if is.length<64 then some (.list ((sortI is).map bT)) else none
 | _=>none
theorem Jc {K:aP}:CallD K 1 (fun xs H Q=>∃ p,∃ ns:List Int,xs=[.ref p]/\SqT K H p (ns.map V.int)/\ns.length<64 /\ ∀ (l:aD) (ns':List Int),H l=none->ns'.Perm ns->ns'.Pairwise (· ≤ ·)->Q (.ref l) (upd H l (.lst (ns'.map V.int)))) BJ:=fun P H xs ds d Q hP r e k=>by
 unfold BJ at e
 split at e
 ·obtain⟨is,e1,e2⟩:=XBs e
  obtain⟨hl,rfl⟩:=eI e2
  obtain rfl:=UF e1
  obtain⟨v,rfl,r'⟩:=hX r
  obtain⟨q,ys,rfl,hq,rr⟩:=Aax.mp r'
  obtain rfl:=RY rr
  refine⟨q,is,rfl,SqT.of (Aba _ _ hq),hl,fun l ns' hn hp hr=>?_⟩
  obtain rfl:=Gf hp hr
  exact k.lst hP hn (GN _)
 ·cases e
end
section
variable {X:Cx}
def YO (K:aP):V->List V->Hp->VK->Prop:=fun x vs H Q=>∃ l b xs zs,x = .ref l/\vs=[.ref b]/\H l=some (.lst xs)/\(SqL K H b zs \/ SqT K H b zs)/\xs.length+zs.length≤sizeLine/\Q .non (upd H l (.lst (xs++zs)))
theorem Fz:MtM X "list.extend" (YO X.K):=by
 intro pins s σ H x vs v us Q I rx rv h
 obtain⟨l,b,xs,zs,rfl,rfl,hH,hB,hz,q⟩:=h
 cases rx
 obtain⟨u,rfl,ru⟩:=rv.one
 cases ru
 obtain⟨z,its,n,r,hl,e⟩:=I.lstM hH
 obtain⟨its2,r2,T,o2,n2,g1,g2,g3,hT⟩ : ∃ (its2:List aG),Vals zs its2 /\ ∃ (T:String) (o2:bP) (n2:Nat),s.heap.get? b=some o2/\o2.cls = .type T/\o2.data = .seq its2.toArray n2/\(T = "list" \/ T = "tuple"):=by
  rcases hB with hB | hB
  ·obtain⟨its2,r2,pl,_⟩:=I.list hB
   obtain⟨o2,g1,g2,n2,g3⟩:=pl.isList
   exact⟨its2,r2,"list",o2,n2,g1,g2,g3,.inl rfl⟩
  ·obtain⟨its2,r2,pl,_⟩:=I.tuple hB
   obtain⟨o2,g1,g2,n2,g3⟩:=pl
   exact⟨its2,r2,"tuple",o2,n2,g1,g2,g3,.inr rfl⟩
 have hl2:=r2.length
 have hsz:its.toArray.size+its2.toArray.size≤sizeLine:=by rw[fW,fW]; omega
 have hlong : ¬ (!its.toArray.isEmpty&&EI (its.toArray.size+its2.toArray.size))=true:=by
  rw[On hsz,Bool.and_false]
  exact mV
 refine kK F.slot_list_extend ⟨_,e,rfl⟩ F.entry_list_extend ?_ (F.args_list_extend_2 _ _)
 unfold Builtin.«list.extend»
 refine aJ (m:=selfAndOne "list.extend" _) (bE ?_)
 show aO _ _ (wR (.ref l) (.ref b) .none) _ _ _
 unfold wR
 refine aJ (nM (T:=T) ⟨o2,g1,g2⟩ ?_)
 have yes:(VW (.ref l) (.ref b)||iM T == iM "list" || iM T == iM "tuple")=true:=by
  rcases hT with rfl | rfl
  ·rw[show(iM "list" == iM "list")=true from rfl]; simp
  ·rw[show(iM "tuple" == iM "tuple")=true from rfl]; simp
 rw[if_pos yes]
 refine aJ (listItems_at g1 g3 (aJ (listItems_at e rfl ?_)))
 rw[if_neg hlong]
 refine aJ (listUpdate_at e rfl (bE ⟨.none,rfl,?_⟩) (by rw[fW]; omega) (by show(its.toArray++its2.toArray).size≤sizeLine+1; rw[Array.size_append]; omega))
 refine⟨.non,_,I.lset (t':=s.toks) (f:=fun a=>a++its2.toArray) (its':=its++its2) hH e (by simp) (r.append r2) (by rw[pW]; omega),rfl,q⟩
end
section
variable {X:Cx}{H0:Hp}{P0:aD->Prop}{n0:Nat}{e:bA}{f:EF}{x:aE}{px pos apos cpos:cD}{i:Nat}
noncomputable def WO:aA->Option (List aA)
 | .list es=>some es
 | .tuple es=>some es
 | _=>none
noncomputable def DJ (i:Nat)(m:Md)(f:EF):SF:=fun ρ=>(eV 0 m f ρ).bind fun d=>(getL i ρ).bind fun ds=>(WO d).bind fun es=>if ds.length+es.length≤sizeLine then some (.nx (ρ.set i (some (1,.list (ds++es))))) else none
theorem OG {K:aP}{H:Hp}{ds es:List aA}{xs ys:List V}(h1:Aaz K H ds xs)(h2:Aaz K H es ys):Aaz K H (ds++es) (xs++ys):=h1.append h2
theorem Gu (i:Nat)(m:Md)(he:DE X e f)(hN:X.N[i]?=some x:=by rfl)(hv:lH X.env.scope x:=by first | exact aT rfl | exact aY (aT rfl) | exact aY (aY rfl))(hd:(x == ("__debug__" : aE))=false:=by decide)
  (hcd:(x == ("__classdict__" : aE))=false:=by decide) (hbase:rO (.Name x px) "extend" X.env (bX (.Name x px) X.env)=bX (.Name x px) X.env:=by rfl)
  (hfew:((fY cpos (bL (e::[]) X.env)).all (fun x=>!x.1)&&(rN cpos (rM [] X.env)).all (fun x=>x.1.isSome)
   && decide ((e::[]).length+([]:List jK).length+(if ([]:List jK).isEmpty then 0 else 1)<30))=true:=by rfl)
  (hline:(apos.endLine == cpos.line)=true:=by rfl) (hs:bL (e::[]) X.env=(false,bX e X.env)::bL [] X.env:=by rfl) (hplain:(fY cpos (bL [] X.env)).any (·.1)=false:=by rfl)
  (hsw:nR (.Call (.Attribute (.Name x px) "extend" apos) [e] [] cpos) none pos.line X.env=pure false:=by rfl):DS X H0 P0 n0 (.Expr (.Call (.Attribute (.Name x px) "extend" apos) [e] [] cpos) pos) (DJ i m f):=
 PS.imp (uU (sI zW PySem.F.slot_list_extend PySem.F.type_list_extend Fz (nG hN hv hd hcd) (iI (ev (H0:=H0) (P0:=P0) m he) kU hs) hbase hfew hline hs hplain) hsw) fun D σ H gh=>by
  obtain⟨B0,ρ,fp,o,S,ef,k⟩:=gh
  obtain⟨d,e1,ef2⟩:=XBs ef
  obtain⟨ds,e2,ef3⟩:=XBs ef2
  obtain⟨es,e3,ef4⟩:=XBs ef3
  obtain⟨hl,rfl⟩:=eI ef4
  obtain⟨p,xs,h1,h2,_,_⟩:=S.lst1 (mN e2)
  refine⟨.ref p,h1,.inl ⟨rfl,xs,SqL.of h2⟩,B0,ρ,fp,d,S,e1,fun v H2 gh=>?_⟩
  obtain⟨fp2,S2,r2⟩:=gh
  obtain⟨p2,xs2,q1,q2,q3,q4⟩:=S2.lst1 (mN e2)
  have:p2=p:=by rw[h1] at q1; cases q1; rfl
  subst this
  cases d with
  | list es'=>
   cases e3
   obtain⟨b,ys,rfl,hb,rr⟩:=Abx.mp r2.2
   exact⟨p2,b,xs2,ys,rfl,rfl,q2,.inl (Aba.sqL hb),by rw[q3.length,rr.length]; exact hl,k _ _ fp2 (q4 _ _ (OG q3 rr))⟩
  | tuple es'=>
   cases e3
   obtain⟨b,ys,rfl,hb,rr⟩:=Aax.mp r2.2
   exact⟨p2,b,xs2,ys,rfl,rfl,q2,.inr (SqT.of (Aba _ _ hb)),by rw[q3.length,rr.length]; exact hl,k _ _ fp2 (q4 _ _ (OG q3 rr))⟩
  | _=>cases e3
end
open PySem PySem.W PySem.Calls PyProof.Rows Att
def sL (ns:List Int):Prop:=∀ x∈ns,jC x≤1048576
theorem weigh : ∀ {ns:List Int} {x:Int},x∈ns->jC x≤WData.weightAll (ns.map WData.int)
 | n::ns,x,m=>by
  rw[fS,WData.weightAll]
  have e:WData.weight (.int n)=jC n:=by
   rw[WData.weight]
   rfl
  rcases fG.mp m with rfl | m
  ·rw[e]; omega
  ·have:=weigh m
   omega
theorem Rc {ns:List Int}(h:WData.layableAll [WData.list (ns.map WData.int)]=true):sL ns:=fun x m=>by
 have h1:WData.layable (.list (ns.map .int))=true:=by simpa [WData.layableAll] using h
 have h2:WData.weight (.list (ns.map WData.int))≤2 ^ 20:=of_decide_eq_true (hW.mp h1).2
 rw[WData.weight] at h2
 have:=weigh m
 omega
theorem Jb {l:OpenLaw}{n:Nat}{q:cL}{loose:List aE}{XP:(aE->Option aG)->bG->Prop}{YP:cA->bG->Prop}{d:DefRec}
  (hn:l.most=some n) (hdf:d.params.defaults=[])
  (call : ∀ (w:cA) (s₀ s₁:aL) (mg mb:aE->Option aG) (fa:aD) (o:bP) (pm cd doc:aG) (a:aD) (vs:List aG) (ns:List Int),
   sL ns->Ground q loose [] XP w s₀ mg mb s₁.heap->YP w s₁.heap ->
   s₁.heap.get? fa=some o->o.data = .func (docDef d.name d.params d.body d.scope pm cd doc)->s₁.heap.CodeRec cd d.name->mg d.name=some (.ref fa) ->
   s₁.heap.get? a=some { cls:=.type "list",data:=.seq vs.toArray }->rS vs ns->ns.length≤n->s₁.gens = #[] ->
   pR (bC l.prog w) wC (.call (.ref fa) ⟨[.ref a],[]⟩) (fun r s'=>r = .ok (.ret (.bool true))/\OldK s₁.heap s'.heap/\s'.os=s₁.os/\rV s'.gens) s₁) :
  WalkO q loose XP YP l.row.toRowW d [] (fun f vs=>PySem.call f vs):=by
 intro w s₀ s₁ mg mb G Y fa o pm cd doc dV kV ho hd hcd hD hmg hg args vals as hpre hlay hrd hwl hlo
 obtain rfl:dV = .none:=Dflts.none hD hdf
 obtain rfl:kV = .none:=Dflts.noKw hD
 obtain⟨a,vs,ns,rfl,rfl,hobj,hints,hlen⟩:=Ei hn hpre hwl
 refine enter_call (JM (call w s₀ s₁ mg mb fa o pm cd doc a vs ns (Rc hlay) G Y ho (fd_plain hd) hcd hmg hobj hints hlen hg) fun r s' hq=>?_)
 obtain⟨rfl,h2,h3,h4⟩:=hq
 exact⟨.inl ⟨.bool true,.bool true,[],rfl,fun _=>rfl,.bool true,Dg l _,fun _=>⟨List.Pairwise.nil,fun _ hm=>(nomatch hm)⟩⟩,h2,h3,h4⟩
theorem A1k {l:US}{n k:Nat}{q:cL}{loose:List aE}{XP:(aE->Option aG)->bG->Prop}{YP:cA->bG->Prop}{d:DefRec}{K:Params->aP}{CX:cA->CXT}{sp:cA->Sp}{x:aE}
  (hn:l.most=some n) (hn2:n≤sizeLine) (hdf:d.params.defaults=[]) (hr:Room k wC)
  (hY : ∀ (w:cA) (h:bG),YP w h->(K w.params).In h)
  (F : ∀ (w:cA) (mg:aE->Option aG) (fa:aD) (h:bG),(K w.params).In h->h.Ns eQ mg->mg d.name=some (.ref fa) ->
   ∃ fd:iA,(∀ (s:aL) (u:aG),BindsTo s fd ⟨[u],[]⟩ [(x,u)]) /\
    ∀ base:bG,(K w.params).In base->base.Ns eQ mg->FnOk l.prog w (K w.params) mg base (CX w) k fa fd [x] (sp w))
  (hsp : ∀ (w:cA) (H:Hp) (a:aD) (ns:List Int),sL ns->ns.length≤n->Only H->SqL (K w.params) H a (ns.map V.int)->sp w [.ref a] H (fun v _=>v = .bl true) fun _ _ _=>False)
  (hCX : ∀ (w:cA) (H:Hp) (s:aL) (e:aG) (s':aL),CX w [] H s (fun _ _ _=>False) e s'->False) :
  PySem.W.WalkO q loose XP YP l.row.toRowW d [] (fun f vs=>PySem.call f vs):=by
 refine Jb hn hdf fun w s₀ s₁ mg mb fa o pm cd doc a vs ns hB G Y ho hd hcd hmg hobj hints hlen hg=>?_
 have KX:=hY w _ Y
 obtain⟨fd,hb,hF⟩:=F w mg fa _ KX G.T.g hmg
 exact Oj KX G.T.g G.T.b G.T.builtins G.T.nolimit hg hobj hints (jW hlen hn2) hr hF hb (fun H hO hS=>hsp w H a ns hB hlen hO hS) fun H e s'=>hCX w H s₁ e s'
noncomputable def mY:aA->aA->Option aA:=g2C (fun i j=>(i.natAbs<2 ^ 64 \/ j.natAbs<2 ^ 64) \/ jC i+jC j≤134217728) fun i j=>.int (i*j)
section
variable {X:Cx}{a b:bA}{fa fb:EF}{pos:cD}
theorem Nj:OpR X (jV .Mult) (rI (fun i j=>(i.natAbs<2 ^ 64 \/ j.natAbs<2 ^ 64) \/ jC i+jC j≤134217728) fun i j=>.int (i*j)):=by
 intro pins s σ H x y v u Q I rx ry ⟨i,j,ex,ey,hc,q⟩
 rcases hc with hc | hc
 ·exact PN pins s σ H x y v u Q I rx ry ⟨i,j,ex,ey,.inl hc,q⟩
 ·exact opI (fun i j _ _ _ _ _ hc q=>mul_int q (Sr (dA _) (dA _) hc)) pins s σ H x y v u Q I rx ry ⟨i,j,ex,ey,hc,q⟩
theorem uS (ha:DE X a fa)(hb:DE X b fb):DE X (.BinOp a .Mult b pos) (eOp mY fa fb):=oB Nj (xA (fun _ _ h=>h) fun _ _ _=>Aas.mpr rfl) ha hb
end
section
variable {X:Cx}{k v:bA}{pos:cD}
noncomputable def tD1 (tk tv:TE):TE:=fun σ H Q=>∀ p,H p=none->tk σ (upd H p (.dK 0 [])) fun x H1=>tv σ H1 fun y H2=>H2 p=some (.dK 0 []) /\ ∃ key,x=kV key /\ ∀ n,Q (.ref p) (upd H2 p (.dK n [(key,y)]))
theorem Qf {tk tv:TE}(hk:PE X k tk)(hv:PE X v tv):PE X (.Dict [some k] [v] pos) (tD1 tk tv):=fun pins s σ H Q I h=>by
 have I':Inv X pins σ (upd H s.heap.objs.size (.dK 0 [])) { s with heap:=s.heap.push { cls:=.type "dict",data:=.dict #[] } }:=I.laid (a:=s.heap.objs.size) (o:=.dK 0 []) (t':=s.toks) (fun _ _ q=>cY _ q) (dA _) (Qs s.heap I.big)
 have h':=h s.heap.objs.size (I.hok.fresh (dA _))
 refine wpAny_Dict_walk (knd:=fI X.prog X.w) rfl rfl (by simp) (by simp) ?_
 refine thn (Ow hk hv Lf pins _ σ _ (fun ps H2=>∃ x y,ps=[(x,y)]/\H2 s.heap.objs.size=some (.dK 0 []) /\ ∃ key,x=kV key /\ ∀ n,Q (.ref s.heap.objs.size) (upd H2 s.heap.objs.size (.dK n [(key,y)]))) I' ?_) fun vs s1 ⟨ps,H2,I2,rel,x,y,eps,e2,key,ex,q⟩=>?_
 ·show tk σ _ fun x H1=>tv σ H1 fun y H2=>_
  have mono:(tk σ (upd H s.heap.objs.size (.dK 0 [])) fun x H1=>tv σ H1 fun y H2=>∃ x1 y1,[(x,y)]=[(x1,y1)]/\H2 s.heap.objs.size=some (.dK 0 []) /\ ∃ key,x1=kV key /\ ∀ n,Q (.ref s.heap.objs.size) (upd H2 s.heap.objs.size (.dK n [(key,y1)]))):=by
   have e:(fun(x:V) (H1:Hp)=>tv σ H1 fun y H2=>∃ x1 y1,[(x,y)]=[(x1,y1)]/\H2 s.heap.objs.size=some (.dK 0 []) /\ ∃ key,x1=kV key /\ ∀ n,Q (.ref s.heap.objs.size) (upd H2 s.heap.objs.size (.dK n [(key,y1)])))=fun x H1=>tv σ H1 fun y H2=>H2 s.heap.objs.size=some (.dK 0 []) /\ ∃ key,x=kV key /\ ∀ n,Q (.ref s.heap.objs.size) (upd H2 s.heap.objs.size (.dK n [(key,y)])):=by
    funext x H1
    congr 1
    funext y H2
    refine propext ⟨fun⟨x1,y1,e,r⟩=>?_,fun r=>⟨x,y,rfl,r⟩⟩
    cases e
    exact r
   rw[e]
   exact h'
  exact mono
 ·subst eps ex
  have rel':VV (([(key,y)]:List (aK×V)).map fun kv=>(kV kv.1,kv.2)) vs:=rel
  obtain⟨rs,c,kv⟩:=QT (P:=X.prog) (w:=X.w) rel'
  obtain⟨_,hd,ws,r0,dd⟩:=CT I2.hok e2
  have ew:ws=[]:=by cases r0; rfl
  subst ew
  refine⟨rs,c,dd,fun h2 d2 sb=>?_⟩
  have he : ∃ o,h2.get? s.heap.objs.size=some o:=let ⟨o,_,_,ho,_⟩:=d2; ⟨o,ho⟩
  obtain⟨n,da⟩:=d2.dictAt
  have km:KV [(key,y)] (iT [] rs):=KV.merge (kvs:=[]) kv .nil
  exact⟨.ref s.heap.objs.size,_,BM I2 (by rw[e2]; exact nU) sb he (xH (by simp[rL]) hd km da),rfl,q n⟩
noncomputable def FJ:aA->Option V
 | .int i=>some (.int i)
 | .str z=>some (.str z)
 | _=>none
theorem Rg {K:aP}{H H':Hp}{d:aA}{v y:V}(e:FJ d=some y)(r:Acb K H d v):v=y/\Acb K H' d y:=by
 cases d with
 | int i=>cases e; exact⟨Aas.mp r,Aas.mpr rfl⟩
 | str z=>cases e; obtain⟨e1,e2⟩:=Abk.mp r; exact⟨e1,Abk.mpr ⟨rfl,e2⟩⟩
 | _=>cases e
noncomputable def eD1 (fk fv:EF):EF:=fun ρ=>(fk ρ).bind fun dk=>(cR dk).bind fun key=>(fv ρ).bind fun d=>(FJ d).bind fun _=>some (.dict [(kD key,d)])
theorem NN {fk fv:EF}(hk:DE X k fk)(hv:DE X v fv):DF 1 X (.Dict [some k] [v] pos) (eD1 fk fv):=PE.imp (Qf hk hv) fun σ H Q ⟨P,ρ,d,hP,rs,ef,kk⟩ p hp=>by
 obtain⟨dk,e1,ef⟩:=XBs ef
 obtain⟨key,e2,ef⟩:=XBs ef
 obtain⟨dv,e3,ef⟩:=XBs ef
 obtain⟨y0,e4,ef⟩:=XBs ef
 cases ef
 have x0:Ext H (upd H p (.dK 0 [])):=Ext.new hp
 refine⟨P,ρ,dk,hP.ext x0,rs.ext (dW x0),e1,eP fun x H1 x1 r1=>⟨P,ρ,dv,(hP.ext x0).ext x1,(rs.ext (dW x0)).ext (dW x1),e3,eP fun y H2 x2 r2=>?_⟩⟩
 have ep:H2 p=some (.dK 0 []):=x2 _ _ (x1 _ _ gR)
 obtain⟨rfl,rz⟩:=Rg (H':=hid (fun a=>if a=p then none else H2 a) P) e4 r2
 refine⟨ep,key,qV e2 r1,fun n=>?_⟩
 have xE:Ext H (fun a=>if a=p then none else H2 a):=fun a o e=>by
  have ne:a≠p:=fun q=>by rw[q,hp] at e; cases e
  show(if a=p then none else H2 a)=some o
  rw[if_neg ne]
  exact x2 _ _ (x1 _ _ (x0 _ _ e))
 have eu:upd H2 p (.dK n [(key,y)])=upd (fun a=>if a=p then none else H2 a) p (.dK n [(key,y)]):=by
  funext a
  unfold upd
  by_cases q:a=p
  ·simp[q]
  ·simp[q]
 rw[eu]
 exact(kk.mono xE).dic (hP.ext xE) (by simp) (Ab4.mpr ⟨key,y,[],rfl,rfl,rz,Acw.mpr rfl⟩)
end
def GD (P:cL)(w:cA)(K:aP)(a:aD)(kvs:List (aK×V)):Prop:=(a == iJ)=false /\ ∀ h,K.In h -> ∃ vs,KV kvs vs/\h.DictOf (fI P w) a vs
noncomputable abbrev gKV (kvi:List (aK×Int)):List (aK×V):=kvi.map fun p=>(p.1,V.int p.2)
noncomputable abbrev gKD (kvi:List (aK×Int)):List (aA×aA):=kvi.map fun p=>(kD p.1,.int p.2)
section
variable {X:Cx}{a:aD}{kvs:List (aK×V)}{e:bA}{f:EF}{x:aE}{px pos:cD}{kvi:List (aK×Int)}
theorem Ea (g:GD X.prog X.w X.K a kvs):OpR X (gS .NotIn) (fun x y H Q=>y = .ref a /\ ∃ k,x=kV k/\Q (.bl (true != (gX kvs k).isSome)) H):=by
 intro pins s σ H x y v u Q I rx ry h
 obtain⟨rfl,k,rfl,q⟩:=h
 cases ry
 obtain⟨hd,gg⟩:=g
 obtain⟨vs,rel,dd⟩:=gg s.heap I.kIn
 refine wpAny_notIn_of (oD rx) hd dd.mapOf ?_
 rw[← (rel.val k).isSome_eq]
 exact⟨.bl _,H,I.tok _,rfl,by simpa using q⟩
theorem TC (kvi:List (aK×Int))(k:aK) : ∃ o:Option Int,dG (gKD kvi) k=o.map bT/\gX (gKV kvi) k=o.map V.int:=by
 induction kvi with
 | nil=>exact⟨none,rfl,rfl⟩
 | cons p r ih=>
  obtain⟨o,h1,h2⟩:=ih
  have ek:cR (kD p.1)=some p.1:=by cases p.1 <;> rfl
  unfold dG at h1 ⊢
  unfold gX at h2 ⊢
  show ∃ o:Option Int,(((kD p.1,bT p.2)::gKD r).find? fun kd=>decide (cR kd.1=some k)).map (·.2)=o.map bT/\(((p.1,V.int p.2)::gKV r).find? fun kv=>decide (kv.1=k)).map (·.2)=o.map V.int
  rw[jX,jX]
  by_cases h:p.1=k
  ·have c1:decide (cR (kD p.1)=some k)=true:=by rw[ek,h]; simp
   have c2:decide (p.1=k)=true:=by simp[h]
   exact⟨some p.2,by simp only[c1]; rfl,by simp only[c2]; rfl⟩
  ·have c1:decide (cR (kD p.1)=some k)=false:=by rw[ek]; simpa using h
   have c2:decide (p.1=k)=false:=by simp[h]
   refine⟨o,?_,?_⟩
   ·simp only[c1]; exact h1
   ·simp only[c2]; exact h2
theorem plG (kvi:List (aK×Int)):plK (gKD kvi)=true:=by
 cases kvi with
 | nil=>rfl
 | cons p r=>obtain⟨k,v⟩:=p; cases k <;> rfl
theorem BQ (neg:Bool)(d:aA)(kds:List (aA×aA)):gIn neg d (.dict kds)=if plK kds=true then(cR d).bind fun k=>some (.bool (neg != (dG kds k).isSome)) else ET neg d kds:=by cases d <;> rfl
theorem WQ {neg:Bool}(σ:St)(H:Hp)(Q:VK)(h:tF X.K 0 (eOp (gIn neg) f (eC (.dict (gKD kvi)))) σ H Q) :
  tOp (fun x y H Q=>y = .ref a /\ ∃ k,x=kV k/\Q (.bl (neg != (gX (gKV kvi) k).isSome)) H) (tF X.K 0 f) (tC (.ref a)) σ H Q:=by
 obtain⟨P,ρ,d,hP,rs,ef,k⟩:=h
 obtain⟨d1,e1,ef⟩:=XBs ef
 obtain⟨d2,e2,ef⟩:=XBs ef
 cases e2
 refine⟨P,ρ,d1,hP,rs,e1,eP fun v H1 x1 r1=>?_⟩
 have ef:((cR d1).bind fun k=>some (fV (neg != (dG (gKD kvi) k).isSome)))=some d:=by
  rw[BQ,if_pos (plG kvi)] at ef
  exact ef
 obtain⟨k0,e3,ef⟩:=XBs ef
 cases ef
 obtain⟨o,h1,h2⟩:=TC kvi k0
 refine⟨rfl,k0,qV e3 r1,?_⟩
 rw[h1] at k
 rw[h2]
 have:(o.map V.int).isSome=(o.map bT).isSome:=by cases o <;> rfl
 rw[this]
 exact(k.mono x1).zero Ext.refl (Aav.mpr rfl)
theorem De (g:GD X.prog X.w X.K a (gKV kvi))(hg:Gl X x)(hm:X.mg x=some (.ref a))(he:DE X e f)(hb:wG .NotIn (.Name x px)=false:=by rfl)(hd:(x == ("__debug__" : aE))=false:=by decide):DT X (.Compare e [.NotIn] [.Name x px] pos) (bOf (eOp (gIn true) f (eC (.dict (gKD kvi))))):=
 PT.imp (MZ (Ea g) he (FN (v:=.ref a) hg hm rfl hd) hb) fun σ H Q gh=>by
  obtain⟨P,ρ,c,hP,rs,ef,k⟩:=gh
  obtain⟨d,e1,ef⟩:=XBs ef
  cases qQ ef
  exact WQ σ H _ ⟨P,ρ,_,hP,rs,e1,eP fun v H1 x1 r1=>⟨c,Aav.mp r1,k H1 x1⟩⟩
theorem ZN (g:GD X.prog X.w X.K a (gKV kvi))(hg:Gl X x)(hm:X.mg x=some (.ref a))(he:DE X e f)(hs:EV e)(hd:(x == ("__debug__" : aE))=false:=by decide):DE X (.Subscript (.Name x px) e pos) (eOp gIx (eC (.dict (gKD kvi))) f):=by
 intro pins s σ H Q I h
 obtain⟨P,ρ,d,hP,rs,ef,k⟩:=h
 obtain⟨d2,e2,ef⟩:=XBs ef
 cases e2
 obtain⟨d1,e1,ef⟩:=XBs ef
 have ef:((cR d1).bind fun k=>dG (gKD kvi) k)=some d:=ef
 obtain⟨k0,e3,ef⟩:=XBs ef
 obtain⟨o,h1,h2⟩:=TC kvi k0
 rw[h1] at ef
 obtain⟨i,rfl,rfl⟩:=pU.mp ef
 obtain⟨hsy,gg⟩:=g
 refine UG Sn.lookup hs (thn (FN hg hm (v:=.ref a) rfl hd pins s σ H (fun y H'=>y = .ref a/\H'=H) I ⟨rfl,rfl⟩) fun u s1 gh=>?_)
 obtain⟨y,H1,I1,ry,e4,e5⟩:=gh
 subst e4 e5
 obtain rfl:u=fZ a:=ry
 refine thn (he pins s1 σ H1 _ I1 ⟨P,ρ,d1,hP,rs,e1,eP (Q:=fun v H2=>∃ x1:Ext H1 H2,v=kV k0) fun v H2 x2 r2=>⟨x2,qV e3 r2⟩⟩) fun iv s2 gh=>?_
 obtain⟨y,H2,I2,ry,x2,ey⟩:=gh
 subst ey
 obtain⟨vs,rel,dd⟩:=gg s2.heap I2.kIn
 obtain⟨w',hw,rw'⟩:=Au8.some_of (v:=V.int i) (o:=tO vs k0) (by have:=rel.val k0; rw[h2] at this; exact this)
 refine⟨dd.typeIs,wpAny_getItem_of (oD ry) dd.mapOf hw ⟨.int i,H2,I2.tok _,rw',?_⟩⟩
 exact(k.mono x2).zero Ext.refl (Aas.mpr rfl)
end
def GO (P:cL)(w:cA)(o:bP)(kvs:List (aK×V)):Prop:=∃ vs es ep,KV kvs vs/\o.ExactDict/\o.data = .dict es ep/\KeysOf (fI P w) es/\Pairs (fI P w) es.toList vs/\(vs.map (·.1)).Nodup
theorem GD.of {P:cL}{w:cA}{K:aP}{a:aD}{o:bP}{kvs:List (aK×V)}(hs:(a == iJ)=false)(hl:K.lookup a=some o)(g:GO P w o kvs):GD P w K a kvs:=⟨hs,fun h hk=>by
 obtain⟨vs,es,ep,r,h1,h2,h3,h4,h5⟩:=g
 exact⟨vs,r,o,es,ep,hk a o hl,h1,h2,h3,h4,h5⟩⟩
theorem strSelf (x:aE)(t:Tok):JO x (.str x t)=true:=by simp[JO]
theorem Bea {P:cL}{w:cA}(es:List (aE×Int×Tok×Tok))(ep:Nat)(nd:(es.map (·.1)).Nodup):GO P w { cls:=.type "dict",data:=.dict (es.map fun e=>⟨PyData.keyHash w.params e.1,.str e.1 e.2.2.1,.int e.2.1 e.2.2.2⟩).toArray ep } (gKV (es.map fun e=>(.inr e.1,e.2.1))):=by
 refine⟨es.map fun e=>(.inr e.1,.int e.2.1 e.2.2.2),_,ep,?_,⟨rfl,rfl,rfl⟩,rfl,?_,?_,?_⟩
 ·clear nd
  induction es with
  | nil=>exact .nil
  | cons e r ih=>exact .cons ⟨rfl,_,rfl⟩ ih
 ·intro e m
  have m:e∈es.map fun e=>(⟨PyData.keyHash w.params e.1,.str e.1 e.2.2.1,.int e.2.1 e.2.2.2⟩:rT):=by simpa using m
  obtain⟨x,_,rfl⟩:=dP.mp m
  exact⟨.inr x.1,strSelf x.1 x.2.2.1,rfl⟩
 ·clear nd
  induction es with
  | nil=>exact .nil
  | cons e r ih=>exact .cons (strSelf e.1 e.2.2.1) rfl ih
 ·rw[kO]
  have : ∀ l:List (aE×Int×Tok×Tok),(l.map (·.1)).Nodup->(l.map ((fun kv:aK×aG=>kv.1)∘fun e=>((.inr e.1:aK),DM e.2.1 e.2.2.2))).Nodup:=fun l=>by
   induction l with
   | nil=>intro _; simp
   | cons e r ih=>
    intro h
    rw[fS,mE] at h ⊢
    refine⟨fun m=>h.1 ?_,ih h.2⟩
    obtain⟨y,my,q⟩:=dP.mp m
    have q:(iX y.1:aK)=iX e.1:=q
    exact dP.mpr ⟨y,my,JP q⟩
  exact this es nd
theorem CK:entryFor table "dict.update.loop" = some Builtin.«dict.update.loop»:=entryFor_of_tree (by kernel_rfl)
theorem qZ:plainId "dict.update.loop" = true:=by decide +kernel
theorem Iy:vZ (.type "list") "keys" = pure none:=by rw[JE,JN]; kernel_rfl
section
variable {prog:cL}{w:cA}{A:eD}{E:aG->aL->Prop}{s:aL}
theorem Li {a:aD}{xs:Array aG}{k:Nat}{sl:Array (Option aG)}{Q:Option aG->aL->Prop}(hx:s.heap.get? a=some { cls:=.type "list",dict:=none,data:=.seq xs k,slots:=sl })(hA:A.handled=none)
  (h : ∀ h' tk,(∀ b o,s.heap.get? b=some o->h'.get? b=some o)->Q none { s with heap:=h',toks:=tk }):aO (bC prog w) A (getAttr? (.ref a) "keys") Q E s:=by
 obtain⟨hp,g,d,tk,os⟩:=s
 have hT : ∀ tk',(⟨hp,g,d,tk',os⟩:aL).TypeIs (.ref a) "list":=fun _=>⟨_,hx,rfl⟩
 have f1:=sub_AttributeError
 have f3:=VQ.lookup
 have f4:=VQ.bind (.ref a)
 have f5:=am_list_getattr_none
 unfold getAttr? getAttrBy? getAttrBy
 repeat (any_goals (first | assumption | exact hT _ | ((with_reducible show aO _ _ (call (Value.builtin "list.__getattribute__") _ _) _ _ _); refine wD VQ (hT _) am_entry_list_getattribute (F.args_list_getattribute_2 _ _) (meets_getattribute_miss_list a xs k sl _ _ Iy (by decide +kernel)) ⟨hx,hA,fun h' tk' e hx'=>?_⟩) | wp_step))
 obtain⟨t',u',he⟩:=hx'.there
 show aO _ _ (JJ _ _ _ _ _ _ _) _ _ _
 unfold JJ
 repeat (any_goals (first | assumption | wp_step))
 exact h _ _ hx'.keeps
def Apa (h:bG)(D:aD)(wr:List aD)(items:Array aG)(kvs:List (aK×aG)):Prop:=
 ∀ (j:Nat) v,items[j]?=some v -> ∃ b kv p,v = .ref b/\kvs[j]?=some p/\h.IsTuple b #[kv,p.2]/\(fI prog w).is p.1 kv=true/\b≠D/\b∉wr
theorem Apa.keep {h h':bG}{D:aD}{wr:List aD}{items:Array aG}{kvs:List (aK×aG)}(q:Apa (prog:=prog) (w:=w) h D wr items kvs)(k : ∀ b o,b≠D->b∉wr->h.get? b=some o->h'.get? b=some o):Apa (prog:=prog) (w:=w) h' D wr items kvs:=fun j v e=>by
 obtain⟨b,kv,p,rfl,e1,⟨o,e2,e3⟩,e4,e5,e6⟩:=q j v e
 exact⟨b,kv,p,rfl,e1,⟨o,k b o e5 e6 e2,e3⟩,e4,e5,e6⟩
theorem HC : ∀ (more kvs:List (aK×aG)),(iT kvs more).length≤kvs.length+more.length
 | [],kvs=>dA _
 | p::r,kvs=>by
  have h1:=HC r (rK kvs p.1 p.2)
  have h2:(rK kvs p.1 p.2).length≤kvs.length+1:=by
   unfold rK
   split <;> simp
  show(iT (rK kvs p.1 p.2) r).length≤_
  rw[mF]
  omega
theorem Gg {R:Result->aL->Prop}{I:aD}{fp wr:List aD}{G:Array GenState->Array GenState->Prop}{n:Nat}{items:Array aG}{St:Nat->aL->Prop}
  (W:WalksS prog w A.in1 I fp wr G n (fun i v=>items[i]?=some v) St) (D:aD) (hDf:D∉fp) (kvs:List (aK×aG)) (hn:n≤sizeLine) (hkl:kvs.length=n) :
  ∀ (k i:Nat) (s:aL),n - i=k->i≤n->St i s->s.heap.DictOf (fI prog w) D (iT [] (kvs.take i))->Apa (prog:=prog) (w:=w) s.heap D wr items kvs ->
   (∀ s',Moved (D::wr) G s s'->s'.heap.DictOf (fI prog w) D (iT [] kvs)->R (.ok (.ret .none)) s') ->
   pR (bC prog w) A (.builtin "dict.update.loop" ⟨[.ref D,.ref I,iL (i:Int),.none],[]⟩) R s:=by
 have hDw:D∉wr:=fun z=>hDf (W.sub _ z)
 have more : ∀ b∈wr,b∈D::wr:=fun b z=>eR _ z
 intro k
 induction k with
 | zero=>
  intro i s hk hi hst hS hT hR
  obtain rfl:i=n:=by omega
  refine tR CK ?_
  rw[AK qZ _]
  show aO _ A.in1 (hU (.ref I) >>= _) _ _ s
  refine aJ (W.done s _ _ hst fun s' hm=>?_)
  show aO _ A.in1 (Builtin.Dict.addKeywords D [] >>= fun _=>ret jJ) _ _ s'
  refine aJ (bE (bE (hR s' (hm.mono more) ?_)))
  obtain⟨o,es,ep,ho,r⟩:=hS
  rw[← hkl,JX] at r
  exact⟨o,es,ep,hm.heap D o hDw ho,r⟩
 | succ k ih=>
  intro i s hk hi hst hS hT hR
  have hlt:i<n:=by omega
  refine tR CK ?_
  rw[AK qZ _]
  show aO _ A.in1 (hU (.ref I) >>= _) _ _ s
  refine aJ (W.item i s _ _ hlt hst fun v s' hPi hst' hm=>?_)
  have hT':=hT.keep (h':=s'.heap) fun b o _ h2 e=>hm.heap b o h2 e
  obtain⟨b,kv,p,rfl,e1,tb,e4,e5,e6⟩:=hT' i v hPi
  have hS':s'.heap.DictOf (fI prog w) D (iT [] (kvs.take i)):=by
   obtain⟨o,es,ep,ho,r⟩:=hS
   exact⟨o,es,ep,hm.heap D o hDw ho,r⟩
  have hstep:iT [] (kvs.take (i+1))=rK (iT [] (kvs.take i)) p.1 p.2:=by
   rw[EA,e1]
   simp[iT,KG]
  have hlen:(iT [] (kvs.take i)).length≤sizeLine:=by
   have:=HC (kvs.take i) []
   rw[wK] at this
   simp at this
   omega
  refine aJ (jI (aJ (wpAny_tryCatch ?_)))
  unfold Builtin.Dict.pairItems
  refine aJ (nM tb.typeIs ?_)
  obtain⟨ob,g1,g2,nb,g3⟩:=tb
  show aO _ _ (seqItems? (.ref b) >>= _) _ _ _
  refine aJ (mP g1 g3 (bE ?_))
  show aO _ _ (holding [kv,p.2] (dictSet D kv p.2)) _ _ _
  refine jI (wpAny_dictSet_pairs (knd:=fI prog w) e4 hS' (fun h' d' sb=>?_) hlen)
  refine bE ⟨zU qZ _,?_⟩
  refine ih (i+1) _ (by omega) hlt (W.frame _ s' _ _ hst' (DV _) fun c hc o e=>?_) (by rw[hstep]; exact d') (hT'.keep fun b o h1 _ e=>(sb.2 b h1).trans e) fun s'' hm'' S4=>?_
  ·exact(sb.2 c (fun z=>hDf (z ▸ hc))).trans e
  ·exact hR s'' (Moved.trans W.gtrans ((hm.mono more).then_heap (DV _) fun c o hc e=>(sb.2 c (fun z=>hc (z ▸ dF))).trans e) hm'') S4
theorem Fp {l:aD}{items:Array aG}{nl:Nat}{sl:Array (Option aG)}{kvs:List (aK×aG)}{Q:aG->aL->Prop}(hh:A.handled=none)(hl:s.heap.get? l=some { cls:=.type "list",dict:=none,data:=.seq items nl,slots:=sl })
  (hkl:kvs.length=items.size) (hz:items.size≤sizeLine) (hp : ∀ (j:Nat) v,items[j]?=some v -> ∃ b kv p,v = .ref b/\kvs[j]?=some p/\s.heap.IsTuple b #[kv,p.2]/\(fI prog w).is p.1 kv=true)
  (h : ∀ h' tk,h'.DictOf (fI prog w) s.heap.objs.size (iT [] kvs)->(∀ b o,s.heap.get? b=some o->h'.get? b=some o)->Q (.ref s.heap.objs.size) { s with heap:=h',toks:=tk }) :
  aO (bC prog w) A (call (.type "dict") [.ref l]) Q E s:=by
 refine callType_codes (Q₁:=fun obj s₁=>obj = .ref s.heap.objs.size/\s₁ = { s with heap:=s.heap.push { cls:=.type "dict",data:=.dict #[] } }) F.kt_called_dict (F.kt_typeCall_dict_1 _) F.entry_dict_init (kt_code_dict_new _ ⟨rfl,rfl⟩) ?_
 rintro obj s₁ ⟨rfl,rfl⟩
 have dn:(s.heap.push { cls:=.type "dict",data:=.dict #[] }).DictOf (fI prog w) s.heap.objs.size []:=Heap.DictOf.new s.heap
 have l1:(s.heap.push { cls:=.type "dict",data:=.dict #[] }).get? l=some { cls:=.type "list",dict:=none,data:=.seq items nl,slots:=sl }:=cY _ hl
 refine⟨dn.typeIs,F.args_dict_init_2 _ _,?_⟩
 unfold Builtin.«dict.__init__»
 refine aJ ?_
 unfold Builtin.Dict.selfAndRest
 refine aJ (UJ dn.typeIs (bE ?_))
 show aO _ _ (LA "dict.__init__" s.heap.objs.size (.ref l) [] .none) _ _ _
 unfold LA
 refine aJ (nM (T:="list") ⟨_,l1,rfl⟩ ?_)
 rw[if_pos (by decide)]
 refine aJ (Li l1 (by simp[hh]) fun h1 tk k1=>?_)
 show aO _ _ (rule _ >>= fun _=>tP (.ref l) >>= _) _ _ _
 have l2:h1.get? l=some { cls:=.type "list",dict:=none,data:=.seq items nl,slots:=sl }:=k1 _ _ l1
 have L2:h1.IsList l items:=⟨_,l2,rfl,nl,rfl⟩
 refine aJ (rJ (aJ (zS L2 (bE ⟨zU qZ _,?_⟩))))
 have lS:l<s.heap.objs.size:=cI hl
 have d1:h1.DictOf (fI prog w) s.heap.objs.size []:=by
  obtain⟨o,es,ep,ho,r⟩:=dn
  exact⟨o,es,ep,k1 _ _ ho,r⟩
 have sD:s.heap.objs.size<h1.objs.size:=by
  obtain⟨o,es,ep,ho,r⟩:=d1
  exact cI ho
 have nI:l≠h1.objs.size:=fC (JV lS sD)
 have nS:s.heap.objs.size∉[h1.objs.size,l]:=fun z=>by
  rcases fG.mp z with z | z
  ·exact absurd z (fC sD)
  ·exact absurd (fL.mp z) (kN lS)
 have old : ∀ b o,s.heap.get? b=some o->(h1.push { cls:=.type "list_iterator",data:=.fields #[.ref l,.int 0 0] }).get? b=some o:=fun b o e=>cY _ (k1 _ _ (cY _ e))
 refine Gg (w:=w) ((Walks.list (by simp[hh]) _ l nI items).toS) s.heap.objs.size nS kvs hz hkl (items.size - 0) 0 _ rfl (mS _) ⟨⟨_,eW _ rfl,rfl,rfl⟩,L2.push _⟩ (d1.push _) ?_ fun s' hm S'=>?_
 ·intro j v e
  obtain⟨b,kv,p,rfl,e1,⟨o,e2,e3⟩,e4⟩:=hp j v e
  have lb:b<s.heap.objs.size:=cI e2
  exact⟨b,kv,p,rfl,e1,⟨o,old b o e2,e3⟩,e4,fC lb,fun z=>absurd (fL.mp z) (fC (JV lb sD))⟩
 ·obtain⟨h',g',d',tk',os'⟩:=s'
  obtain rfl:g'=s.gens:=hm.gens
  obtain rfl:d'=s.drawn:=hm.drawn
  obtain rfl:os'=s.os:=hm.os
  refine⟨rfl,h h' tk' S' fun b o e=>?_⟩
  have lb:b<s.heap.objs.size:=cI e
  refine hm.heap b o (fun z=>?_) (old b o e)
  rcases fG.mp z with z | z
  ·exact absurd z (fC lb)
  ·exact absurd (fL.mp z) (fC (JV lb sD))
end
theorem ZM {α β:Type}{R R':α->β->Prop}(f : ∀ a b,R a b->R' a b) : ∀ {as:List α} {bs:List β},gV R as bs->gV R' as bs:=by
 intro as bs h
 induction h with
 | nil=>exact .nil
 | cons h _ ih=>exact .cons (f _ _ h) ih
section
variable {X:Cx}
abbrev IP (K:aP)(H:Hp)(ys:List V)(ps:List (aK×V)):Prop:=gV (fun y (p:aK×V)=>∃ b,y=V.ref b/\SqT K H b [kV p.1,p.2]) ys ps
theorem Qx {pins:List (aD×bP)}{σ:St}{H:Hp}{s:aL}(I:Inv X pins σ H s) : ∀ {ys:List V} {ps:List (aK×V)} {its:List aG},IP X.K H ys ps->Vals ys its ->
  ∃ kvs:List (aK×aG),KV ps kvs/\kvs.length=its.length /\ ∀ (j:Nat) v,its[j]?=some v -> ∃ b kv p,v = .ref b/\kvs[j]?=some p/\s.heap.IsTuple b #[kv,p.2]/\(fI X.prog X.w).is p.1 kv=true:=by
 intro ys ps its hp
 induction hp generalizing its with
 | nil=>
  intro r
  cases r
  exact⟨[],.nil,rfl,fun j v e=>by simp at e⟩
 | @cons y p ys ps hq t ih=>
  intro r
  obtain⟨b,e,q⟩:=hq
  subst e
  cases r with
  | cons r rr=>
   cases r
   obtain⟨kvs,h1,h2,h3⟩:=ih rr
   obtain⟨us,rv,tb,_⟩:=I.tuple q
   cases rv with
   | cons ra rb=>
    cases rb with
    | cons rb rc=>
     cases rc
     refine⟨(p.1,_)::kvs,.cons ⟨rfl,rb⟩ h1,by simp[h2],fun j v e=>?_⟩
     cases j with
     | zero=>
      cases e
      exact⟨b,_,(p.1,_),rfl,rfl,tb,oD ra⟩
     | succ j=>exact h3 j v (by simpa using e)
theorem RU (hc:X.calm=true):Ae3 X (.type "dict") (fun xs H Q=>∃ p ys ps,xs=[.ref p]/\SqL X.K H p ys/\IP X.K H ys ps /\ ∀ q n,H q=none->Q (.ref q) (upd H q (.dK n (kT [] ps)))):=by
 intro pins s σ H xs us Q I r h
 obtain⟨p,ys,ps,rfl,hp,hv,q⟩:=h
 obtain⟨u,rfl,ru⟩:=vals1 r
 cases ru
 obtain⟨its,rv,⟨o,n,ho,hc1,hc2,hc3⟩,hz⟩:=I.list hp
 obtain⟨kvs,h1,h2,h3⟩:=Qx I hv rv
 have e1:ys.length=its.length:=rv.length
 obtain⟨c,dct,dat,sl⟩:=o
 simp only at hc1 hc2 hc3
 subst hc1 hc2 hc3
 refine Fp (I.ok.hd hc) ho (kvs:=kvs) (by rw[fW]; exact h2) (by rw[fW]; omega) (fun j v e=>h3 j v (by simpa using e)) fun h' tk dd hk=>?_
 obtain⟨m,da⟩:=dd.dictAt
 have lz:(kT [] ps).length≤sizeLine:=by
  have l1:=CN ps []
  have l2:ps.length=kvs.length:=pT h1
  simp at l1
  omega
 exact⟨.ref s.heap.objs.size,_,I.laid (a:=s.heap.objs.size) (o:=.dK m (kT [] ps)) (t':=tk) hk (dA _) (xH lz (beq_eq_false_iff_ne.mpr (mR (fC I.big))) (h1.merge .nil) da),rfl,q _ m I.fresh⟩
noncomputable def rW:List aA->Option (List (aK×aA))
 | []=>some []
 | .tuple [k,d]::r=>(cR k).bind fun k=>(rW r).bind fun ps=>some ((k,d)::ps)
 | _::_=>none
noncomputable def gA (ps:List (aK×aA))(kds:List (aA×aA)):List (aA×aA):=ps.foldl (fun acc p=>putD acc p.1 p.2) kds
noncomputable def xP:List aA->Option aA
 | [.list ds]=>(rW ds).bind fun ps=>some (.dict (gA ps []))
 | _=>none
theorem GM {K:aP}{H:Hp} : ∀ {ps:List (aK×aA)} {qs:List (aK×V)},gV (fun(p:aK×aA) (q:aK×V)=>p.1=q.1/\Acb K H p.2 q.2) ps qs -> ∀ {kds:List (aA×aA)} {kvs:List (aK×V)},Ac1 K H kds kvs->Ac1 K H (gA ps kds) (kT kvs qs):=by
 intro ps qs hp
 induction hp with
 | nil=>exact fun r=>r
 | @cons p q ps qs hq t ih=>
  intro kds kvs r
  have:=ih (Ld (k:=p.1) r hq.2)
  show Ac1 K H (gA _ (putD kds p.1 p.2)) (kT (putK kvs q.1 q.2) _)
  rw[← hq.1]
  exact this
theorem Ol {K:aP}{H:Hp} : ∀ {ds:List aA} {ps:List (aK×aA)} {ys:List V},rW ds=some ps->Aaz K H ds ys -> ∃ qs:List (aK×V),gV (fun(y:V) (q:aK×V)=>∃ b,y=V.ref b/\H b=some (.tup [kV q.1,q.2])) ys qs/\gV (fun(p:aK×aA) (q:aK×V)=>p.1=q.1/\Acb K H p.2 q.2) ps qs:=by
 intro ds
 induction ds with
 | nil=>
  intro ps ys e r
  cases e
  rw[Aau.mp r]
  exact⟨[],.nil,.nil⟩
 | cons z ds ih=>
  intro ps ys e r
  cases z with
  | tuple zs=>
   cases zs with
   | nil=>cases e
   | cons k zs=>
    cases zs with
    | nil=>cases e
    | cons d zs=>
     cases zs with
     | cons _ _=>cases e
     | nil=>
      obtain⟨key,e1,e⟩:=XBs (show((cR k).bind fun k=>(rW ds).bind fun ps=>some ((k,d)::ps))=some ps from e)
      obtain⟨ps',e2,e⟩:=XBs e
      cases e
      obtain⟨v,t,rfl,r1,r2⟩:=Aan.mp r
      obtain⟨qs,h1,h2⟩:=ih e2 r2
      obtain⟨b,xs,rfl,hb,rx⟩:=Aax.mp r1
      obtain⟨u1,t1,rfl,a1,a2⟩:=Aan.mp rx
      obtain⟨u2,rfl,a3⟩:=hX a2
      rw[qV e1 a1] at hb
      exact⟨(key,u2)::qs,.cons ⟨b,rfl,hb⟩ h1,.cons ⟨rfl,a3⟩ h2⟩
  | _=>cases e
theorem RV {K:aP}:CallD K 1 (fun xs H Q=>∃ p ys ps,xs=[.ref p]/\SqL K H p ys/\IP K H ys ps /\ ∀ q n,H q=none->Q (.ref q) (upd H q (.dK n (kT [] ps)))) xP:=fun P H xs ds d Q hP r e k=>by
 unfold xP at e
 split at e
 ·obtain⟨ps,e1,e2⟩:=XBs e
  cases e2
  obtain⟨v,rfl,r'⟩:=hX r
  obtain⟨q,ys,rfl,hq,rr⟩:=Abx.mp r'
  obtain⟨qs,h1,h2⟩:=Ol e1 rr
  refine⟨q,ys,qs,rfl,Aba.sqL hq,?_,fun l n hn=>k.dic hP hn (GM h2 (Acw.mpr rfl))⟩
  exact ZM (fun y p ⟨b,e,hb⟩=>⟨b,e,SqT.of (Aba _ _ hb)⟩) h1
 ·cases e
end
section
variable {P:cL}{w:cA}{A:eD}{E:aG->aL->Prop}{s:aL}
theorem Qk {a:aD}{o:bP}{Q:Option bP->aL->Prop}(ho:s.heap.get? a=some o)(h:Q (some o) s):aO (bC P w) A (loadIfAlive a) Q E s:=fun Γ p _=>by
 show Q (s.heap.get? a) s
 rw[ho]
 exact h
abbrev CP (h:bG)(z TI TO:aD)(T:Nat)(c:Bool):Prop:=
 h.get? z=some { cls:=.type "zip",dict:=none,data:=.fields #[iL T,.bool c,.bool false,.ref TI,.ref TO],slots:=#[] }
variable {C z TI TO i1 i2:aD}{o1 o2:List aD}{S1 S2:Nat->bG->Prop}{xs ys:Array aG}{k T:Nat}{c:Bool}
def ZUp (D z TI TO i1 i2:aD)(S1 S2:Nat->bG->Prop)(k:Nat)(h:bG):Prop:=
 (∃ T c,CP h z TI TO T c/\(∃ o,h.get? T=some o)/\T≠z/\T≠i1/\T≠i2/\T≠D)/\kP h TI (.ref i1) (.ref i2)/\S1 k h/\S2 k h
theorem NG {Q:Bool->aL->Prop}(gz:CP s.heap z TI TO T c)(ha : ∃ o,s.heap.get? T=some o)(q : ∀ h' c',CP h' z TI TO T c'->tW z s.heap h'->Q false { s with heap:=h' }):aO (bC P w) A (qE (.ref z)) Q E s:=by
 obtain⟨o,ha⟩:=ha
 unfold qE
 refine aJ (gK gz rfl (x:=iL T) rfl ?_)
 show aO _ _ (loadIfAlive (T:Int).toNat >>= _) _ E s
 refine aJ (Qk (by simpa using ha) ?_)
 show aO _ _ (jU (.ref z) 1 >>= _) _ E s
 refine aJ (gK gz rfl (x:=.bool c) rfl ?_)
 cases c with
 | true=>
  show aO _ _ (pure PUnit.unit >>= fun _=>pure false) _ E s
  exact aJ (bE (bE (q _ _ gz (Heap.SameBut.refl _ _))))
 | false=>
  show aO _ _ (setField (.ref z) 1 (.bool true) >>= fun _=>pure false) _ E s
  exact aJ (nN gz (by simp) fun h' g' sb=>bE (q h' true g' sb))
theorem Qv {x y:aG}{Q:aG->aL->Prop}(D:ZApart z TI TO i1 i2 o1 o2)(U:Sub P w i1 o1 S1 xs)(V:Sub P w i2 o2 S2 ys)(st:ZUp C z TI TO i1 i2 S1 S2 k s.heap)(hx:xs[k]?=some x)(hy:ys[k]?=some y)
  (q : ∀ h' T,ZUp C z TI TO i1 i2 S1 S2 (k+1) h'->kP h' T x y->s.heap.objs.size≤T ->
   (∀ c o,c≠z->c≠TO->c≠i1->c≠i2->s.heap.get? c=some o->h'.get? c=some o)->Q (.ref T) { s with heap:=h' }) :
  aO (bC P w) A (Builtin.«zip.__next__» ⟨[.ref z],[]⟩) (fun fin s'=>∃ v,fin = .done (.ret v)/\Q v s') E s:=by
 obtain⟨⟨T,c,gz,⟨oT,gT⟩,T1,T2,T3,T4⟩,gI,st1,st2⟩:=st
 have z1:i1≠z:=fun e=>D.z1 (e ▸ U.mem)
 have z2:i2≠z:=fun e=>D.z2 (e ▸ V.mem)
 show aO _ _ (jU (.ref z) 2 >>= _) _ E s
 refine aJ (gK gz rfl (x:=.bool false) rfl ?_)
 show aO _ _ (jU (.ref z) 3 >>= _) _ E s
 refine aJ (gK gz rfl (x:=.ref TI) rfl (aJ (mP gI rfl ?_)))
 show aO _ _ (qE (.ref z) >>= _) _ E s
 refine aJ (NG gz ⟨oT,gT⟩ fun ha c' gza sa=>?_)
 simp only[oW,if_false,pure_bind]
 refine aJ ?_
 rw[← LG]
 simp only[ED,KF]
 refine aJ (aJ (jI ?_))
 show aO _ _ (mG (.ref i1) >>= _) _ _ _
 refine aJ (U.item _ _ _ _ k x (U.but st1 D.z1 sa.extBut) hx fun hb st1b sb=>bE ?_)
 refine bE (aJ (aJ (jI ?_)))
 show aO _ _ (mG (.ref i2) >>= _) _ _ _
 refine aJ (V.item _ _ _ _ k y (V.but (V.but st2 D.z2 sa.extBut) D.x12 sb.extBut) hy fun hd st2d sd=>bE ?_)
 refine bE (bE ?_)
 refine aJ (wpAny_newTuple (hsz:=by show 2≤sizeLine; decide) ?_)
 have up : ∀ c o,c≠z->c≠i1->c≠i2->s.heap.get? c=some o->hd.get? c=some o:=fun c o n1 n3 n4 g=>sd.extBut _ _ n4 (sb.extBut _ _ n3 (sa.extBut _ _ n1 g))
 have size:hd.objs.size=s.heap.objs.size:=by rw[sd.1,sb.1,sa.1]
 have gzd:CP hd z TI TO T c':=sd.extBut _ _ z2.symm (sb.extBut _ _ z1.symm gza)
 have st1d:S1 (k+1) hd:=U.but st1b D.x21 sd.extBut
 have pu : ∀ (c:aD) o,hd.get? c=some o->(hd.push { cls:=.type "tuple",data:=.seq #[x,y] }).get? c=some o:=fun c o g=>cY _ g
 refine bE ⟨_,rfl,q _ hd.objs.size ⟨⟨T,c',pu _ _ gzd,⟨oT,pu _ _ (up _ _ T1 T2 T3 gT)⟩,T1,T2,T3,T4⟩,pu _ _ (up _ _ D.TIz D.TI1 D.TI2 gI),U.keep _ _ _ st1d fun c _ o g=>pu _ _ g,V.keep _ _ _ st2d fun c _ o g=>pu _ _ g⟩ (eW _ rfl) (DY size.symm) fun c o n1 n2 n3 n4 g=>pu _ _ (up c o n1 n3 n4 g)⟩
theorem Rn {Q:Fin->aL->Prop}(hh:A.handled=none)(D:ZApart z TI TO i1 i2 o1 o2)(U:Sub P w i1 o1 S1 xs)(V:Sub P w i2 o2 S2 ys)(st:ZUp C z TI TO i1 i2 S1 S2 k s.heap)(hend:xs[k]?=none \/ ys[k]?=none)
  (q : ∀ h' e,(∀ c o,c≠z->c≠TO->c≠i1->c≠i2->s.heap.get? c=some o->h'.get? c=some o)->(∃ o,h'.get? e=some o/\o.cls = .type "StopIteration")->E (.ref e) { s with heap:=h' }) :
  aO (bC P w) A (Builtin.«zip.__next__» ⟨[.ref z],[]⟩) Q E s:=by
 obtain⟨⟨T,c,gz,⟨oT,gT⟩,T1,T2,T3,T4⟩,gI,st1,st2⟩:=st
 show aO _ _ (jU (.ref z) 2 >>= _) _ E s
 refine aJ (gK gz rfl (x:=.bool false) rfl ?_)
 show aO _ _ (jU (.ref z) 3 >>= _) _ E s
 refine aJ (gK gz rfl (x:=.ref TI) rfl (aJ (mP gI rfl ?_)))
 show aO _ _ (qE (.ref z) >>= _) _ E s
 refine aJ (NG gz ⟨oT,gT⟩ fun ha c' gza sa=>?_)
 simp only[oW,if_false,pure_bind]
 refine aJ ?_
 rw[← LG]
 simp only[ED,KF]
 refine aJ (aJ (jI ?_))
 show aO _ _ (mG (.ref i1) >>= _) _ _ _
 cases hx:xs[k]? with
 | none=>
  refine aJ (U.done _ _ _ _ k hh (U.but st1 D.z1 sa.extBut) hx fun hb e sb he=>?_)
  exact q hb e (fun c o n1 _ n3 _ g=>sb _ _ n3 (sa.extBut _ _ n1 g)) he
 | some x=>
  have hy:ys[k]?=none:=hend.resolve_left fun h=>by rw[hx] at h; cases h
  refine aJ (U.item _ _ _ _ k x (U.but st1 D.z1 sa.extBut) hx fun hb st1b sb=>bE ?_)
  refine bE (aJ (aJ (jI ?_)))
  show aO _ _ (mG (.ref i2) >>= _) _ _ _
  refine aJ (V.done _ _ _ _ k hh (V.but (V.but st2 D.z2 sa.extBut) D.x12 sb.extBut) hy fun hd e sd he=>?_)
  exact q hd e (fun c o n1 _ n3 n4 g=>sd _ _ n4 (sb.extBut _ _ n3 (sa.extBut _ _ n1 g))) he
def Bbm (C z TI TO i1 i2:aD)(S1 S2:Nat->bG->Prop)(k:Nat)(h:bG):Prop:=ZAt z TI TO i1 i2 S1 S2 .none k h \/ ZUp C z TI TO i1 i2 S1 S2 k h
theorem Er {x y:aG}{Q:Option aG->aL->Prop}(D:ZApart z TI TO i1 i2 o1 o2)(U:Sub P w i1 o1 S1 xs)(V:Sub P w i2 o2 S2 ys)(st:Bbm C z TI TO i1 i2 S1 S2 k s.heap)(hx:xs[k]?=some x)(hy:ys[k]?=some y)(lC:C<s.heap.objs.size)
  (q : ∀ h' T,ZUp C z TI TO i1 i2 S1 S2 (k+1) h'->kP h' T x y->s.heap.objs.size≤T ->
   (∀ c o,c≠z->c≠TO->c≠i1->c≠i2->s.heap.get? c=some o->h'.get? c=some o)->Q (some (.ref T)) { s with heap:=h' }):aO (bC P w) A (hU (.ref z)) Q E s:=by
 rcases st with st | st
 ·have lz:z<s.heap.objs.size:=cI st.1
  have l1:i1<s.heap.objs.size:=by obtain⟨o,e⟩:=U.obj _ _ st.2.2.2.1 _ U.mem; exact cI e
  have l2:i2<s.heap.objs.size:=by obtain⟨o,e⟩:=V.obj _ _ st.2.2.2.2 _ V.mem; exact cI e
  refine Qt D U V st hx hy fun h' ⟨g1,g2,g3,g4,g5⟩ pr sz old=>q h' _ ⟨⟨_,false,g1,⟨_,pr⟩,kN lz,kN l1,kN l2,kN lC⟩,g2,g4,g5⟩ pr (dA _) old
 ·have ty:s.TypeIs (.ref z) "zip":=by
   obtain⟨⟨T,c,gz,_⟩,_⟩:=st
   exact⟨_,gz,rfl⟩
  unfold hU
  exact aJ (tM (nQ (name:=nV "__next__") ty tX (kK tX ty KQ (Qv D U V st hx hy fun h' T a1 a2 a3 a4=>bE (q h' T a1 a2 a3 a4)) (KR _))))
theorem Sf {Q:Option aG->aL->Prop}(hh:A.handled=none)(D:ZApart z TI TO i1 i2 o1 o2)(U:Sub P w i1 o1 S1 xs)(V:Sub P w i2 o2 S2 ys)(st:Bbm C z TI TO i1 i2 S1 S2 k s.heap)(hend:xs[k]?=none \/ ys[k]?=none)
  (q : ∀ h',(∀ c o,c≠z->c≠TO->c≠i1->c≠i2->s.heap.get? c=some o->h'.get? c=some o)->Q none { s with heap:=h' }):aO (bC P w) A (hU (.ref z)) Q E s:=by
 rcases st with st | st
 ·exact Of hh D U V st hend q
 ·have ty:s.TypeIs (.ref z) "zip":=by
   obtain⟨⟨T,c,gz,_⟩,_⟩:=st
   exact⟨_,gz,rfl⟩
  unfold hU
  refine aJ (tM (nQ (name:=nV "__next__") ty tX (kK tX ty KQ (Rn hh D U V st hend fun h' e kp ⟨o,g1,g2⟩=>?_) (KR _))))
  exact aJ (zT (T:="StopIteration") (b:=true) ⟨o,g1,g2⟩ JI (bE (q _ kp)))
end
theorem Io:vZ (.type "zip") "keys" = pure none:=by rw[JE,JN]; kernel_rfl
section
variable {prog:cL}{w:cA}{A:eD}{E:aG->aL->Prop}{s:aL}
variable {z TI TO i1 i2:aD}{o1 o2:List aD}{S1 S2:Nat->bG->Prop}{xs ys:Array aG}
theorem Bbm.keep {P:cL}{k:Nat}{h h':bG}{D:aD}(U:Sub P w i1 o1 S1 xs)(V:Sub P w i2 o2 S2 ys)(nz:D≠z)(nI:D≠TI)(n1:D∉o1)(n2:D∉o2)(st:ZUp D z TI TO i1 i2 S1 S2 k h)(kp : ∀ c o,c≠D->h.get? c=some o->h'.get? c=some o):ZUp D z TI TO i1 i2 S1 S2 k h':=by
 obtain⟨⟨T,c,gz,⟨oT,gT⟩,T1,T2,T3,T4⟩,gI,st1,st2⟩:=st
 exact⟨⟨T,c,kp _ _ nz.symm gz,⟨oT,kp _ _ T4 gT⟩,T1,T2,T3,T4⟩,kp _ _ nI.symm gI,U.keep _ _ _ st1 fun c hc o g=>kp _ _ (fun e=>n1 (e ▸ hc)) g,V.keep _ _ _ st2 fun c hc o g=>kp _ _ (fun e=>n2 (e ▸ hc)) g⟩
theorem Rq {R:Result->aL->Prop}(hh:A.handled=none)(Z:ZApart z TI TO i1 i2 o1 o2)(U:Sub prog w i1 o1 S1 xs)(V:Sub prog w i2 o2 S2 ys)(D:aD)(nz:D≠z)(nI:D≠TI)(nO:D≠TO)(n1:D∉o1)(n2:D∉o2)(kvs:List (aK×aG))(hn:kvs.length≤sizeLine)
  (hend:xs[kvs.length]?=none \/ ys[kvs.length]?=none) (hkv : ∀ (j:Nat) p,kvs[j]?=some p -> ∃ kv,xs[j]?=some kv/\ys[j]?=some p.2/\(fI prog w).is p.1 kv=true) :
  ∀ (k i:Nat) (s:aL),kvs.length - i=k->i≤kvs.length->Bbm D z TI TO i1 i2 S1 S2 i s.heap->s.heap.DictOf (fI prog w) D (iT [] (kvs.take i)) ->
   (∀ h' tk,(∀ c o,c≠D->c≠z->c≠TO->c≠i1->c≠i2->s.heap.get? c=some o->h'.get? c=some o)->h'.DictOf (fI prog w) D (iT [] kvs)->R (.ok (.ret .none)) { s with heap:=h',toks:=tk }) ->
   pR (bC prog w) A (.builtin "dict.update.loop" ⟨[.ref D,.ref z,iL (i:Int),.none],[]⟩) R s:=by
 have e1:D≠i1:=fun e=>n1 (e ▸ U.mem)
 have e2:D≠i2:=fun e=>n2 (e ▸ V.mem)
 intro k
 induction k with
 | zero=>
  intro i s hk hi hst hS hR
  obtain rfl:i=kvs.length:=by omega
  refine tR CK ?_
  rw[AK qZ _]
  show aO _ A.in1 (hU (.ref z) >>= _) _ _ s
  refine aJ (Sf (by simp[hh]) Z U V hst hend fun h' kp=>?_)
  show aO _ A.in1 (Builtin.Dict.addKeywords D [] >>= fun _=>ret jJ) _ _ _
  refine aJ (bE (bE (hR h' _ (fun c o _ a b c' d g=>kp c o a b c' d g) ?_)))
  obtain⟨o,es,ep,ho,r⟩:=hS
  rw[JX] at r
  exact⟨o,es,ep,kp D o nz nO e1 e2 ho,r⟩
 | succ k ih=>
  intro i s hk hi hst hS hR
  have hlt:i<kvs.length:=by omega
  obtain⟨p,hp⟩ : ∃ p,kvs[i]?=some p:=⟨_,iO hlt⟩
  obtain⟨kv,hx,hy,hkk⟩:=hkv i p hp
  have lD:D<s.heap.objs.size:=by
   obtain⟨o,es,ep,ho,r⟩:=hS
   exact cI ho
  refine tR CK ?_
  rw[AK qZ _]
  show aO _ A.in1 (hU (.ref z) >>= _) _ _ s
  refine aJ (Er Z U V hst hx hy lD fun h' T st' pr hT1 old=>?_)
  have hS':h'.DictOf (fI prog w) D (iT [] (kvs.take i)):=by
   obtain⟨o,es,ep,ho,r⟩:=hS
   exact⟨o,es,ep,old D o nz nO e1 e2 ho,r⟩
  have hstep:iT [] (kvs.take (i+1))=rK (iT [] (kvs.take i)) p.1 p.2:=by
   rw[EA,hp]
   simp[iT,KG]
  have hlen:(iT [] (kvs.take i)).length≤sizeLine:=by
   have:=HC (kvs.take i) []
   rw[wK] at this
   simp at this
   omega
  refine aJ (jI (aJ (wpAny_tryCatch ?_)))
  unfold Builtin.Dict.pairItems
  have tb:(JQ { s with heap:=h' }).IsTuple T #[kv,p.2]:=⟨_,pr,rfl,0,rfl⟩
  refine aJ (nM tb.typeIs ?_)
  show aO _ _ (seqItems? (.ref T) >>= _) _ _ _
  refine aJ (mP pr rfl (bE ?_))
  show aO _ _ (holding [kv,p.2] (dictSet D kv p.2)) _ _ _
  refine jI (wpAny_dictSet_pairs (knd:=fI prog w) hkk hS' (fun h2 d' sb=>?_) hlen)
  refine bE ⟨zU qZ _,?_⟩
  have kp2 : ∀ c o,c≠D->h'.get? c=some o->h2.get? c=some o:=fun c o n g=>(sb.2 c n).trans g
  refine ih (i+1) _ (by omega) hlt (.inr (Bbm.keep U V nz nI n1 n2 st' kp2)) (by rw[hstep]; exact d') fun h3 tk kp3 S4=>?_
  exact hR h3 tk (fun c o a b c' d e g=>kp3 c o a b c' d e (kp2 c o a (old c o b c' d e g))) S4
theorem Kr:vZ (.type "zip") "__getattr__" = pure none:=by rw[JE,JN]; kernel_rfl
theorem Iw:entryFor table "zip.__getattribute__" = some Builtin.«object.__getattribute__»:=
 entryFor_alias (id':="object.__getattribute__") (by kernel_rfl) (by decide +kernel) (by decide +kernel) (by kernel_rfl)
theorem Oo (a:aD)(fs:Array aG)(name:aE)(u:Tok)(hmiss:vZ (.type "zip") name=pure none)(hname:(["__module__","__name__","__qualname__","__doc__","__annotations__"]:List aE).contains name=false)(hsz:name.length+100≤sizeLine:=by size_fits) :
  Meets (Builtin.«object.__getattribute__» ⟨[.ref a,.str name u],[]⟩) (fun A R s=>s.heap.get? a=some { cls:=.type "zip",dict:=none,data:=.fields fs,slots:=#[] }/\raisesAttr (.ref a) name A R s):=
 Meets.of_wp fun prog w A R s hs=>by
  obtain⟨hp,g,d,tk,os⟩:=s
  obtain⟨hx,hs⟩:=hs
  have hT:(⟨hp,g,d,tk,os⟩:aL).TypeIs (.ref a) "zip":=⟨_,hx,rfl⟩
  unfold Builtin.«object.__getattribute__»
  repeat (any_goals (first | assumption | wp_step))
  simp only[hname,oW,if_false]
  repeat (any_goals (first | assumption | wp_step))
  exact wpAny_raiseAttrError hs.1 hs.2 (attrMsg_fits (by decide +kernel) hsz)
theorem Ia {a:aD}{fs:Array aG}{Q:Option aG->aL->Prop}(hx:s.heap.get? a=some { cls:=.type "zip",dict:=none,data:=.fields fs,slots:=#[] })(hA:A.handled=none)
  (h : ∀ h' tk,(∀ b o,s.heap.get? b=some o->h'.get? b=some o)->Q none { s with heap:=h',toks:=tk }):aO (bC prog w) A (getAttr? (.ref a) "keys") Q E s:=by
 obtain⟨hp,g,d,tk,os⟩:=s
 have hT : ∀ tk',(⟨hp,g,d,tk',os⟩:aL).TypeIs (.ref a) "zip":=fun _=>⟨_,hx,rfl⟩
 have f1:=sub_AttributeError
 have f3:=VP.lookup
 have f4:=VP.bind (.ref a)
 have f5:=Kr
 unfold getAttr? getAttrBy? getAttrBy
 repeat (any_goals (first | assumption | exact hT _ | ((with_reducible show aO _ _ (call (Value.builtin "zip.__getattribute__") _ _) _ _ _); refine wD VP (hT _) Iw (F.args_zip_getattribute_2 _ _) (Oo a fs _ _ Io (by decide +kernel)) ⟨hx,hA,fun h' tk' e hx'=>?_⟩) | wp_step))
 obtain⟨t',u',he⟩:=hx'.there
 show aO _ _ (JJ _ _ _ _ _ _ _) _ _ _
 unfold JJ
 repeat (any_goals (first | assumption | wp_step))
 exact h _ _ hx'.keeps
theorem Gm {b1 b2:Bool}{l1 l2:aD}{kvs:List (aK×aG)}{Q:aG->aL->Prop}(hh:A.handled=none)(ap:ZApart z TI TO i1 i2 [i1,l1] [i2,l2])(ne1:l1≠i1)(ne2:l2≠i2)(st:ZAt z TI TO i1 i2 (StB b1 i1 l1 xs) (StB b2 i2 l2 ys) .none 0 s.heap)
  (hn:kvs.length≤sizeLine) (hend:xs[kvs.length]?=none \/ ys[kvs.length]?=none) (hkv : ∀ (j:Nat) p,kvs[j]?=some p -> ∃ kv,xs[j]?=some kv/\ys[j]?=some p.2/\(fI prog w).is p.1 kv=true)
  (h : ∀ h' tk,h'.DictOf (fI prog w) s.heap.objs.size (iT [] kvs)->(∀ b o,b≠z->b≠TO->b≠i1->b≠i2->s.heap.get? b=some o->h'.get? b=some o)->Q (.ref s.heap.objs.size) { s with heap:=h',toks:=tk }) :
  aO (bC prog w) A (call (.type "dict") [.ref z]) Q E s:=by
 have U:Sub prog w i1 [i1,l1] (StB b1 i1 l1 xs) xs:=DB b1 i1 l1 xs ne1
 have V:Sub prog w i2 [i2,l2] (StB b2 i2 l2 ys) ys:=DB b2 i2 l2 ys ne2
 refine callType_codes (Q₁:=fun obj s₁=>obj = .ref s.heap.objs.size/\s₁ = { s with heap:=s.heap.push { cls:=.type "dict",data:=.dict #[] } }) F.kt_called_dict (F.kt_typeCall_dict_1 _) F.entry_dict_init (kt_code_dict_new _ ⟨rfl,rfl⟩) ?_
 rintro obj s₁ ⟨rfl,rfl⟩
 have dn:(s.heap.push { cls:=.type "dict",data:=.dict #[] }).DictOf (fI prog w) s.heap.objs.size []:=Heap.DictOf.new s.heap
 refine⟨dn.typeIs,F.args_dict_init_2 _ _,?_⟩
 unfold Builtin.«dict.__init__»
 refine aJ ?_
 unfold Builtin.Dict.selfAndRest
 refine aJ (UJ dn.typeIs (bE ?_))
 show aO _ _ (LA "dict.__init__" s.heap.objs.size (.ref z) [] .none) _ _ _
 unfold LA
 have pz:(s.heap.push { cls:=.type "dict",data:=.dict #[] }).get? z=some _:=cY _ st.1
 refine aJ (nM (T:="zip") ⟨_,pz,rfl⟩ ?_)
 rw[if_pos (by decide)]
 refine aJ (Ia pz (by simp[hh]) fun h1 tk k1=>?_)
 show aO _ _ (rule _ >>= fun _=>tP (.ref z) >>= _) _ _ _
 have old : ∀ b o,s.heap.get? b=some o->h1.get? b=some o:=fun b o e=>k1 _ _ (cY _ e)
 have st1:ZAt z TI TO i1 i2 (StB b1 i1 l1 xs) (StB b2 i2 l2 ys) .none 0 h1:=by
  obtain⟨g1,g2,⟨a,b,g3⟩,g4,g5⟩:=st
  exact⟨old _ _ g1,old _ _ g2,⟨a,b,old _ _ g3⟩,U.keep _ _ _ g4 fun c _ o g=>old _ _ g,V.keep _ _ _ g5 fun c _ o g=>old _ _ g⟩
 refine aJ (rJ (aJ (wpAny_pyIter_zip st1.1 (bE ⟨zU qZ _,?_⟩))))
 have d1:h1.DictOf (fI prog w) s.heap.objs.size []:=by
  obtain⟨o,es,ep,ho,r⟩:=dn
  exact⟨o,es,ep,k1 _ _ ho,r⟩
 have ne : ∀ {b:aD},(∃ o,s.heap.get? b=some o)->s.heap.objs.size≠b:=fun⟨o,e⟩=>kN (cI e)
 obtain⟨g1,g2,⟨a,b,g3⟩,g4,g5⟩:=st
 have m1:=U.obj _ _ g4
 have m2:=V.obj _ _ g5
 refine Rq (w:=w) (by simp[hh]) ap U V s.heap.objs.size (ne ⟨_,g1⟩) (ne ⟨_,g2⟩) (ne ⟨_,g3⟩) (fun q=>ne (m1 _ q) rfl) (fun q=>ne (m2 _ q) rfl) kvs hn hend hkv (kvs.length - 0) 0 _ rfl (mS _) (.inl st1) d1 fun h' tk' kp S'=>⟨rfl,h h' tk' S' fun b o n1 n2 n3 n4 e=>kp b o (fC (cI e)) n1 n2 n3 n4 (old b o e)⟩
end
section
variable {X:Cx}{a b:bA}{p p2 pos pos2:cD}
abbrev KyV (xs:List V)(ks:List aK):Prop:=gV (fun x k=>x=kV k) xs ks
noncomputable def tDz (K:aP)(ta:TA):TE:=fun σ H Q=>ta σ H fun vs H1=>∃ a1 a2 b1 b2 xs ys ks,vs=[.ref a1,.ref a2]/\SqV b1 K H1 a1 xs/\SqV b2 K H1 a2 ys/\KyV xs ks/\xs.length≤sizeLine /\ ∀ q n,H1 q=none->Q (.ref q) (upd H1 q (.dK n (kT [] (ks.zip ys))))
theorem ZF {X:Cx} : ∀ {xs:List V} {ks:List aK} {ys:List V} {us vs:List aG},KyV xs ks->Vals xs us->Vals ys vs -> ∃ kvs:List (aK×aG),KV (ks.zip ys) kvs/\(us[kvs.length]?=none \/ vs[kvs.length]?=none)/\kvs.length≤xs.length /\ ∀ (j:Nat) p,kvs[j]?=some p -> ∃ kv,us[j]?=some kv/\vs[j]?=some p.2/\(fI X.prog X.w).is p.1 kv=true:=by
 intro xs ks ys us vs h
 induction h generalizing ys us vs with
 | nil=>
  intro r q
  cases r
  exact⟨[],.nil,.inl rfl,dA _,fun j p e=>by simp at e⟩
 | @cons x k xs ks e t ih=>
  intro r q
  cases r with
  | cons r rr=>
   cases q with
   | nil=>exact⟨[],.nil,.inr rfl,mS _,fun j p e=>by simp at e⟩
   | @cons y v ys vs q qq=>
    obtain⟨kvs,h1,h2,h3,h4⟩:=ih rr qq
    subst e
    refine⟨(k,v)::kvs,.cons ⟨rfl,q⟩ h1,by simpa using h2,by simpa using h3,fun j p e=>?_⟩
    cases j with
    | zero=>
     cases e
     exact⟨_,rfl,rfl,oD r⟩
    | succ j=>exact h4 j p (by simpa using e)
theorem Pk {ta:TA}(hc:X.calm=true)(g1:Gl X "dict")(m1:X.mg "dict" = none)(g2:Gl X "zip")(m2:X.mg "zip" = none)(ha:PA X [a,b] ta)
  (hs1:bL [wQ (.Name "zip" p2) [a,b] [] pos2] X.env=[(false,bX (wQ (.Name "zip" p2) [a,b] [] pos2) X.env)]:=by rfl) (hs2:bL [a,b] X.env=[(false,bX a X.env),(false,bX b X.env)]:=by rfl) (hs3:bL [b] X.env=[(false,bX b X.env)]:=by rfl) :
  PE X (.Call (.Name "dict" p) [.Call (.Name "zip" p2) [a,b] [] pos2] [] pos) (tDz X.K ta):=by
 intro pins s σ H Q I h
 refine Call_ (qJ I g1 m1 boot_dict (zX ?_ hs1 rfl))
 rw[hs1]
 show aO _ _ (spliced ((false,bX (wQ (.Name "zip" p2) [a,b] [] pos2) X.env)::[])) _ _ s
 refine KS ?_
 refine Call_ (qJ I g2 m2 boot_zip (zX (thn (ha pos2 pins s σ H _ I h) fun us s1 ⟨vs,H1,I1,r1,q1⟩=>?_) (by rw[hs2,hs3]) (by rw[hs3]; rfl)))
 obtain⟨a1,a2,b1,b2,xs,ys,ks,rfl,k1,k2,kk,hz,q⟩:=q1
 cases r1 with
 | cons r rr=>
  cases rr with
  | cons r' rr=>
   cases rr
   cases r
   cases r'
   obtain⟨u1,v1,w1⟩:=I1.sqB k1
   obtain⟨u2,v2,w2⟩:=I1.sqB k2
   have mm : ∀ {b:Bool} {l:aD} {us:Array aG},SqB b s1.heap l us->l<s1.heap.objs.size:=fun {b l us} w=>by
    cases b with
    | true=>obtain⟨o,e,_⟩:=w; exact cI e
    | false=>obtain⟨o,e,_⟩:=w; exact cI e
   refine Ov w1 w2 fun z TI TO i1 i2 h' y0 y1 y2 y3 y4 D zat all=>VS ?_
   obtain⟨kvs,e1,e2,e3,e4⟩:=ZF (X:=X) kk v1 v2
   refine Gm (s:={ s1 with heap:=h' }) (kvs:=kvs) (I1.ok.hd hc) D (fun e=>?_) (fun e=>?_) zat (by omega) (by simpa using e2) (fun j p e=>by simpa using e4 j p e) fun h2 tk dd hk=>?_
   ·exact mD _ (iE (mm w1) (e ▸ y3))
   ·exact mD _ (iE (mm w2) (e ▸ y4))
   obtain⟨m,da⟩:=dd.dictAt
   have lz:(kT [] (ks.zip ys)).length≤sizeLine:=by
    have l1:=CN (ks.zip ys) []
    have l2:(ks.zip ys).length=kvs.length:=pT e1
    simp at l1 l2
    omega
   have le:s1.heap.objs.size≤h'.objs.size:=by
    rcases Nat.lt_or_ge z h'.objs.size with hl | hl
    ·omega
    ·exact absurd (cI zat.1) (Nat.not_lt.mpr hl)
   have kp : ∀ c o,s1.heap.get? c=some o->h2.get? c=some o:=fun c o e=>by
    have lc:=cI e
    exact hk c o (fC (iE lc y0)) (fC (iE lc y2)) (fC (iE lc y3)) (fC (iE lc y4)) (all c o e)
   exact⟨.ref h'.objs.size,_,I1.laid (a:=h'.objs.size) (o:=.dK m (kT [] (ks.zip ys))) (t':=tk) kp le (xH lz (beq_eq_false_iff_ne.mpr (mR (fC (iE I1.big le)))) (e1.merge .nil) da),rfl,q _ m (I1.hok.fresh le)⟩
noncomputable def tL:List aA->Option (List aK)
 | []=>some []
 | k::r=>(cR k).bind fun k=>(tL r).bind fun ks=>some (k::ks)
noncomputable def sJ:List aA->Option aA
 | [x,y]=>(oY x).bind fun xs=>(oY y).bind fun ys=>(tL xs).bind fun ks=>if xs.length≤sizeLine then some (.dict (gA (ks.zip ys) [])) else none
 | _=>none
theorem PD {K:aP}{H:Hp} : ∀ {ds:List aA} {ks:List aK} {xs:List V},tL ds=some ks->Aaz K H ds xs->KyV xs ks
 | [],ks,xs,e,r=>by
  cases e
  rw[Aau.mp r]
  exact .nil
 | d::ds,ks,xs,e,r=>by
  obtain⟨k,e1,e⟩:=XBs (show((cR d).bind fun k=>(tL ds).bind fun ks=>some (k::ks))=some ks from e)
  obtain⟨ks',e2,e⟩:=XBs e
  cases e
  obtain⟨v,t,rfl,r1,r2⟩:=Aan.mp r
  exact .cons (qV e1 r1) (PD e2 r2)
theorem NT {K:aP}{H:Hp} : ∀ {ks:List aK} {es:List aA} {ys:List V},Aaz K H es ys->gV (fun(p:aK×aA) (q:aK×V)=>p.1=q.1/\Acb K H p.2 q.2) (ks.zip es) (ks.zip ys)
 | [],_,_,_=>.nil
 | _::_,[],ys,r=>by
  rw[Aau.mp r]
  exact .nil
 | k::ks,e::es,ys,r=>by
  obtain⟨v,t,rfl,r1,r2⟩:=Aan.mp r
  exact .cons ⟨rfl,r1⟩ (NT r2)
theorem NP {fa:AF}(hc:X.calm=true)(g1:Gl X "dict")(m1:X.mg "dict" = none)(g2:Gl X "zip")(m2:X.mg "zip" = none)(ha:DA X [a,b] fa)
  (hs1:bL [wQ (.Name "zip" p2) [a,b] [] pos2] X.env=[(false,bX (wQ (.Name "zip" p2) [a,b] [] pos2) X.env)]:=by rfl) (hs2:bL [a,b] X.env=[(false,bX a X.env),(false,bX b X.env)]:=by rfl) (hs3:bL [b] X.env=[(false,bX b X.env)]:=by rfl) :
  DF 1 X (.Call (.Name "dict" p) [.Call (.Name "zip" p2) [a,b] [] pos2] [] pos) (aQ sJ fa):=PE.imp (Pk hc g1 m1 g2 m2 ha hs1 hs2 hs3) fun σ H Q gh=>by
 obtain⟨P,ρ,d,hP,rs,ef,k⟩:=gh
 obtain⟨as,e1,ef2⟩:=XBs ef
 clear ef
 unfold sJ at ef2
 split at ef2
 ·obtain⟨xs,e2,ef3⟩:=XBs ef2
  obtain⟨ys,e3,ef4⟩:=XBs ef3
  obtain⟨ks,e4,ef5⟩:=XBs ef4
  obtain⟨hz,rfl⟩:=eI ef5
  refine⟨P,ρ,_,hP,rs,e1,fun vs H1 x1 r1=>?_⟩
  obtain⟨v,t,rfl,q1,q2⟩:=Aan.mp r1
  obtain⟨v',rfl,q3⟩:=hX q2
  obtain⟨a1,b1,us,rfl,k1,w1⟩:=HI e2 q1
  obtain⟨a2,b2,us',rfl,k2,w2⟩:=HI e3 q3
  exact⟨a1,a2,b1,b2,us,us',ks,rfl,k1 _ Aba,k2 _ Aba,PD e4 w1,by rw[w1.length]; exact hz,fun l n hn=>(k.mono x1).dic (hP.ext x1) hn (GM (NT w2) (Acw.mpr rfl))⟩
 ·cases ef2
end
section
variable {X:Cx}
def XQ:V->List V->Hp->VK->Prop:=fun x vs H Q=>∃ d b ep ep2 kvs more,x = .ref d/\vs=[.ref b]/\H d=some (.dK ep kvs)/\H b=some (.dK ep2 more)/\d≠b/\kvs.length+more.length≤sizeLine /\ ∀ n,Q .non (upd H d (.dK n (kT kvs more)))
theorem Fb:MtM X "dict.update" XQ:=by
 intro pins s σ H x vs v us Q I rx rv h
 obtain⟨d,b,ep,ep2,kvs,more,rfl,rfl,e,e2,ne,l,q⟩:=h
 cases rx
 obtain⟨u,rfl,ru⟩:=rv.one
 cases ru
 obtain⟨z,hd,ws,rel,dd⟩:=CT I.hok e
 obtain⟨z2,hd2,ws2,rel2,dd2⟩:=CT I.hok e2
 have l1:kvs.length=ws.length:=pT rel
 have l2:more.length=ws2.length:=pT rel2
 refine call_meetsIn Sm dd.typeIs PySem.F.entry_dict_update (PySem.F.args_dict_update_2 _ _) (meets_dict_update (fI X.prog X.w) d b ne hd2) ⟨ws,ws2,dd,dd2,by omega,fun h' dd' _ sb=>?_⟩
 have hl:(kT kvs more).length≤sizeLine:=by have:=CN more kvs; omega
 have he : ∃ q,h'.get? d=some q:=let ⟨q,_,_,hq,_⟩:=dd'; ⟨q,hq⟩
 obtain⟨n,da⟩:=dd'.dictAt
 exact⟨.non,_,BM I (by rw[e]; exact nU) sb he (xH hl hd (rel2.merge rel) da),rfl,q n⟩
end
section
variable {X:Cx}{H0:Hp}{P0:aD->Prop}{n0:Nat}{e:bA}{f:EF}{x:aE}{px pos apos cpos:cD}{i:Nat}
noncomputable def mW:List (aA×aA)->Option (List (aK×aA))
 | []=>some []
 | p::r=>(cR p.1).bind fun k=>(mW r).bind fun ps=>some ((k,p.2)::ps)
theorem Qr {K:aP}{H:Hp} : ∀ {es:List (aA×aA)} {ps:List (aK×aA)} {qs:List (aK×V)},mW es=some ps->Ac1 K H es qs->gV (fun(p:aK×aA) (q:aK×V)=>p.1=q.1/\Acb K H p.2 q.2) ps qs:=by
 intro es
 induction es with
 | nil=>
  intro ps qs e r
  cases e
  rw[Acw.mp r]
  exact .nil
 | cons p es ih=>
  intro ps qs e r
  obtain⟨k,e1,e⟩:=XBs (show((cR p.1).bind fun k=>(mW es).bind fun ps=>some ((k,p.2)::ps))=some ps from e)
  obtain⟨ps',e2,e⟩:=XBs e
  cases e
  obtain⟨p1,p2⟩:=p
  obtain⟨k',v,t,rfl,r1,r2,r3⟩:=Ab4.mp r
  refine .cons ⟨?_,r2⟩ (ih e2 r3)
  have:=RE e1
  simp only at this r1
  rw[r1] at this
  show k=k'
  cases k <;> cases k' <;> simp_all[kD]
noncomputable def uH (i:Nat)(m:Md)(f:EF):SF:=fun ρ=>(eV 0 m f ρ).bind fun d=>(dQ i ρ).bind fun kds=>match d with
 | .dict es=>(mW es).bind fun ps=>if plK es=true/\kds.length+es.length≤sizeLine then some (.nx (ρ.set i (some (1,.dict (gA ps kds))))) else none
 | _=>none
theorem Sta.dic1_out {K:aP}{B0 H:Hp}{ρ:bD}{σ:St}{fp:Nat->List aD}{ds:List (aA×aA)}{p b:aD}{o:HO}(S:Sta K H0 P0 B0 ρ σ H fp)(e:ρ[i]?=some (some (1,.dict ds)))(h:σ[i]?=some (some (.ref p)))(hb:L2.hid H (Hd P0 fp) b=some o):p≠b:=by
 obtain⟨v,h1,h2⟩:=S.slot i 1 _ e
 obtain⟨p',xs,Fs,rfl,hp,hF,h3⟩:=h2
 have:p'=p:=by rw[h] at h1; cases h1; rfl
 subst this
 intro z
 subst z
 exact(Acz.mp hb).1 (.inr ⟨i,by rw[hF]; exact dF⟩)
theorem PV (i:Nat)(m:Md)(he:DE X e f)(hN:X.N[i]?=some x:=by rfl)(hv:lH X.env.scope x:=by first | exact aT rfl | exact aY (aT rfl) | exact aY (aY rfl))(hd:(x == ("__debug__" : aE))=false:=by decide)
  (hcd:(x == ("__classdict__" : aE))=false:=by decide) (hbase:rO (.Name x px) "update" X.env (bX (.Name x px) X.env)=bX (.Name x px) X.env:=by rfl)
  (hfew:((fY cpos (bL (e::[]) X.env)).all (fun x=>!x.1)&&(rN cpos (rM [] X.env)).all (fun x=>x.1.isSome)
   && decide ((e::[]).length+([]:List jK).length+(if ([]:List jK).isEmpty then 0 else 1)<30))=true:=by rfl)
  (hline:(apos.endLine == cpos.line)=true:=by rfl) (hs:bL (e::[]) X.env=(false,bX e X.env)::bL [] X.env:=by rfl) (hplain:(fY cpos (bL [] X.env)).any (·.1)=false:=by rfl)
  (hsw:nR (.Call (.Attribute (.Name x px) "update" apos) [e] [] cpos) none pos.line X.env=pure false:=by rfl):DS X H0 P0 n0 (.Expr (.Call (.Attribute (.Name x px) "update" apos) [e] [] cpos) pos) (uH i m f):=
 PS.imp (uU (sI So Sm PySem.F.type_dict_update Fb (nG hN hv hd hcd) (iI (ev (H0:=H0) (P0:=P0) m he) kU hs) hbase hfew hline hs hplain) hsw) fun D σ H gh=>by
  obtain⟨B0,ρ,fp,o,S,ef,k⟩:=gh
  obtain⟨d,e1,ef2⟩:=XBs ef
  obtain⟨kds,e2,ef3⟩:=XBs ef2
  clear ef ef2
  cases d with
  | dict es=>
   obtain⟨ps,e3,ef4⟩:=XBs (show((mW es).bind fun ps=>if plK es=true/\kds.length+es.length≤sizeLine then some (Out.nx (ρ.set i (some (1,.dict (gA ps kds))))) else none)=some o from ef3)
   obtain⟨⟨hp,hl⟩,rfl⟩:=eI ef4
   obtain⟨p,ep,xs,h1,h2,_,_⟩:=S.dic1 (GT e2)
   refine⟨.ref p,h1,.inr (.inr (.inl ⟨rfl,.inl ⟨ep,xs,h2⟩⟩)),B0,ρ,fp,_,S,e1,fun v H2 gh=>?_⟩
   obtain⟨fp2,S2,r2⟩:=gh
   obtain⟨p2,ep2,xs2,q1,q2,q3,q4⟩:=S2.dic1 (GT e2)
   have:p2=p:=by rw[h1] at q1; cases q1; rfl
   subst this
   obtain⟨b,kvs,rfl,hb,rr⟩:=(BW hp).mp r2.2
   exact⟨p2,b,ep2,kvs.1,xs2,kvs.2,rfl,rfl,q2,(Acz.mp hb).2,S2.dic1_out (GT e2) q1 hb,by rw[q3.length,rr.length]; exact hl,fun n=>k _ _ fp2 (q4 n _ _ (GM (Qr e3 rr) q3))⟩
  | _=>cases ef3
end
section
variable {X:Cx}{e:bA}{f:EF}{pos p1 p2:cD}
noncomputable def eFs (z:aE)(f:EF):EF:=fun ρ=>(f ρ).bind fun d=>match d with
 | .int i=>if i.natAbs.log2<1920/\(z++(toString i:aE)).length≤1000/\fA (.str (z++(toString i:aE)))=true then some (.str (z++(toString i:aE))) else none
 | _=>none
theorem Ro (z:aE):Str.empty++z=z:=by
 show(⟨#[]++z.cps⟩:aE)=z
 simp
theorem MO {z:aE}{kc:Nat}(he:DE X e f)(hz:z.length≤1000)(hl:fA (.str z)=true)(hc:DE X (.Constant (.str z) kc p1) (eC (.str z))):DE X (.JoinedStr [.Constant (.str z) kc p1,.FormattedValue e (-1) none p2] pos) (eFs z f):=by
 intro pins s σ H Q I h
 obtain⟨P,ρ,d,hP,rs,ef,k⟩:=h
 obtain⟨d1,e1,ef⟩:=XBs ef
 cases d1 with
 | int i=>
  obtain⟨⟨hd,hs,hlay⟩,rfl⟩:=eI ef
  refine JoinedStr_many (joinParts_cons (thn (hc pins s σ H (fun x H'=>x = .str z/\Ext H H') I ⟨P,ρ,_,hP,rs,rfl,eP fun v H' x r=>⟨(Abk.mp r).1,x⟩⟩) fun u s1 gh=>?_))
  obtain⟨x,H1,I1,rx,ex,x1⟩:=gh
  subst ex
  obtain⟨t,rfl⟩:=rx
  have big:1000≤sizeLine:=by rw[rL]; omega
  show(Str.empty++z).length≤sizeLine/\aO (bC X.prog X.w) X.A (joinParts (Str.empty++z) (bX (e.FormattedValue (-1) none p2) X.env::evalEach [] X.env)) (EP X pins σ Q) X.xe s1
  rw[Ro]
  refine⟨jW hz big,joinParts_cons (FormattedValue_plain (thn (he pins s1 σ H1 (fun x H'=>x = .int i/\Ext H1 H') I1 ⟨P,ρ,_,hP.ext x1,rs.ext (dW x1),e1,eP fun v H' x r=>⟨Aas.mp r,x⟩⟩) fun u s2 gh=>?_))⟩
  obtain⟨x,H2,I2,rx,ex,x2⟩:=gh
  subst ex
  obtain⟨t2,rfl⟩:=rx
  refine formatField_int_small hd ?_
  have hsz:(z++(toString i:aE)).length≤sizeLine:=jW hs big
  refine⟨hsz,joinParts_nil ?_ hsz⟩
  exact⟨.str _,H2,(I2.tok _).tok _,⟨_,rfl⟩,(k.mono (x1.trans x2)).zero Ext.refl (Abk.mpr ⟨rfl,hlay⟩)⟩
 | _=>cases ef
end
theorem Kp (a:Int)(t:Tok)(l:aD)(items:Array aG)(n:Nat)(dd:Option aD)(sl:Array (Option aG)) :
  Meets (Builtin.«int.__rmul__» ⟨[.int a t,.ref l],[]⟩) (fun _ R s=>s.heap.get? l=some { cls:=.type "list",dict:=dd,data:=.seq items n,slots:=sl }/\R (.ok (.ret Value.notImplemented)) s):=
 .of_wp fun prog w A R s h=>by obtain⟨hp,g,d,tk,os⟩:=s; obtain⟨hl,h⟩:=h; wp_walk; exact⟨_,rfl,h⟩
theorem Gw (l:aD)(items:Array aG)(n:Nat)(dd:Option aD)(sl:Array (Option aG))(x:Int)(u:Tok)(hc0 : ¬(!Builtin.List.listFitsIndex x)=true)(hc1 : ¬items.size*x.toNat > (2 ^ 63 - 1) / 8)(hc2 : ¬EI (items.size*x.toNat)=true) :
  Meets (Builtin.«list.__mul__» ⟨[.ref l,.int x u],[]⟩) (fun _ R s=>s.heap.get? l=some { cls:=.type "list",dict:=dd,data:=.seq items n,slots:=sl }/\R (.ok (.ret (fZ s.heap.objs.size))) { s with heap:=s.heap.push { cls:=iM "list",data:=Data.seq (List.foldl (fun x1 x2=>x1++x2) #[] (fR (if items.isEmpty=true then 0 else x.toNat) items)) } }):=
 .of_wp fun prog w A R s h=>by
  obtain⟨hp,g,d,tk,os⟩:=s; obtain⟨hl,h⟩:=h
  have hsz:=PySem.AutoListH.joined_fits hc2
  wp_walk using AutoSeq1.wpAny_loadPart' hl
  refine wpAny_ite_false (decide_eq_false (Nat.not_lt.mpr hsz)) ?_
  wp_walk using AutoSeq1.wpAny_loadPart' hl
  exact⟨_,rfl,h⟩
theorem OH : ∀ (n:Nat) (acc its:Array aG),(List.foldl (· ++ ·) acc (fR n its)).toList=acc.toList++(fR n its.toList).flatten
 | 0,acc,its=>by simp
 | n+1,acc,its=>by
  rw[tU,pX,OH n (acc++its) its,tU,lG,Array.toList_append,List.append_assoc]
theorem OP {xs:List V}{us:List aG}(r:Vals xs us) : ∀ n:Nat,Vals (fR n xs).flatten (fR n us).flatten
 | 0=>.nil
 | n+1=>by
  rw[tU,tU,lG,lG]
  exact r.append (OP r n)
theorem OZ {K:aP}{H:Hp}{ds:List aA}{xs:List V}(r:Aaz K H ds xs) : ∀ n:Nat,Aaz K H (fR n ds).flatten (fR n xs).flatten
 | 0=>Aau.mpr rfl
 | n+1=>by
  rw[tU,tU,lG,lG]
  exact r.append (OZ r n)
theorem GK {α:Type}(xs:List α)(n:Nat):(fR n xs).flatten.length=n*xs.length:=by
 induction n with
 | zero=>simp
 | succ n ih=>rw[tU,lG,pW,ih]; rw[Nat.succ_mul]; omega
section
variable {X:Cx}{a b:bA}{fa fb:EF}{pos:cD}
noncomputable def YL (K:aP):R2:=fun x y H Q=>∃ a xs n,x = .ref a/\y = .int n/\SqL K H a xs /\ -1000≤n/\n<1000000/\xs.length*n.toNat≤1000000 /\ ∀ p,H p=none->Q (.ref p) (upd H p (.lst (fR n.toNat xs).flatten))
theorem My:OpR X (jV .Mult) (YL X.K):=by
 intro pins s σ H x y v u Q I rx ry h
 obtain⟨a,xs,n,rfl,rfl,ha,hlo,hhi,hz,q⟩:=h
 cases rx
 obtain⟨t,rfl⟩:=ry
 obtain⟨its,r1,p1,_⟩:=I.list ha
 have hl:xs.length=its.length:=r1.length
 obtain⟨⟨cls,dd,data,sl⟩,ho,hc,m,hd⟩:=p1.isList
 simp only at hc hd
 subst hc hd
 have sz:(fR n.toNat its).flatten.length≤1000000:=by
  rw[GK,Nat.mul_comm,← hl]
  exact hz
 have hz':its.length*n.toNat≤1000000:=by rw[← hl]; exact hz
 have l2:1000000≤sizeLine:=by rw[rL]; omega
 have ea:(List.foldl (fun x1 x2=>x1++x2) #[] (fR (if its.toArray.isEmpty=true then 0 else n.toNat) its.toArray))=(fR n.toNat its).flatten.toArray:=by
  apply Array.toList_inj.mp
  rw[OH]
  cases its with
  | nil=>
   have:(fR n.toNat ([]:List aG)).flatten=[]:=by
    apply AB
    rw[GK]
    simp
   simp[this]
  | cons i r=>simp
 refine wpAny_binaryOp_repeat_ref (T:="list") (U:="int") (by decide) ⟨_,ho,rfl⟩ (fun s'=>typeIs_int s' n t) noFill_list_mul PySem.F.fills_int_mul PySem.F.slot_int_rmul repeat_list PySem.F.slot_int_index.lookup
   (wD PySem.F.slot_int_rmul (typeIs_int s n t) PySem.F.entry_int_rmul (PySem.F.args_int_rmul_2 _ _) (Kp n t a its.toArray m dd sl) ⟨ho,rfl,⟨_,ho,rfl⟩,?_⟩)
 refine wD PySem.F.slot_list_mul ⟨_,ho,rfl⟩ PySem.F.entry_list_mul (PySem.F.args_list_mul_2 _ _) (Gw a its.toArray m dd sl n t (by simp[Builtin.List.listFitsIndex]; omega) (by rw[fW]; omega) (by rw[fW]; simp[EI]; omega)) ⟨ho,?_⟩
 rw[ea]
 exact⟨.ref _,_,I.lnew (t':=s.toks) (OP r1 _) (by rw[GK,Nat.mul_comm]; omega),rfl,q _ I.fresh⟩
noncomputable def IQ:aA->aA->Option aA
 | .list xs,.int n=>if -1000≤n/\n<1000000/\xs.length*n.toNat≤1000000 then some (.list (fR n.toNat xs).flatten) else none
 | _,_=>none
theorem Ny (ha:DE X a fa)(hb:DE X b fb):DF 1 X (.BinOp a .Mult b pos) (eOp IQ fa fb):=oB My (fun P H x y a b d Q hP ra rb e k=>by
 unfold IQ at e
 split at e
 ·rename_i zs n
  obtain⟨hc,rfl⟩:=eI e
  obtain⟨p,us,rfl,hp,r1⟩:=Abx.mp ra
  exact⟨p,us,n,rfl,Aas.mp rb,Aba.sqL hp,hc.1,hc.2.1,by rw[r1.length]; exact hc.2.2,fun q hq=>k.lst hP hq (OZ r1 _)⟩
 ·cases e) ha hb
end
section
variable {K:aP}{H0 H B0:Hp}{P0:aD->Prop}{ρ:bD}{σ:St}{fp:Nat->List aD}{i:Nat}
theorem Sta.writeN {n:Nat}{p:aD}{v:V}{o:HO}{d':aA}(S:Sta K H0 P0 B0 ρ σ H fp)(hi:i<ρ.length)(hv:σ[i]?=some (some v))(hp:p∈fp i)(ho:(∃ xs,o = .lst xs) \/ ∃ q:DQ,o=dO q)
  (new:Ajx K (L2.hid H (Hd P0 fp)) (upd H p o) n d' v (fp i)):Sta K H0 P0 B0 (ρ.set i (some (n,d'))) σ (upd H p o) fp:=by
 have same:L2.hid (upd H p o) (Hd P0 fp)=L2.hid H (Hd P0 fp):=by
  funext b
  unfold L2.hid
  by_cases q:Hd P0 fp b
  ·rw[if_pos q,if_pos q]
  ·rw[if_neg q,if_neg q]
   exact fH fun z=>q (.inr ⟨i,by rw[z]; exact hp⟩)
 refine⟨by simp[S.len],S.nd,S.dj,fun j a m=>⟨(S.own j a m).1,?_⟩,fun b u e=>?_,S.hd,by rw[same]; exact S.base,fun j n' d e=>?_⟩
 ·by_cases q:a=p
  ·subst q
   rcases ho with⟨xs,rfl⟩ | ⟨xs,rfl⟩
   ·exact .inl ⟨xs,gR⟩
   ·exact .inr ⟨xs,gR⟩
  ·rw[fH q]; exact(S.own j a m).2
 ·rw[fH (kJ e (S.own i p hp).1)]; exact S.ext b u e
 ·by_cases q:j=i
  ·subst q
   rw[rR hi] at e
   cases e
   exact⟨_,hv,by rw[same]; exact new⟩
  ·rw[nY (fun z=>q z.symm)] at e
   obtain⟨u,h1,h2⟩:=S.slot j n' d e
   refine⟨u,h1,?_⟩
   rw[same]
   exact h2.keep Ext.refl fun a m=>fH fun z=>q (S.dj j i a m (by rw[z]; exact hp))
theorem own1 {B:Hp}{ds:List aA}{v:V}{F:List aD}(h:Ajx K B H 1 (.list ds) v F) : ∃ p xs,v = .ref p/\H p=some (.lst xs)/\F=[p]/\Aaz K B ds xs:=by
 obtain⟨p,xs,Fs,rfl,hp,hF,h3⟩:=h
 obtain⟨r,hn⟩:=QS h3
 exact⟨p,xs,rfl,hp,by rw[hF,hn],r⟩
theorem Cd {B:Hp}{ds:List aA}{p:aD}{xs:List V}(hp:H p=some (.lst xs))(r:Aaz K B ds xs):Ajx K B H 1 (.list ds) (.ref p) [p]:=by
 obtain⟨q1,q2⟩:=HB (H1:=H) r
 exact⟨p,xs,_,rfl,hp,by rw[q2],q1⟩
end
section
variable {X:Cx}
def YR:V->List V->Hp->VK->Prop:=fun x vs H Q=>∃ l xs y,x = .ref l/\vs=[.int 0,y]/\H l=some (.lst xs)/\xs.length<sizeLine/\Q .non (upd H l (.lst (y::xs)))
theorem Me:MtM X "list.insert" YR:=by
 intro pins s σ H x vs v us Q I rx rv h
 obtain⟨l,xs,y,rfl,rfl,hH,hz,q⟩:=h
 cases rx
 obtain⟨u,w,rfl,ru,rw'⟩:=rv.two
 obtain⟨t,rfl⟩:=ru
 obtain⟨z,its,n,r,hl,e⟩:=I.lstM hH
 refine wD F.slot_list_insert ⟨_,e,rfl⟩ F.entry_list_insert (F.args_list_insert_3 _ _ _) (AutoSeq1.list_insert_list_int_val_1 l its.toArray n 0 t w (by decide) (by rw[fW]; omega)) ⟨e,?_⟩
 refine⟨.non,_,I.lset (its':=w::its) hH e ?_ (.cons rw' r) ?_,rfl,q⟩
 ·simp
 ·rw[mF]
  omega
end
section
variable {X:Cx}{H0:Hp}{P0:aD->Prop}{n0:Nat}{e:bA}{f:EF}{x:aE}{px pos apos cpos kpos:cD}{i:Nat}
noncomputable def CU (i:Nat)(m:Md)(f:EF):SF:=fun ρ=>(eV 0 m f ρ).bind fun d=>(getL i ρ).bind fun ds=>if ds.length<sizeLine then some (.nx (ρ.set i (some (1,.list (d::ds))))) else none
theorem Mx (i:Nat)(m:Md){jj}(he:DE X e f)(hN:X.N[i]?=some x:=by rfl)(hv:lH X.env.scope x:=by first | exact aT rfl | exact aY (aT rfl) | exact aY (aY rfl))(hd:(x == ("__debug__" : aE))=false:=by decide)
  (hcd:(x == ("__classdict__" : aE))=false:=by decide) (hbase:rO (.Name x px) "insert" X.env (bX (.Name x px) X.env)=bX (.Name x px) X.env:=by rfl)
  (hfew:((fY cpos (bL (.Constant (.int 0) jj kpos::[e]) X.env)).all (fun x=>!x.1)&&(rN cpos (rM [] X.env)).all (fun x=>x.1.isSome)
   && decide ((Expr.Constant (.int 0) jj kpos::[e]).length+([]:List jK).length+(if ([]:List jK).isEmpty then 0 else 1)<30))=true:=by rfl)
  (hline:(apos.endLine == cpos.line)=true:=by rfl) (hs:bL (.Constant (.int 0) jj kpos::[e]) X.env=(false,bX (.Constant (.int 0) jj kpos) X.env)::bL [e] X.env:=by rfl) (hs2:bL (e::[]) X.env=(false,bX e X.env)::bL [] X.env:=by rfl) (hplain:(fY cpos (bL [e] X.env)).any (·.1)=false:=by rfl)
  (hsw:nR (.Call (.Attribute (.Name x px) "insert" apos) [.Constant (.int 0) jj kpos,e] [] cpos) none pos.line X.env=pure false:=by rfl):DS X H0 P0 n0 (.Expr (.Call (.Attribute (.Name x px) "insert" apos) [.Constant (.int 0) jj kpos,e] [] cpos) pos) (CU i m f):=
 PS.imp (uU (sI zW PySem.F.slot_list_insert PySem.F.type_list_insert Me (nG hN hv hd hcd) (iI FH (iI (ev (H0:=H0) (P0:=P0) m he) kU hs2) hs) hbase hfew hline hs hplain) hsw) fun D σ H gh=>by
  obtain⟨B0,ρ,fp,o,S,ef,k⟩:=gh
  obtain⟨d,e1,ef2⟩:=XBs ef
  obtain⟨ds,e2,ef3⟩:=XBs ef2
  obtain⟨hl,rfl⟩:=eI ef3
  obtain⟨p,xs,h1,h2,_,_⟩:=S.lst1 (mN e2)
  refine⟨.ref p,h1,.inl ⟨rfl,xs,SqL.of h2⟩,B0,ρ,fp,d,S,e1,fun v H2 gh=>?_⟩
  obtain⟨fp2,S2,r2⟩:=gh
  obtain⟨p2,xs2,q1,q2,q3,q4⟩:=S2.lst1 (mN e2)
  have:p2=p:=by rw[h1] at q1; cases q1; rfl
  subst this
  exact⟨p2,xs2,v,rfl,rfl,q2,by rw[q3.length]; exact hl,k _ _ fp2 (q4 _ _ (Aan.mpr ⟨_,_,rfl,r2.2,q3⟩))⟩
end
section
variable {K:aP}{B H:Hp}{d d0 d1:aA}{a:List aA}{v:V}{F:List aD}
theorem DK (f:bS d=true):Agu K B H 1 d v F↔F=[]/\Acb K B d v:=by
 cases d with
 | list ds=>cases f
 | dict ds=>cases f
 | tuple ds=>
  constructor
  ·rintro(⟨_,h1,h2⟩ | ⟨h,_⟩)
   ·exact⟨h1,h2⟩
   ·exact absurd rfl h
  ·exact fun h=>.inl ⟨rfl,h.1,h.2⟩
 | _=>exact Iff.rfl
theorem XT (f0:bS d0=true)(f1:bS d1=true)(h:Ajx K B H 2 (.tuple [d0,d1,.list a]) v F) :
  ∃ q v0 v1 p xs,v = .ref q/\B q=some (.tup [v0,v1,.ref p])/\F=[p]/\H p=some (.lst xs)/\Acb K B d0 v0/\Acb K B d1 v1/\Aaz K B a xs:=by
 rcases h with⟨h0,_⟩ | ⟨_,q,us,Fs,rfl,hq,rfl,h3⟩
 ·cases h0
 ·cases h3 with
  | cons h1 t=>
   cases t with
   | cons h2 t=>
    cases t with
    | cons h3 t=>
     cases t with
     | nil=>
      obtain⟨p,xs,rfl,hp,rfl,r⟩:=own1 h3
      obtain⟨rfl,r0⟩:=(DK f0).mp h1
      obtain⟨rfl,r1⟩:=(DK f1).mp h2
      exact⟨q,_,_,p,xs,rfl,hq,rfl,hp,r0,r1,r⟩
theorem FT {q p:aD}{v0 v1:V}{xs:List V}(f0:bS d0=true)(f1:bS d1=true)(hq:B q=some (.tup [v0,v1,.ref p]))(hp:H p=some (.lst xs))(r0:Acb K B d0 v0)(r1:Acb K B d1 v1)(r:Aaz K B a xs) :
  Ajx K B H 2 (.tuple [d0,d1,.list a]) (.ref q) [p]:=
 .inr ⟨by decide,q,_,[[],[],[p]],rfl,hq,rfl,.cons ((DK f0).mpr ⟨rfl,r0⟩) (.cons ((DK f1).mpr ⟨rfl,r1⟩) (.cons (Cd hp r) .nil))⟩
end
section
variable {X:Cx}{H0:Hp}{P0:aD->Prop}{e0 e1 e:bA}{f0 f1 f:EF}{x:aE}{px pos apos cpos tpos spos kpos:cD}{i:Nat}
noncomputable def xB (m0:Md)(f0:EF)(m1:Md)(f1:EF)(i:Nat):SF:=fun ρ=>(eV 0 m0 f0 ρ).bind fun d0=>(eV 0 m1 f1 ρ).bind fun d1=>(getL i ρ).bind fun a=>if (bS d0&&bS d1)=true then some (.rt (.tuple [d0,d1,.list a])) else none
theorem MM (m0 m1:Md)(i:Nat){x1}(h0:DE X e0 f0)(h1:DE X e1 f1)(hN:X.N[i]?=some x:=by rfl)(hv:lH X.env.scope x:=by first | exact aT rfl | exact aY (aT rfl) | exact aY (aY rfl))(hd:(x == ("__debug__" : aE))=false:=by decide)
  (hcd:(x == ("__classdict__" : aE))=false:=by decide) (hs0:bL (e0::[e1,.Name x px]) X.env=(false,bX e0 X.env)::bL [e1,.Name x px] X.env:=by rfl) (hs1:bL (e1::[.Name x px]) X.env=(false,bX e1 X.env)::bL [.Name x px] X.env:=by rfl) :
  DS X H0 P0 2 (.Return (some (.Tuple [e0,e1,.Name x px] x1 tpos)) pos) (xB m0 f0 m1 f1 i):=
 PS.imp (xJ (FB (iI h0 (iI h1 (iI (nG hN hv hd hcd) kU) hs1) hs0))) fun D σ H gh=>by
  obtain⟨B0,ρ,fp,o,S,ef,k⟩:=gh
  obtain⟨d0,g0,ef⟩:=XBs ef
  obtain⟨d1,g1,ef⟩:=XBs ef
  obtain⟨a,g2,ef⟩:=XBs ef
  obtain⟨fl,rfl⟩:=eI ef
  have fl:=hW.mp fl
  refine wZ S g0 fl.1 fun v0 H1 x0 r0=>wZ (S.grow x0) g1 fl.2 fun v1 H2 x1 r1=>?_
  have S2:=(S.grow x0).grow x1
  obtain⟨v,h1,r⟩:=S2.slot i 1 _ (mN g2)
  obtain⟨p,xs,rfl,hp,hF,q1⟩:=own1 r
  have mp:p∈fp i:=by rw[hF]; exact dF
  refine⟨_,h1,by show 3≤sizeLine; rw[rL]; omega,fun q hq=>k _ _ ⟨[p],S2.ext.trans (Ext.new hq),by simp,fun c m=>?_,?_⟩⟩
  ·rw[fL.mp m]
   exact⟨(S2.own i _ mp).1,_,Ext.new hq _ _ hp⟩
  ·have xb:Ext (L2.hid H2 (Hd P0 fp)) (L2.hid (upd H2 q (.tup [v0,v1,.ref p])) (orL P0 [p])):=fun c oo ec=>by
    obtain⟨nc,ec⟩:=Acz.mp ec
    refine Acz.mpr ⟨fun z=>?_,Ext.new hq _ _ ec⟩
    rcases z with z | z
    ·exact nc (.inl z)
    ·rw[fL.mp z] at nc
     exact nc (.inr ⟨i,mp⟩)
   refine FT fl.1 fl.2 (Acz.mpr ⟨fun z=>?_,gR⟩) (Ext.new hq _ _ hp) ((r0.ext (dW x1)).ext xb) (r1.ext xb) (q1.ext xb)
   rcases z with z | z
   ·exact(S2.hd.ext S2.ext).new hq z
   ·rw[fL.mp z,hp] at hq
    cases hq
noncomputable def CW (m0:Md)(f0:EF)(m1:Md)(f1:EF)(m:Md)(f:EF):SF:=fun ρ=>(eV 0 m0 f0 ρ).bind fun d0=>(eV 0 m1 f1 ρ).bind fun d1=>(eV 1 m f ρ).bind fun d=>match d with
 | .list a=>if (bS d0&&bS d1)=true then some (.rt (.tuple [d0,d1,.list a])) else none
 | _=>none
theorem Nc (m0 m1 m:Md){x1}(h0:DE X e0 f0)(h1:DE X e1 f1)(he:DF 1 X e f)(hs0:bL (e0::[e1,e]) X.env=(false,bX e0 X.env)::bL [e1,e] X.env:=by rfl)(hs1:bL (e1::[e]) X.env=(false,bX e1 X.env)::bL [e] X.env:=by rfl)(hs2:bL (e::[]) X.env=(false,bX e X.env)::bL [] X.env:=by rfl) :
  DS X H0 P0 2 (.Return (some (.Tuple [e0,e1,e] x1 tpos)) pos) (CW m0 f0 m1 f1 m f):=
 PS.imp (xJ (FB (iI h0 (iI h1 (iI (ev (H0:=H0) (P0:=P0) m he) kU hs2) hs1) hs0))) fun D σ H gh=>by
  obtain⟨B0,ρ,fp,o,S,ef,k⟩:=gh
  obtain⟨d0,g0,ef⟩:=XBs ef
  obtain⟨d1,g1,ef⟩:=XBs ef
  obtain⟨d,g2,ef⟩:=XBs ef
  cases d with
  | list a=>
   obtain⟨fl,rfl⟩:=eI ef
   have fl:=hW.mp fl
   refine wZ S g0 fl.1 fun v0 H1 x0 r0=>wZ (S.grow x0) g1 fl.2 fun v1 H2 x1 r1=>?_
   have S2:=(S.grow x0).grow x1
   refine⟨L2.hid H2 (Hd P0 fp),ρ,fp,_,⟨S2.len,S2.nd,S2.dj,S2.own,S2.ext,S2.hd,Ext.refl,S2.slot⟩,g2,fun v H3 gh=>?_⟩
   obtain⟨fp3,S3,r⟩:=gh
   obtain⟨p,xs,rfl,hp,hF,q1⟩:=own1 r
   have mp:p∈fp3 ρ.length:=by rw[hF]; exact dF
   refine⟨by show 3≤sizeLine; rw[rL]; omega,fun q hq=>k _ _ ⟨[p],S3.ext.trans (Ext.new hq),by simp,fun c m=>?_,?_⟩⟩
   ·rw[fL.mp m]
    exact⟨(S3.own _ _ mp).1,_,Ext.new hq _ _ hp⟩
   ·have xb:Ext (L2.hid H3 (Hd P0 fp3)) (L2.hid (upd H3 q (.tup [v0,v1,.ref p])) (orL P0 [p])):=fun c oo ec=>by
     obtain⟨nc,ec⟩:=Acz.mp ec
     refine Acz.mpr ⟨fun z=>?_,Ext.new hq _ _ ec⟩
     rcases z with z | z
     ·exact nc (.inl z)
     ·rw[fL.mp z] at nc
      exact nc (.inr ⟨_,mp⟩)
    refine FT fl.1 fl.2 (Acz.mpr ⟨fun z=>?_,gR⟩) (Ext.new hq _ _ hp) (((r0.ext (dW x1)).ext S3.base).ext xb) ((r1.ext S3.base).ext xb) (q1.ext xb)
    rcases z with z | z
    ·exact(S3.hd.ext S3.ext).new hq z
    ·rw[fL.mp z,hp] at hq
     cases hq
  | _=>cases ef
noncomputable def CZ (i:Nat)(m:Md)(f:EF):SF:=fun ρ=>(eV 0 m f ρ).bind fun d=>match ρ[i]? with
 | some (some (2,.tuple [d0,d1,.list a]))=>if (bS d&&bS d0&&bS d1&&decide (a.length<sizeLine))=true then some (.nx (ρ.set i (some (2,.tuple [d0,d1,.list (a++[d])])))) else none
 | _=>none
theorem Ml {n0:Nat}(i:Nat)(m:Md){jj}(he:DE X e f)(hN:X.N[i]?=some x:=by rfl)(hv:lH X.env.scope x:=by first | exact aT rfl | exact aY (aT rfl) | exact aY (aY rfl))(hd:(x == ("__debug__" : aE))=false:=by decide)
  (hcd:(x == ("__classdict__" : aE))=false:=by decide) (hbase:rO (.Subscript (.Name x px) (.Constant (.int 2) jj kpos) spos) "append" X.env (bX (.Subscript (.Name x px) (.Constant (.int 2) jj kpos) spos) X.env)=bX (.Subscript (.Name x px) (.Constant (.int 2) jj kpos) spos) X.env:=by rfl)
  (hfew:((fY cpos (bL (e::[]) X.env)).all (fun x=>!x.1)&&(rN cpos (rM [] X.env)).all (fun x=>x.1.isSome)
   && decide ((e::[]).length+([]:List jK).length+(if ([]:List jK).isEmpty then 0 else 1)<30))=true:=by rfl)
  (hline:(apos.endLine == cpos.line)=true:=by rfl) (hs:bL (e::[]) X.env=(false,bX e X.env)::bL [] X.env:=by rfl) (hplain:(fY cpos (bL [] X.env)).any (·.1)=false:=by rfl)
  (hsw:nR (.Call (.Attribute (.Subscript (.Name x px) (.Constant (.int 2) jj kpos) spos) "append" apos) [e] [] cpos) none pos.line X.env=pure false:=by rfl) (hi:FY (.Constant (.int 2) jj kpos):=by exact fun _ _=>rfl) :
  DS X H0 P0 n0 (.Expr (.Call (.Attribute (.Subscript (.Name x px) (.Constant (.int 2) jj kpos) spos) "append" apos) [e] [] cpos) pos) (CZ i m f):=
 PS.imp (uU (sI zW UV UT BY (LZ TH (nG hN hv hd hcd) FH hi) (iI he kU hs) hbase hfew hline hs hplain) hsw) fun D σ H gh=>by
  obtain⟨B0,ρ,fp,o,S,ef,k⟩:=gh
  obtain⟨d,e1,ef⟩:=XBs ef
  split at ef
  ·rename_i d0 d1 a e
   obtain⟨fl,rfl⟩:=eI ef
   have fl:=hW.mp fl
   have fl1:=hW.mp fl.1
   have fl2:=hW.mp fl1.1
   have hi:i<ρ.length:=(gE.mp e).1
   obtain⟨v,h1,r⟩:=S.slot i 2 _ e
   obtain⟨q,v0,v1,p,xs,rfl,hq,hF,hp,r0,r1,rs⟩:=XT fl2.2 fl1.2 r
   have hq':H q=some (.tup [v0,v1,.ref p]):=(Acz.mp hq).2
   have mp:p∈fp i:=by rw[hF]; simp
   refine⟨.ref q,h1,.inr (.inl ⟨q,_,2,.ref p,rfl,rfl,SqT.of hq',rfl,.inl ⟨rfl,xs,SqL.of hp⟩,wZ S e1 fl2.1 fun w H2 x2 r2=>⟨p,xs,w,rfl,rfl,x2 _ _ hp,by rw[rs.length]; exact of_decide_eq_true fl.2,k _ _ fp ?_⟩⟩)⟩
   refine(S.grow x2).writeN hi h1 mp (.inl ⟨_,rfl⟩) ?_
   rw[hF]
   have xb:=dW (P:=Hd P0 fp) x2
   exact FT fl2.2 fl1.2 (xb _ _ hq) gR (r0.ext xb) (r1.ext xb) ((rs.ext xb).snoc r2)
  ·cases ef
end
end L2
namespace Aw
open PySem L2
noncomputable def top (i:Nat):cG:=PySem.Challenge.pw_askwithin_k48_a_chase_goes_step_by_step.main.body.getD i (.Pass ⟨0,0,0,0⟩)
noncomputable abbrev HF:cG:=top 1
noncomputable abbrev Gr:List aE:=["thing"]
noncomputable abbrev yL:List aE:=["thing"]
theorem Amf:FnScope Gr yL (bZ HF):=⟨rfl,rfl,rfl,by decide +kernel,rfl,by decide +kernel,by decide +kernel⟩
noncomputable abbrev BO:cG:=top 2
noncomputable abbrev OO:List aE:=["terms","known"]
noncomputable abbrev uY:List aE:=["terms","known"]
theorem Arf:FnScope OO uY (bZ BO):=⟨rfl,rfl,rfl,by decide +kernel,rfl,by decide +kernel,by decide +kernel⟩
noncomputable abbrev CM:cG:=top 3
noncomputable abbrev SL:List aE:=["lines","known"]
noncomputable abbrev zO:List aE:=["lines","known"]
theorem Ait:FnScope SL zO (bZ CM):=⟨rfl,rfl,rfl,by decide +kernel,rfl,by decide +kernel,by decide +kernel⟩
noncomputable abbrev FL:cG:=top 4
noncomputable abbrev Ap:List aE:=["lines","kept","line"]
noncomputable abbrev uN:List aE:=["lines"]
theorem Ayq:FnScope Ap uN (bZ FL):=⟨rfl,rfl,rfl,by decide +kernel,rfl,by decide +kernel,by decide +kernel⟩
noncomputable abbrev BV:cG:=top 6
noncomputable abbrev NS:List aE:=["values","columns"]
noncomputable abbrev sU:List aE:=["values","columns"]
theorem Ar2:FnScope NS sU (bZ BV):=⟨rfl,rfl,rfl,by decide +kernel,rfl,by decide +kernel,by decide +kernel⟩
noncomputable abbrev FF:cG:=top 11
noncomputable abbrev Cs:List aE:=["rule","line","other"]
noncomputable abbrev uM:List aE:=["rule","line","other"]
theorem Axu:FnScope Cs uM (bZ FF):=⟨rfl,rfl,rfl,by decide +kernel,rfl,by decide +kernel,by decide +kernel⟩
noncomputable abbrev BU:cG:=top 12
noncomputable abbrev OU:List aE:=["line","other"]
noncomputable abbrev uZ:List aE:=["line","other"]
theorem Ap8:FnScope OU uZ (bZ BU):=⟨rfl,rfl,rfl,by decide +kernel,rfl,by decide +kernel,by decide +kernel⟩
noncomputable abbrev GY:cG:=top 13
noncomputable abbrev Dm:List aE:=["term","other"]
noncomputable abbrev yE:List aE:=["term","other"]
theorem Anw:FnScope Dm yE (bZ GY):=⟨rfl,rfl,rfl,by decide +kernel,rfl,by decide +kernel,by decide +kernel⟩
noncomputable abbrev GP:cG:=top 14
noncomputable abbrev Rt:List aE:=["lines","number","i","j","column"]
noncomputable abbrev vD:List aE:=["lines","number","i","j","column"]
theorem Aog:FnScope Rt vD (bZ GP):=⟨rfl,rfl,rfl,by decide +kernel,rfl,by decide +kernel,by decide +kernel⟩
noncomputable abbrev IC:cG:=top 15
noncomputable abbrev Jn:List aE:=["lines","number","rule","i","line","j","columns"]
noncomputable abbrev yW:List aE:=["lines","number","rule"]
theorem Aj1:FnScope Jn yW (bZ IC):=⟨rfl,rfl,rfl,by decide +kernel,rfl,by decide +kernel,by decide +kernel⟩
noncomputable abbrev CO:cG:=top 16
noncomputable abbrev SK:List aE:=["lines","rule","line","wanted"]
noncomputable abbrev zM:List aE:=["lines","rule","line"]
theorem Ah6:FnScope SK zM (bZ CO):=⟨rfl,rfl,rfl,by decide +kernel,rfl,by decide +kernel,by decide +kernel⟩
noncomputable abbrev HV:cG:=top 17
noncomputable abbrev Hr:List aE:=["lines","rule","line"]
noncomputable abbrev vH:List aE:=["lines","rule","line"]
theorem Ak7:FnScope Hr vH (bZ HV):=⟨rfl,rfl,rfl,by decide +kernel,rfl,by decide +kernel,by decide +kernel⟩
noncomputable abbrev GQ:cG:=top 18
noncomputable abbrev Dt:List aE:=["lines","rules","i","line","number","rule"]
noncomputable abbrev yG:List aE:=["lines","rules"]
theorem Aoq:FnScope Dt yG (bZ GQ):=⟨rfl,rfl,rfl,by decide +kernel,rfl,by decide +kernel,by decide +kernel⟩
noncomputable abbrev IT:cG:=top 19
noncomputable abbrev XF:List aE:=["alternative","rules","number","rule","step"]
noncomputable abbrev sA:List aE:=["alternative","rules"]
theorem A5j:FnScope XF sA (bZ IT):=⟨rfl,rfl,rfl,by decide +kernel,rfl,by decide +kernel,by decide +kernel⟩
noncomputable abbrev CA:cG:=top 20
noncomputable abbrev QR:List aE:=["thing"]
noncomputable abbrev yH:List aE:=["thing"]
theorem Aoa:FnScope QR yH (bZ CA):=⟨rfl,rfl,rfl,by decide +kernel,rfl,by decide +kernel,by decide +kernel⟩
noncomputable abbrev II:cG:=top 21
noncomputable abbrev La:List aE:=["lines","rule","step","i","j"]
noncomputable abbrev zP:List aE:=["lines","rule","step"]
theorem Afw:FnScope La zP (bZ II):=⟨rfl,rfl,rfl,by decide +kernel,rfl,by decide +kernel,by decide +kernel⟩
noncomputable abbrev HN:cG:=top 22
noncomputable abbrev Gb:List aE:=["lines","step","rules","rule"]
noncomputable abbrev yI:List aE:=["lines","step","rules"]
theorem Am5:FnScope Gb yI (bZ HN):=⟨rfl,rfl,rfl,by decide +kernel,rfl,by decide +kernel,by decide +kernel⟩
noncomputable abbrev IF:cG:=top 23
noncomputable abbrev Kj:List aE:=["alternative","term","other","known"]
noncomputable abbrev zF:List aE:=["alternative","term","other"]
theorem Ai7:FnScope Kj zF (bZ IF):=⟨rfl,rfl,rfl,by decide +kernel,rfl,by decide +kernel,by decide +kernel⟩
noncomputable abbrev rB:cG:=top 24
noncomputable abbrev vR:List aE:=["alternative","many","taken","line","names"]
noncomputable abbrev yN:List aE:=["alternative","many"]
theorem Alk:FnScope vR yN (bZ rB):=⟨rfl,rfl,rfl,by decide +kernel,rfl,by decide +kernel,by decide +kernel⟩
noncomputable abbrev vP:cG:=top 25
noncomputable abbrev CL:List aE:=["alternative","rule","line","terms","free","added"]
noncomputable abbrev yV:List aE:=["alternative","rule","line"]
theorem Aj0:FnScope CL yV (bZ vP):=⟨rfl,rfl,rfl,by decide +kernel,rfl,by decide +kernel,by decide +kernel⟩
noncomputable abbrev GC:cG:=top 26
noncomputable abbrev Qy:List aE:=["alternative","step","rules","lines"]
noncomputable abbrev vB:List aE:=["alternative","step","rules"]
theorem Aq9:FnScope Qy vB (bZ GC):=⟨rfl,rfl,rfl,by decide +kernel,rfl,by decide +kernel,by decide +kernel⟩
noncomputable abbrev sX:cG:=top 27
noncomputable abbrev yC:List aE:=["alternative","steps","step","rules","other","there","puts"]
noncomputable abbrev yD:List aE:=["alternative","steps","step","rules"]
theorem Aoi:FnScope yC yD (bZ sX):=⟨rfl,rfl,rfl,by decide +kernel,rfl,by decide +kernel,by decide +kernel⟩
noncomputable abbrev FS:cG:=top 28
noncomputable abbrev Ly:List aE:=["alternative","rules","stands","steps","step"]
noncomputable abbrev xU:List aE:=["alternative","rules"]
theorem Aub:FnScope Ly xU (bZ FS):=⟨rfl,rfl,rfl,by decide +kernel,rfl,by decide +kernel,by decide +kernel⟩
noncomputable abbrev HX:cG:=top 30
noncomputable abbrev Hk:List aE:=["_law_script","_law_k","_law_number"]
noncomputable abbrev vV:List aE:=["_law_script","_law_k"]
theorem Ald:FnScope Hk vV (bZ HX):=⟨rfl,rfl,rfl,by decide +kernel,rfl,by decide +kernel,by decide +kernel⟩
noncomputable abbrev IB:cG:=top 31
noncomputable abbrev Iu:List aE:=["_law_cell_here","_law_size","_law_letters","_law_long","_law_at","_law_first","_law_names_here","_law_k","_law_name","_law_j","_law_step"]
noncomputable abbrev vO:List aE:=["_law_cell_here","_law_size"]
theorem Aka:FnScope Iu vO (bZ IB):=⟨rfl,rfl,rfl,by decide +kernel,rfl,by decide +kernel,by decide +kernel⟩
noncomputable abbrev HW:cG:=top 32
noncomputable abbrev Hv:List aE:=["_law_one","_law_two","_law_names_here","_law_far","_law_numbers"]
noncomputable abbrev yP:List aE:=["_law_one","_law_two"]
theorem Alo:FnScope Hv yP (bZ HW):=⟨rfl,rfl,rfl,by decide +kernel,rfl,by decide +kernel,by decide +kernel⟩
noncomputable abbrev HQ:cG:=top 33
noncomputable abbrev Ih:List aE:=["_law_cell_here","_law_k","_law_tables","_law_widths","_law_pool_here","_law_at","_law_terms","_law_j","_law_number"]
noncomputable abbrev yM:List aE:=["_law_cell_here","_law_k","_law_tables","_law_widths","_law_pool_here"]
theorem Ak8:FnScope Ih yM (bZ HQ):=⟨rfl,rfl,rfl,by decide +kernel,rfl,by decide +kernel,by decide +kernel⟩
noncomputable abbrev IG:cG:=top 34
noncomputable abbrev Ka:List aE:=["_law_cell_here","_law_size","_law_below","_law_left","_law_found","_law_k"]
noncomputable abbrev zG:List aE:=["_law_cell_here","_law_size","_law_below"]
theorem Ajb:FnScope Ka zG (bZ IG):=⟨rfl,rfl,rfl,by decide +kernel,rfl,by decide +kernel,by decide +kernel⟩
noncomputable abbrev HR:cG:=top 35
noncomputable abbrev Hx:List aE:=["_law_one","_law_two","_law_tables","_law_widths","_law_at","_law_to","_law_wide","_law_size","_law_columns","_law_others"]
noncomputable abbrev yR:List aE:=["_law_one","_law_two","_law_tables","_law_widths"]
theorem Alj:FnScope Hx yR (bZ HR):=⟨rfl,rfl,rfl,by decide +kernel,rfl,by decide +kernel,by decide +kernel⟩
noncomputable abbrev HZ:cG:=top 36
noncomputable abbrev Hq:List aE:=["_law_cell_here","_law_tables","_law_rules","_law_k","_law_to","_law_key"]
noncomputable abbrev yO:List aE:=["_law_cell_here","_law_tables"]
theorem Ale:FnScope Hq yO (bZ HZ):=⟨rfl,rfl,rfl,by decide +kernel,rfl,by decide +kernel,by decide +kernel⟩
noncomputable abbrev yJ:cG:=top 37
noncomputable abbrev HK:List aE:=["_law_script","_law_cell_here","_law_tables","_law_pool_here","_law_some","_law_widths","_law_rules","_law_k","_law_one","_law_lines","_law_line_here"]
noncomputable abbrev yS:List aE:=["_law_script"]
theorem Ams:FnScope HK yS (bZ yJ):=⟨rfl,rfl,rfl,by decide +kernel,rfl,by decide +kernel,by decide +kernel⟩
noncomputable abbrev CI:cG:=top 38
noncomputable abbrev RN:List aE:=["_law_cell_here","_law_lines","_law_terms","_law_table","_law_row"]
noncomputable abbrev yQ:List aE:=["_law_cell_here","_law_lines"]
theorem Alf:FnScope RN yQ (bZ CI):=⟨rfl,rfl,rfl,by decide +kernel,rfl,by decide +kernel,by decide +kernel⟩
noncomputable abbrev zI:cG:=top 39
noncomputable abbrev IH:List aE:=["_law_now","_law_step","_law_rules","_law_puts","_law_there"]
noncomputable abbrev vW:List aE:=["_law_now","_law_step","_law_rules","_law_puts"]
theorem Ajc:FnScope IH vW (bZ zI):=⟨rfl,rfl,rfl,by decide +kernel,rfl,by decide +kernel,by decide +kernel⟩
noncomputable abbrev IE:cG:=top 40
noncomputable abbrev Jt:List aE:=["_law_alternative","_law_rules","_law_steps","_law_lines","_law_line_here","_law_now","_law_puts","_law_step"]
noncomputable abbrev zH:List aE:=["_law_alternative","_law_rules","_law_steps"]
theorem Ai8:FnScope Jt zH (bZ IE):=⟨rfl,rfl,rfl,by decide +kernel,rfl,by decide +kernel,by decide +kernel⟩
noncomputable abbrev IA:cG:=top 41
noncomputable abbrev Iv:List aE:=["_law_word","_law_now","_law_rules","_law_steps","_law_puts","_law_step","_law_clashed"]
noncomputable abbrev yX:List aE:=["_law_word","_law_now","_law_rules","_law_steps","_law_puts"]
theorem Aj3:FnScope Iv yX (bZ IA):=⟨rfl,rfl,rfl,by decide +kernel,rfl,by decide +kernel,by decide +kernel⟩
noncomputable abbrev ID:cG:=top 42
noncomputable abbrev Kb:List aE:=["_law_found","_law_alternative","_law_rules","_law_steps","_law_walked_here","_law_step"]
noncomputable abbrev yU:List aE:=["_law_found","_law_alternative","_law_rules"]
theorem Aj4:FnScope Kb yU (bZ ID):=⟨rfl,rfl,rfl,by decide +kernel,rfl,by decide +kernel,by decide +kernel⟩
noncomputable abbrev sF:cG:=top 43
noncomputable abbrev WU:List aE:=["_law_script","_law_lines","_law_rules","_law_alternative","_law_handed","_law_found","_law_kept","_law_other","_law_again"]
noncomputable abbrev LR:List aE:=["_law_script"]
theorem A5o:FnScope WU LR (bZ sF):=⟨rfl,rfl,rfl,by decide +kernel,rfl,by decide +kernel,by decide +kernel⟩
structure Blt (mg:aE->Option aG):Prop where
 «isinstance» : mg "isinstance" = none
 «int» : mg "int" = none
 «bool» : mg "bool" = none
 «abs» : mg "abs" = none
 «range» : mg "range" = none
 «len» : mg "len" = none
 «str» : mg "str" = none
 «all» : mg "all" = none
 «any» : mg "any" = none
 «list» : mg "list" = none
 «tuple» : mg "tuple" = none
 «dict» : mg "dict" = none
 «set» : mg "set" = none
 «sorted» : mg "sorted" = none
 «sum» : mg "sum" = none
 «min» : mg "min" = none
 «max» : mg "max" = none
 «enumerate» : mg "enumerate" = none
 «zip» : mg "zip" = none
 «reversed» : mg "reversed" = none
 «ValueError» : mg "ValueError" = none
structure Cst (mg:aE->Option aG):Prop where
 MOST_LINES_THERE : ∃ t,mg "MOST_LINES_THERE" = some (.int 5 t)
 MOST_PUTS : ∃ t,mg "MOST_PUTS" = some (.int 16 t)
noncomputable abbrev mO:List (aK×Int):=[(.inr "clash",5),(.inr "same",5),(.inr "put",3)]
structure Gds (P:cL)(w:cA)(K:aP)(mg:aE->Option aG):Prop where
 PARTS : ∃ a,mg "PARTS" = some (.ref a)/\GD P w K a (gKV mO)
set_option maxHeartbeats 4000000
variable {P:cL}{w:cA}{K:aP}{mg:aE->Option aG}{base:bG}{f:aD}{fd:iA}
noncomputable def Hb:SF:=(bK 0 .s (cN (eUn (cT "int") (aB 0)) (dS (eUn (cT "bool") (aB 0)))))
noncomputable def qY:List aA->Option aA:=fnD 1 1 Hb
theorem Hj (F:Fun K "is_whole" "is_whole" HF f fd)(B:Blt mg)(C:Cst mg)(Z:Gds P w K mg):FnOk P w K mg base CX0 1 f fd yL (spF K 0 qY):=by
 have nd:=Amf.nd
 exact fD F Amf rfl (by decide) fun cdv A outer s H E P0 hr=>by
  have hu:=fF hr
  have hv:=eX hr
  exact(bO (cX .s (lV (mJ (T:="int") rfl B.isinstance rfl B.int PyProof.Rows.boot_int (by decide) (aC 0)) (mK (TL (mJ (T:="bool") rfl B.isinstance rfl B.bool PyProof.Rows.boot_bool (by decide) (aC 0)))))))
noncomputable def Oh:SF:=(bK 0 .s (aQ dB (aF (eLC [none,some 1] (iIt (aB 0)) (gB 0) cJ (dU (aB 1) (aB 0) (aB 0))) aI)))
noncomputable def qR:List aA->Option aA:=fnD 2 2 Oh
theorem Df (F:Fun K "put_in" "put_in" BO f fd)(B:Blt mg)(C:Cst mg)(Z:Gds P w K mg):FnOk P w K mg base CX0 1 f fd uY (spF K 0 qR):=by
 have nd:=Arf.nd
 exact fD F Arf rfl (by decide) fun cdv A outer s H E P0 hr=>by
  have hu:=fF hr
  have hv:=eX hr
  exact(bO (cX .s (kI oJ oI rfl B.tuple lB (aH (fK (n:=1) (jD rfl (hJ (N:=["term","known"]) (cap:=[none,some 1]) (out:=(bZ BO).names) (XN:=OO) rfl rfl (by decide +kernel) rfl) gP (iR (aC 0)) (fun cl C s₀ H₀ ex=>⟨hZ (j:=0) (show(["term","known"]:List aE).Nodup by decide +kernel) rfl (aT rfl),lX,(Mi hv (aC 1) (aC 0) (aC 0))⟩))) aR))))
noncomputable def pB:List aA->Option aA:=IM
theorem Mf {P:cL}{w:cA}{K:aP}{mg:aE->Option aG}{base:bG}{f:aD}{fd:iA}(F:Fun K "once" "once" FL f fd)(B:Blt mg)(C:Cst mg)(Z:Gds P w K mg):FnOk P w K mg base CX0 1 f fd uN (spF K 0 pB):=by
 have nd:=Ayq.nd
 have key : ∀ (ds:List aA) (d:aA),pB ds=some d -> ∃ xs kss,ds=[.tuple xs]/\oO xs=some kss/\xs.length<sizeLine/\d = .tuple ((qH kss).map gU):=by
  intro ds d e
  unfold pB IM at e
  split at e
  ·obtain⟨kss,e1,e2⟩:=XBs e
   obtain⟨hl,rfl⟩:=eI e2
   exact⟨_,kss,rfl,e1,hl,rfl⟩
  ·cases e
 refine F.ok Ayq (fun vs H Q E h=>?_) (fun cdv A outer s H vs Q E hr h=>?_)
 ·obtain⟨P0,ds,d,_,r,ef,_⟩:=h
  obtain⟨xs,kss,rfl,_⟩:=key ds d ef
  rw[r.length]
  rfl
 ·obtain⟨P0,ds,d,hP,r,ef,k⟩:=h
  obtain⟨xs,kss,rfl,ek,hl,rfl⟩:=key ds d ef
  obtain⟨v,rfl,r1⟩:=hX r
  obtain⟨a,us,rfl,ha,ru⟩:=Aax.mp r1
  obtain⟨exs,hks⟩:=NW ek
  have hu:=eX hr
  refine⟨_,GB (SN (i:=1) nd rfl (by first | exact aT rfl | exact aY rfl) Qh)
   (GB (TF iZ rfl (TY (pv 0)) (pE (i:=2) nd rfl (by first | exact aT rfl | exact aY rfl)) (FX (Oe hu (pv 1) (pv 2) LS rfl)))
   (FX (xJ (CC (Jk rfl) rfl B.tuple lB (iI (pv 1) kU))))),?_⟩
  intro p hp
  have hap:a≠p:=kJ (Aba _ _ ha) hp
  have hlen:us.length=kss.length:=by rw[ru.length,exs,gM]
  refine⟨_,rfl,a,rfl,⟨us,SqT.of (Ext.new hp _ _ (Aba _ _ ha))⟩,Nb (K:=K) (a:=a) (xs:=us)
   (fun i σ H2=>H2=upd H p (.dT (oA (kss.take i))) /\ ∃ v,σ=[some (.ref a),some (.ref p),v]) ⟨rfl,none,rfl⟩ (fun i σ H2 _ gh=>by
    obtain⟨e,_⟩:=gh
    rw[e]
    exact SqT.of (by rw[fH hap]; exact Aba _ _ ha)) ?_ ?_⟩
  ·rintro i x σ H2 hx ⟨rfl,v,rfl⟩
   have hi:i<us.length:=(gE.mp hx).1
   have hki:kss[i]?=some kss[i]:=iO (by omega)
   have hxi:xs[i]?=some (.tuple kss[i]):=by rw[exs,gN,hki]; rfl
   obtain⟨v',h1,h2⟩:=ru.get hxi
   have:v'=x:=gW (h1.symm.trans hx)
   subst this
   obtain⟨c1,c2⟩:=hks kss[i] (mU hki)
   obtain⟨b,rfl,tk⟩:=(h2.ext Aba).tupK c1 c2
   have tk2:Aop (upd H p (.dT (oA (kss.take i)))) kss[i] b:=tk.keep fun c ys ec=>by
    rw[fH (kJ ec hp)]
    exact ec
   refine⟨_,rfl,_,rfl,p,_,rfl,.inr ⟨_,_,_,gR,rfl,tk2,?_,rfl⟩,?_⟩
   ·have:=Du (kss.take i)
    have h3:(kss.take i).length≤kss.length:=List.length_take_le' _ _
    have h4:xs.length=kss.length:=by rw[exs,gM]
    omega
   ·refine fun _=>⟨?_,_,rfl⟩
    rw[Le,← Gp,EA,hki]
    rfl
  ·rintro σ H2 ⟨rfl,v,rfl⟩
   refine⟨_,rfl,p,_,rfl,gR,fun l as hl' hp'=>?_⟩
   rw[show kss.take us.length=kss by rw[hlen]; exact JX] at hp' hl' ⊢
   have x2:Ext H (upd (upd H p (.dT (oA kss))) l (.tup (as.map V.ref))):=fun c o ec=>Ext.new hl' _ _ (Ext.new hp _ _ ec)
   refine k.zero x2 (Aax.mpr ⟨l,_,rfl,(hP.ext x2).tup gR,?_⟩)
   rw[← Hc]
   exact RQ (fun c ys ec=>(hP.ext x2).tup (Ext.new hl' _ _ ec)) hp'
noncomputable def Pu:SF:=(bK 0 .s (aQ dB (aF (eLC [none,some 0] (iIt (aB 1)) (gB 0) cJ (eOp gIx (aB 1) (aB 0))) aI)))
noncomputable def lZ:List aA->Option aA:=fnD 2 2 Pu
theorem Dr (F:Fun K "picked" "picked" BV f fd)(B:Blt mg)(C:Cst mg)(Z:Gds P w K mg):FnOk P w K mg base CX0 1 f fd sU (spF K 0 lZ):=by
 have nd:=Ar2.nd
 exact fD F Ar2 rfl (by decide) fun cdv A outer s H E P0 hr=>by
  have hu:=fF hr
  have hv:=eX hr
  exact(bO (cX .s (kI oJ oI rfl B.tuple lB (aH (fK (n:=1) (jD rfl (hJ (N:=["column","values"]) (cap:=[none,some 0]) (out:=(bZ BV).names) (XN:=NS) rfl rfl (by decide +kernel) rfl) gP (iR (aC 1)) (fun cl C s₀ H₀ ex=>⟨hZ (j:=0) (show(["column","values"]:List aE).Nodup by decide +kernel) rfl (aT rfl),lX,(aU hv (aC 1) (aC 0) (fun _ _=>rfl))⟩))) aR))))
noncomputable def Pf:SF:=(bK 1 .s (eLC [none,none,some 1] (iEn (aF (eOp gIx (aB 0) (eC (.int 1))) aI)) (gB2 0 1) (bOf (eOp gNe (aB 1) (eOp gIx (eOp gIx (aB 2) (eC (.int 1))) (aB 0)))) (aB 0)))
noncomputable def qS:List aA->Option aA:=fnD 2 2 Pf
theorem Dk (F:Fun K "unlike" "unlike" BU f fd)(B:Blt mg)(C:Cst mg)(Z:Gds P w K mg):FnOk P w K mg base CX0 1 f fd uZ (spF K 1 qS):=by
 have nd:=Ap8.nd
 exact fD F Ap8 rfl (by decide) fun cdv A outer s H E P0 hr=>by
  have hu:=fF hr
  have hv:=eX hr
  exact(bO (cX .s (jD rfl (hJ (N:=["column","term","other"]) (cap:=[none,none,some 1]) (out:=(bZ BU).names) (XN:=OU) rfl rfl (by decide +kernel) rfl) Av (xY rfl B.enumerate (aH (aU hv (aC 0) aM (fun _ _=>rfl)) aR)) (fun cl C s₀ H₀ ex=>⟨Oi (i:=0) (j:=1) rfl (show(["column","term","other"]:List aE).Nodup by decide +kernel) rfl rfl (aT rfl) (aT rfl),oG (dN (nE hu) nD (aC 1) (aU hv (aU hv (aC 2) aM (fun _ _=>rfl)) (aC 0) (fun _ _=>rfl)) (cK _)),(aC 0)⟩))))
noncomputable def Ey:SF:=(bK 0 .s (eIf (bOr (bOf (eUn (cT "str") (aB 0))) (bOf (eUn (cT "str") (aB 1)))) (eC (.str "same")) (eC (.str "clash"))))
noncomputable def vE:List aA->Option aA:=fnD 2 2 Ey
theorem Hf (F:Fun K "word_of" "word_of" GY f fd)(B:Blt mg)(C:Cst mg)(Z:Gds P w K mg):FnOk P w K mg base CX0 1 f fd yE (spF K 0 vE):=by
 have nd:=Anw.nd
 exact fD F Anw rfl (by decide) fun cdv A outer s H E P0 hr=>by
  have hu:=fF hr
  have hv:=eX hr
  exact(bO (cX .s (BS (lL (kB (iS (mJ (T:="str") rfl B.isinstance rfl B.str DR (by decide) (aC 0))) (nF (iS (mJ (T:="str") rfl B.isinstance rfl B.str DR (by decide) (aC 1)))))) eY eY)))
noncomputable def SB:SF:=(aS (bB 2 1 .s (aQ xP (aF (eLC [none] (iIt (eOp gIx (aB 0) (eC (.int 0)))) (gB 0) cJ (cF (aF (aB 0) (aF (eC (.bool true)) aI)))) aI)))
 (aS (gG .s (iIt (eOp gIx (aB 0) (eC (.int 1)))) (gNm 3) (uH 2 .s (aQ xP (aF (eLC [none] (iIt (eOp gIx (aB 3) (eC (.int 1)))) (gB 0) cJ (cF (aF (aB 0) (aF (eC (.bool true)) aI)))) aI))))
 (cV 2 (aS (bB 4 1 .s (eLC [none] (iR2 (aF (eC (.int 1)) (aF (eOp bQ (eOp bQ (aQ bH (aF (aB 2) aI)) (aB 1)) (eC (.int 1))) aI))) (gB 0) cJ (eFs "n" (aB 0))))
 (cV 4 (bK 1 .s (pM (eLC [none,some 2] (iIt (aB 4)) (gB 0) (bOf (eOp (gIn true) (aB 0) (aB 1))) (aB 0)) oN (oS (aB 1)))))))))
noncomputable def rA:List aA->Option aA:=fnD 2 5 SB
theorem Ip (F:Fun K "new_names" "new_names" rB f fd)(B:Blt mg)(C:Cst mg)(Z:Gds P w K mg):FnOk P w K mg base CX0 1 f fd yN (spF K 1 rA):=by
 have nd:=Alk.nd
 exact fD F Alk rfl (by decide) fun cdv A outer s H E P0 hr=>by
  have hu:=fF hr
  have hv:=eX hr
  exact(bF (bW (i:=2) 1 .s nd rfl (by first | exact aT rfl | exact aY rfl) (kI (RU rfl) RV rfl B.dict PyProof.Rows.boot_dict (aH (fK (n:=1) (jD rfl (hJ (N:=["term"]) (cap:=[none]) (out:=(bZ rB).names) (XN:=vR) rfl rfl (by decide +kernel) rfl) gP (iR (aU hv (aC 0) aM (fun _ _=>rfl))) (fun cl C s₀ H₀ ex=>⟨hZ (j:=0) (show(["term"]:List aE).Nodup by decide +kernel) rfl (aT rfl),lX,(gQ (aH (aC 0) (aH lP aR)))⟩))) aR)))
   (bF (oZ iZ rfl (iR (aU hv (aC 0) aM (fun _ _=>rfl))) (mL (i:=3) nd rfl (by first | exact aT rfl | exact aY rfl)) (bO (PV 2 .s (fK (n:=1) (kI (RU rfl) RV rfl B.dict PyProof.Rows.boot_dict (aH (fK (n:=1) (jD rfl (hJ (N:=["term"]) (cap:=[none]) (out:=(bZ rB).names) (XN:=vR) rfl rfl (by decide +kernel) rfl) gP (iR (aU hv (aC 3) aM (fun _ _=>rfl))) (fun cl C s₀ H₀ ex=>⟨hZ (j:=0) (show(["term"]:List aE).Nodup by decide +kernel) rfl (aT rfl),lX,(gQ (aH (aC 0) (aH lP aR)))⟩))) aR))))))
   (jS 2 (bF (by first | exact(uX (i:=4) .s rfl nd rfl (by first | exact aT rfl | exact aY rfl) (hJ (N:=["number"]) (cap:=[none]) (out:=(bZ rB).names) (XN:=vR) rfl rfl (by decide +kernel) rfl) gP (qL (GR rfl B.range (aH aM (aH (fN (fN (eZ fO fP rfl B.len fU (aH (aC 2) aR)) (aC 1)) aM) aR)))) (fun cl C s₀ H₀ ex=>⟨hZ (j:=0) (show(["number"]:List aE).Nodup by decide +kernel) rfl (aT rfl),lX,(MO (aC 0) (by decide +kernel) (by decide +kernel) eY)⟩)) | exact(bW (i:=4) 1 .s nd rfl (by first | exact aT rfl | exact aY rfl) (jD rfl (hJ (N:=["number"]) (cap:=[none]) (out:=(bZ rB).names) (XN:=vR) rfl rfl (by decide +kernel) rfl) gP (qL (GR rfl B.range (aH aM (aH (fN (fN (eZ fO fP rfl B.len fU (aH (aC 2) aR)) (aC 1)) aM) aR)))) (fun cl C s₀ H₀ ex=>⟨hZ (j:=0) (show(["number"]:List aE).Nodup by decide +kernel) rfl (aT rfl),lX,(MO (aC 0) (by decide +kernel) (by decide +kernel) eY)⟩))))
   (jS 4 (bO (cX .s (BC (fK (n:=1) (jD rfl (hJ (N:=["name","taken"]) (cap:=[none,some 2]) (out:=(bZ rB).names) (XN:=vR) rfl rfl (by decide +kernel) rfl) gP (iR (aC 4)) (fun cl C s₀ H₀ ex=>⟨hZ (j:=0) (show(["name","taken"]:List aE).Nodup by decide +kernel) rfl (aT rfl),oG (dN (CH hu) xN (aC 0) (aC 1) (by with_unfolding_all rfl)),(aC 0)⟩))) sQ (sT (aC 1))))))))))
noncomputable def Dh:SF:=(aS (sIf .s (bOf (eOp gNe (eOp gIx (aB 2) (eC (.int 0))) (eC (.str "put")))) (bK 0 .s (eC (.bool false))) bY)
 (aS (bB 4 0 .s (eOp gIx (eOp gIx (aB 3) (eOp gIx (aB 2) (eC (.int 1)))) (eC (.int 3))))
 (aS (bB 5 1 .s (eLC [none,some 4] (iIt (eOp gIx (aB 0) (eC (.int 1)))) (gB 0) (bOf (eOp gEq (eOp gIx (aB 0) (eC (.int 0))) (aB 1))) (aB 0)))
 (cV 5 (aS (bB 6 1 .s (eLC [none] (iIt (aB 1)) (gB 0) (bOf (eOp gEq (eOp gIx (aB 0) (eC (.int 0))) (eC (.str "put")))) (aB 0)))
 (cV 6 (bK 0 .s (eOr (eOp gGe (aQ bH (aF (aB 5) aI)) (eC (.int 5))) (eOp gGe (aQ bH (aF (aB 6) aI)) (eC (.int 16)))))))))))
noncomputable def pG:List aA->Option aA:=fnD 4 7 Dh
theorem Gq (F:Fun K "is_past" "is_past" sX f fd)(B:Blt mg)(C:Cst mg)(Z:Gds P w K mg):FnOk P w K mg base CX0 1 f fd yD (spF K 0 pG):=by
 obtain⟨_,h_MOST_LINES_THERE⟩:=C.MOST_LINES_THERE
 obtain⟨_,h_MOST_PUTS⟩:=C.MOST_PUTS
 have nd:=Aoi.nd
 exact fD F Aoi rfl (by decide) fun cdv A outer s H E P0 hr=>by
  have hu:=fF hr
  have hv:=eX hr
  exact(bF (fE .s (dN (nE hu) nD (aU hv (aC 2) aM (fun _ _=>rfl)) eY (cK _)) (bO (cX .s lP)) fJ)
   (bF (bW (i:=4) 0 .s nd rfl (by first | exact aT rfl | exact aY rfl) (aU hv (aU hv (aC 3) (aU hv (aC 2) aM (fun _ _=>rfl)) (fun _ _=>rfl)) aM (fun _ _=>rfl)))
   (bF (by first | exact(uX (i:=5) .s rfl nd rfl (by first | exact aT rfl | exact aY rfl) (hJ (N:=["line","other"]) (cap:=[none,some 4]) (out:=(bZ sX).names) (XN:=yC) rfl rfl (by decide +kernel) rfl) gP (iR (aU hv (aC 0) aM (fun _ _=>rfl))) (fun cl C s₀ H₀ ex=>⟨hZ (j:=0) (show(["line","other"]:List aE).Nodup by decide +kernel) rfl (aT rfl),oG (dN (eU hu) eT (aU hv (aC 0) aM (fun _ _=>rfl)) (aC 1) (cK _)),(aC 0)⟩)) | exact(bW (i:=5) 1 .s nd rfl (by first | exact aT rfl | exact aY rfl) (jD rfl (hJ (N:=["line","other"]) (cap:=[none,some 4]) (out:=(bZ sX).names) (XN:=yC) rfl rfl (by decide +kernel) rfl) gP (iR (aU hv (aC 0) aM (fun _ _=>rfl))) (fun cl C s₀ H₀ ex=>⟨hZ (j:=0) (show(["line","other"]:List aE).Nodup by decide +kernel) rfl (aT rfl),oG (dN (eU hu) eT (aU hv (aC 0) aM (fun _ _=>rfl)) (aC 1) (cK _)),(aC 0)⟩))))
   (jS 5 (bF (by first | exact(uX (i:=6) .s rfl nd rfl (by first | exact aT rfl | exact aY rfl) (hJ (N:=["taken"]) (cap:=[none]) (out:=(bZ sX).names) (XN:=yC) rfl rfl (by decide +kernel) rfl) gP (iR (aC 1)) (fun cl C s₀ H₀ ex=>⟨hZ (j:=0) (show(["taken"]:List aE).Nodup by decide +kernel) rfl (aT rfl),oG (dN (eU hu) eT (aU hv (aC 0) aM (fun _ _=>rfl)) eY (cK _)),(aC 0)⟩)) | exact(bW (i:=6) 1 .s nd rfl (by first | exact aT rfl | exact aY rfl) (jD rfl (hJ (N:=["taken"]) (cap:=[none]) (out:=(bZ sX).names) (XN:=yC) rfl rfl (by decide +kernel) rfl) gP (iR (aC 1)) (fun cl C s₀ H₀ ex=>⟨hZ (j:=0) (show(["taken"]:List aE).Nodup by decide +kernel) rfl (aT rfl),oG (dN (eU hu) eT (aU hv (aC 0) aM (fun _ _=>rfl)) eY (cK _)),(aC 0)⟩))))
   (jS 6 (bO (cX .s (LQ (hE xC xG (eZ fO fP rfl B.len fU (aH (aC 5) aR)) (NR (i:=5) rfl h_MOST_LINES_THERE ⟨_,rfl⟩) (cK _)) (mK (hE xC xG (eZ fO fP rfl B.len fU (aH (aC 6) aR)) (NR (i:=16) rfl h_MOST_PUTS ⟨_,rfl⟩) (cK _))))))))))))
noncomputable def Ib:SF:=(aS (sIf .s (bOf (eOp gLt (aB 1) (aQ bH (aF (aB 0) aI)))) (bK 0 .s (eOp gIx (aB 0) (aB 1))) bY)
 (aS (bB 2 0 .s (eOp bQ (eOp bQ (eOp mY (eOp mY (aB 1) (aB 1)) (eC (.int 7919))) (eOp mY (eC (.int 11)) (aB 1))) (eC (.int 5))))
 (aS (sIf .s (bOf (eOp gGt (aQ bH (aF (aB 0) aI)) (eC (.int 0)))) (bB 2 0 .s (eOp bQ (aB 2) (eOp mY (eOp gIx (aB 0) (eOp bM (eOp mY (aB 1) (eC (.int 7))) (aQ bH (aF (aB 0) aI)))) (eC (.int 48271))))) bY)
 (bK 0 .s (eOp bM (eOp mY (aB 2) (aB 2)) (eC (.int 2147483629)))))))
noncomputable def iW:List aA->Option aA:=fnD 2 3 Ib
theorem Jm (F:Fun K "_law_cell" "_law_cell" HX f fd)(B:Blt mg)(C:Cst mg)(Z:Gds P w K mg):FnOk P w K mg base CX0 1 f fd vV (spF K 0 iW):=by
 have nd:=Ald.nd
 exact fD F Ald rfl (by decide) fun cdv A outer s H E P0 hr=>by
  have hu:=fF hr
  have hv:=eX hr
  exact(bF (fE .s (dN (A2p.or BZ) AW (aC 1) (eZ fO fP rfl B.len fU (aH (aC 0) aR)) (cK _)) (bO (cX .s (aU hv (aC 0) (aC 1) (fun _ _=>rfl)))) fJ)
   (bF (bW (i:=2) 0 .s nd rfl (by first | exact aT rfl | exact aY rfl) (fN (fN (uS (uS (aC 1) (aC 1)) aM) (uS aM (aC 1))) aM))
   (bF (fE .s (dN DH BA (eZ fO fP rfl B.len fU (aH (aC 0) aR)) aM (cK _)) (bO (bW (i:=2) 0 .s nd rfl (by first | exact aT rfl | exact aY rfl) (fN (aC 2) (uS (aU hv (aC 0) (eS (uS (aC 1) aM) (eZ fO fP rfl B.len fU (aH (aC 0) aR))) (fun _ _=>rfl)) aM)))) fJ)
   (bO (cX .s (eS (uS (aC 2) (aC 2)) aM))))))
noncomputable def Ke:SF:=(aS (bB 2 0 .s (eC (.str "abcdefghijklmnopqrstuvwxyz")))
 (aS (bB 3 0 .s (eOp bQ (eC (.int 1)) (eOp bM (aB 0) (eC (.int 12)))))
 (aS (bB 4 0 .s (eOp bM (eOp cB (aB 0) (eC (.int 12))) (aB 3)))
 (aS (bB 5 0 .s (eOp bM (eOp cB (aB 0) (eC (.int 144))) (eC (.int 26))))
 (aS (bB 6 1 .s (cU aI))
 (aS (gG .s (iR1 (aF (aB 1) aI)) (gNm 7) (aS (bB 8 0 .s (eC (.str "")))
 (aS (gG .s (iR1 (aF (aB 3) aI)) (gNm 9) (aS (bB 10 0 .s (eOp bQ (eOp cO (aB 9) (aB 9)) (eOp cO (aQ dX (aF (eOp gEq (aB 9) (aB 4)) aI)) (eOp bQ (aB 7) (eC (.int 1))))))
 (bB 8 0 .s (eOp bQ (aB 8) (eOp gIx (aB 2) (eOp bM (eOp bQ (aB 5) (aB 10)) (eC (.int 26))))))))
 (dD 6 .s (aB 8)))))
 (eB 6 1)))))))
noncomputable def rC:List aA->Option aA:=fnD 2 11 Ke
theorem Jq (F:Fun K "_law_names" "_law_names" IB f fd)(B:Blt mg)(C:Cst mg)(Z:Gds P w K mg):FnOk P w K mg base CX0 1 f fd vO (spF K 1 rC):=by
 have nd:=Aka.nd
 exact fD F Aka rfl (by decide) fun cdv A outer s H E P0 hr=>by
  have hu:=fF hr
  have hv:=eX hr
  exact(bF (bW (i:=2) 0 .s nd rfl (by first | exact aT rfl | exact aY rfl) eY)
   (bF (bW (i:=3) 0 .s nd rfl (by first | exact aT rfl | exact aY rfl) (fN aM (eS (aC 0) aM)))
   (bF (bW (i:=4) 0 .s nd rfl (by first | exact aT rfl | exact aY rfl) (eS (gJ (aC 0) aM) (aC 3)))
   (bF (bW (i:=5) 0 .s nd rfl (by first | exact aT rfl | exact aY rfl) (eS (gJ (aC 0) aM) aM))
   (bF (bW (i:=6) 1 .s nd rfl (by first | exact aT rfl | exact aY rfl) (jP aR))
   (bF (qP .s iZ rfl (mB rfl B.range (aH (aC 1) aR)) (mL (i:=7) nd rfl (by first | exact aT rfl | exact aY rfl)) (bF (bW (i:=8) 0 .s nd rfl (by first | exact aT rfl | exact aY rfl) eY)
   (bF (qP .s iZ rfl (mB rfl B.range (aH (aC 3) aR)) (mL (i:=9) nd rfl (by first | exact aT rfl | exact aY rfl)) (bF (bW (i:=10) 0 .s nd rfl (by first | exact aT rfl | exact aY rfl) (fN (kC (aC 9) (aC 9)) (kC (kI Ec Rv rfl B.int PyProof.Rows.boot_int (aH (hE (eU hu) eT (aC 9) (aC 4) (cK _)) aR)) (fN (aC 7) aM))))
   (bO (bW (i:=8) 0 .s nd rfl (by first | exact aT rfl | exact aY rfl) (fN (aC 8) (aU hv (aC 2) (eS (fN (aC 5) (aC 10)) aM) (fun _ _=>rfl)))))))
   (bO (qU 6 .s (aC 8))))))
   (bO (MY 6))))))))
noncomputable def Hh:SF:=(aS (bB 5 0 .s (eOp bM (aB 0) (aQ bH (aF (aB 2) aI))))
 (aS (bB 6 1 .s (cU aI))
 (aS (gG .s (iR1 (aF (eOp gIx (aB 3) (aB 5)) aI)) (gNm 7) (aS (bB 8 0 .s (eOp bM (eOp bQ (eOp bQ (eOp cB (aB 0) (eC (.int 5))) (eOp cO (aB 1) (eC (.int 40503)))) (eOp cO (eOp cO (aB 7) (aB 7)) (eC (.int 7)))) (eC (.int 2147483647))))
 (dD 6 .s (eOp gIx (aB 4) (eOp bM (eOp cB (eOp bM (eOp cO (aB 8) (eC (.int 48271))) (eC (.int 2147483629))) (eOp bQ (aB 7) (eC (.int 1)))) (aQ bH (aF (aB 4) aI)))))))
 (cV 6 (bK 0 .s (cF (aF (eOp gIx (aB 2) (aB 5)) (aF (aQ dB (aF (aB 6) aI)) aI))))))))
noncomputable def vU:List aA->Option aA:=fnD 5 9 Hh
theorem Jl (F:Fun K "_law_line" "_law_line" HQ f fd)(B:Blt mg)(C:Cst mg)(Z:Gds P w K mg):FnOk P w K mg base CX0 1 f fd yM (spF K 0 vU):=by
 have nd:=Ak8.nd
 exact fD F Ak8 rfl (by decide) fun cdv A outer s H E P0 hr=>by
  have hu:=fF hr
  have hv:=eX hr
  exact(bF (bW (i:=5) 0 .s nd rfl (by first | exact aT rfl | exact aY rfl) (eS (aC 0) (eZ fO fP rfl B.len fU (aH (aC 2) aR))))
   (bF (bW (i:=6) 1 .s nd rfl (by first | exact aT rfl | exact aY rfl) (jP aR))
   (bF (qP .s iZ rfl (mB rfl B.range (aH (aU hv (aC 3) (aC 5) (fun _ _=>rfl)) aR)) (mL (i:=7) nd rfl (by first | exact aT rfl | exact aY rfl)) (bF (bW (i:=8) 0 .s nd rfl (by first | exact aT rfl | exact aY rfl) (eS (fN (fN (gJ (aC 0) aM) (kC (aC 1) aM)) (kC (kC (aC 7) (aC 7)) aM)) aM))
   (bO (qU 6 .s (aU hv (aC 4) (eS (gJ (eS (kC (aC 8) aM) aM) (fN (aC 7) aM)) (eZ fO fP rfl B.len fU (aH (aC 4) aR))) (fun _ _=>rfl))))))
   (jS 6 (bO (cX .s (gQ (aH (aU hv (aC 2) (aC 5) (fun _ _=>rfl)) (aH (kI oJ oI rfl B.tuple lB (aH (aC 6) aR)) aR)))))))))
noncomputable def Km:SF:=(aS (bB 3 1 .s (aQ TJ (aF (aB 2) aI)))
 (aS (bB 4 1 .s (cU aI))
 (aS (gG .s (iR1 (aF (aB 1) aI)) (gNm 5) (aS (BL 4 3 .a (eOp bM (aB 0) (aQ bH (aF (aB 3) aI))))
 (bB 0 0 .s (eOp cB (aB 0) (eC (.int 4))))))
 (cV 4 (cV 3 (bK 0 .s (aQ dB (aF (aB 4) aI))))))))
noncomputable def rD:List aA->Option aA:=fnD 3 6 Km
theorem Ks (F:Fun K "_law_places" "_law_places" IG f fd)(B:Blt mg)(C:Cst mg)(Z:Gds P w K mg):FnOk P w K mg base CX0 1 f fd zG (spF K 0 rD):=by
 have nd:=Ajb.nd
 exact fD F Ajb rfl (by decide) fun cdv A outer s H E P0 hr=>by
  have hu:=fF hr
  have hv:=eX hr
  exact(bF (bW (i:=3) 1 .s nd rfl (by first | exact aT rfl | exact aY rfl) (Ri rfl rfl B.list rfl B.range (aC 2)))
   (bF (bW (i:=4) 1 .s nd rfl (by first | exact aT rfl | exact aY rfl) (jP aR))
   (bF (qP .s iZ rfl (mB rfl B.range (aH (aC 1) aR)) (mL (i:=5) nd rfl (by first | exact aT rfl | exact aY rfl)) (bF (Eb 4 3 .a (eS (aC 0) (eZ fO fP rfl B.len fU (aH (aC 3) aR))))
   (bO (bW (i:=0) 0 .s nd rfl (by first | exact aT rfl | exact aY rfl) (gJ (aC 0) aM)))))
   (jS 4 (jS 3 (bO (cX .s (kI oJ oI rfl B.tuple lB (aH (aC 4) aR)))))))))
noncomputable def Hz:SF:=(aS (bB 2 1 .s (cU aI))
 (aS (gG .s (iR1 (aF (aQ bH (aF (aB 1) aI)) aI)) (gNm 3) (aS (bB 4 0 .s (eOp gIx (aB 1) (eOp bM (eOp bQ (aB 3) (eC (.int 1))) (aQ bH (aF (aB 1) aI)))))
 (dD 2 .s (cF (aF (eC (.str "points")) (aF (eOp gIx (aB 1) (aB 3)) (aF (cF (aF (eC (.int 1)) aI)) (aF (aB 4) (aF (cF (aF (eC (.int 0)) aI)) (aF (eC (.int 2)) aI))))))))))
 (aS (bB 5 0 .s (cF (aF (eC (.str "key")) (aF (eOp gIx (aB 1) (eOp bM (eOp cB (aB 0) (eC (.int 8))) (aQ bH (aF (aB 1) aI)))) (aF (cF (aF (eOp bM (eOp cB (aB 0) (eC (.int 4))) (eC (.int 2))) aI)) aI)))))
 (aS (sIf .s (bOf (eOp gEq (eOp bM (aB 0) (eC (.int 4))) (eC (.int 1)))) (dD 2 .s (aB 5)) bY)
 (aS (sIf .s (bOf (eOp gEq (eOp bM (aB 0) (eC (.int 4))) (eC (.int 2)))) (CU 2 .s (aB 5)) bY)
 (eB 2 1))))))
noncomputable def vJ:List aA->Option aA:=fnD 2 6 Hz
theorem Kc (F:Fun K "_law_ring" "_law_ring" HZ f fd)(B:Blt mg)(C:Cst mg)(Z:Gds P w K mg):FnOk P w K mg base CX0 1 f fd yO (spF K 1 vJ):=by
 have nd:=Ale.nd
 exact fD F Ale rfl (by decide) fun cdv A outer s H E P0 hr=>by
  have hu:=fF hr
  have hv:=eX hr
  exact(bF (bW (i:=2) 1 .s nd rfl (by first | exact aT rfl | exact aY rfl) (jP aR))
   (bF (qP .s iZ rfl (mB rfl B.range (aH (eZ fO fP rfl B.len fU (aH (aC 1) aR)) aR)) (mL (i:=3) nd rfl (by first | exact aT rfl | exact aY rfl)) (bF (bW (i:=4) 0 .s nd rfl (by first | exact aT rfl | exact aY rfl) (aU hv (aC 1) (eS (fN (aC 3) aM) (eZ fO fP rfl B.len fU (aH (aC 1) aR))) (fun _ _=>rfl)))
   (bO (qU 2 .s (gQ (aH eY (aH (aU hv (aC 1) (aC 3) (fun _ _=>rfl)) (aH (gQ (aH aM aR)) (aH (aC 4) (aH (gQ (aH aM aR)) (aH aM aR)))))))))))
   (bF (bW (i:=5) 0 .s nd rfl (by first | exact aT rfl | exact aY rfl) (gQ (aH eY (aH (aU hv (aC 1) (eS (gJ (aC 0) aM) (eZ fO fP rfl B.len fU (aH (aC 1) aR))) (fun _ _=>rfl)) (aH (gQ (aH (eS (gJ (aC 0) aM) aM) aR)) aR)))))
   (bF (fE .s (dN (eU hu) eT (eS (aC 0) aM) aM (cK _)) (bO (qU 2 .s (aC 5))) fJ)
   (bF (fE .s (dN (eU hu) eT (eS (aC 0) aM) aM (cK _)) (bO (Mx 2 .s (aC 5))) fJ)
   (bO (MY 2)))))))
noncomputable def Ht:SF:=(aS (bB 2 1 .s (cU aI))
 (aS (gG .s (iIt (aB 1)) (rZ 3 4) (DJ 2 .s (aB 4)))
 (cV 2 (aS (sIf .s (bOf (eOp gEq (aQ bH (aF (aB 2) aI)) (eC (.int 0)))) (bK 0 .s (cF aI)) bY)
 (bK 0 .s (aQ dB (aF (eLC [none,some 2,some 0] (iR1 (aF (eOp bM (aB 0) (eC (.int 5))) aI)) (gB 0) cJ (eOp gIx (aB 1) (eOp bM (eOp cB (aB 2) (eOp bQ (eOp cO (aB 0) (aB 0)) (eC (.int 5)))) (aQ bH (aF (aB 1) aI))))) aI)))))))
noncomputable def vT:List aA->Option aA:=fnD 2 5 Ht
theorem Ji (F:Fun K "_law_head" "_law_head" CI f fd)(B:Blt mg)(C:Cst mg)(Z:Gds P w K mg):FnOk P w K mg base CX0 1 f fd yQ (spF K 0 vT):=by
 have nd:=Alf.nd
 exact fD F Alf rfl (by decide) fun cdv A outer s H E P0 hr=>by
  have hu:=fF hr
  have hv:=eX hr
  exact(bF (bW (i:=2) 1 .s nd rfl (by first | exact aT rfl | exact aY rfl) (jP aR))
   (bF (oZ iZ rfl (iR (aC 1)) (xS (i:=3) (j:=4) rfl nd rfl rfl (by first | exact aT rfl | exact aY rfl) (by first | exact aT rfl | exact aY rfl)) (bO (Gu 2 .s (aC 4))))
   (jS 2 (bF (fE .s (dN (eU hu) eT (eZ fO fP rfl B.len fU (aH (aC 2) aR)) aM (cK _)) (bO (cX .s (gQ aR))) fJ)
   (bO (cX .s (kI oJ oI rfl B.tuple lB (aH (fK (n:=1) (jD rfl (hJ (N:=["_law_k","_law_terms","_law_cell_here"]) (cap:=[none,some 2,some 0]) (out:=(bZ CI).names) (XN:=RN) rfl rfl (by decide +kernel) rfl) gP (qL (mB rfl B.range (aH (eS (aC 0) aM) aR))) (fun cl C s₀ H₀ ex=>⟨hZ (j:=0) (show(["_law_k","_law_terms","_law_cell_here"]:List aE).Nodup by decide +kernel) rfl (aT rfl),lX,(aU hv (aC 1) (eS (gJ (aC 2) (fN (kC (aC 0) (aC 0)) aM)) (eZ fO fP rfl B.len fU (aH (aC 1) aR))) (fun _ _=>rfl))⟩))) aR))))))))
noncomputable def Ju:SF:=(aS (bB 4 1 .s (eLC [none,some 2,some 1] (iIt (eOp gIx (aB 0) (eC (.int 1)))) (gB 0) (bOf (eOp gEq (eOp gIx (aB 0) (eC (.int 0))) (eOp gIx (eOp gIx (aB 1) (eOp gIx (aB 2) (eC (.int 1)))) (eC (.int 3))))) (aB 0)))
 (cV 4 (bK 0 .s (eOr (eOp gEq (aB 3) (eC (.int 16))) (eOp gGe (aQ bH (aF (aB 4) aI)) (eC (.int 5)))))))
noncomputable def tD:List aA->Option aA:=fnD 4 5 Ju
theorem Kt (F:Fun K "_law_beyond" "_law_beyond" zI f fd)(B:Blt mg)(C:Cst mg)(Z:Gds P w K mg):FnOk P w K mg base CX0 1 f fd vW (spF K 0 tD):=by
 have nd:=Ajc.nd
 exact fD F Ajc rfl (by decide) fun cdv A outer s H E P0 hr=>by
  have hu:=fF hr
  have hv:=eX hr
  exact(bF (by first | exact(uX (i:=4) .s rfl nd rfl (by first | exact aT rfl | exact aY rfl) (hJ (N:=["_law_line_here","_law_rules","_law_step"]) (cap:=[none,some 2,some 1]) (out:=(bZ zI).names) (XN:=IH) rfl rfl (by decide +kernel) rfl) gP (iR (aU hv (aC 0) aM (fun _ _=>rfl))) (fun cl C s₀ H₀ ex=>⟨hZ (j:=0) (show(["_law_line_here","_law_rules","_law_step"]:List aE).Nodup by decide +kernel) rfl (aT rfl),oG (dN (eU hu) eT (aU hv (aC 0) aM (fun _ _=>rfl)) (aU hv (aU hv (aC 1) (aU hv (aC 2) aM (fun _ _=>rfl)) (fun _ _=>rfl)) aM (fun _ _=>rfl)) (cK _)),(aC 0)⟩)) | exact(bW (i:=4) 1 .s nd rfl (by first | exact aT rfl | exact aY rfl) (jD rfl (hJ (N:=["_law_line_here","_law_rules","_law_step"]) (cap:=[none,some 2,some 1]) (out:=(bZ zI).names) (XN:=IH) rfl rfl (by decide +kernel) rfl) gP (iR (aU hv (aC 0) aM (fun _ _=>rfl))) (fun cl C s₀ H₀ ex=>⟨hZ (j:=0) (show(["_law_line_here","_law_rules","_law_step"]:List aE).Nodup by decide +kernel) rfl (aT rfl),oG (dN (eU hu) eT (aU hv (aC 0) aM (fun _ _=>rfl)) (aU hv (aU hv (aC 1) (aU hv (aC 2) aM (fun _ _=>rfl)) (fun _ _=>rfl)) aM (fun _ _=>rfl)) (cK _)),(aC 0)⟩))))
   (jS 4 (bO (cX .s (LQ (hE (eU hu) eT (aC 3) aM (cK _)) (mK (hE xC xG (eZ fO fP rfl B.len fU (aH (aC 4) aR)) aM (cK _))))))))
noncomputable def Ku:SF:=(bK 0 .s (aQ dB (aF (eLC [none,some 1] (iIt (aB 0)) (gB 0) cJ (cF (aF (eOp gIx (aB 0) (eC (.int 0))) (aF (aQ qR (aF (eOp gIx (aB 0) (eC (.int 1))) (aF (aB 1) aI))) aI)))) aI)))
noncomputable def zN:List aA->Option aA:=fnD 2 2 Ku
theorem Kv (F:Fun K "put_in_lines" "put_in_lines" CM f fd)(B:Blt mg)(C:Cst mg)(Z:Gds P w K mg)(D_put_in:Def P w K mg base "put_in" 1 uY (spF K 0 qR)):FnOk P w K mg base CX0 2 f fd zO (spF K 0 zN):=by
 have nd:=Ait.nd
 exact fD F Ait rfl (by decide) fun cdv A outer s H E P0 hr=>by
  have hu:=fF hr
  have hv:=eX hr
  exact(bO (cX .s (kI oJ oI rfl B.tuple lB (aH (fK (n:=1) (jD rfl (hJ (N:=["line","known"]) (cap:=[none,some 1]) (out:=(bZ CM).names) (XN:=SL) rfl rfl (by decide +kernel) rfl) gP (iR (aC 0)) (fun cl C s₀ H₀ ex=>⟨hZ (j:=0) (show(["line","known"]:List aE).Nodup by decide +kernel) rfl (aT rfl),lX,(gQ (aH (aU hv (aC 0) aM (fun _ _=>rfl)) (aH (cH D_put_in (hr.mono (by decide)) rfl (aH (aU hv (aC 0) aM (fun _ _=>rfl)) (aH (aC 1) aR))) aR)))⟩))) aR))))
noncomputable def Ai:SF:=(aS (sIf .s (bOr (bOf (eOp gNe (eOp gIx (aB 1) (eC (.int 0))) (eOp gIx (aB 0) (eC (.int 1))))) (bOf (eOp gNe (eOp gIx (aB 2) (eC (.int 0))) (eOp gIx (aB 0) (eC (.int 1)))))) (bK 0 .s (eC (.bool false))) bY)
 (bK 0 .s (eOp gEq (aQ lZ (aF (eOp gIx (aB 1) (eC (.int 1))) (aF (eOp gIx (aB 0) (eC (.int 2))) aI))) (aQ lZ (aF (eOp gIx (aB 2) (eC (.int 1))) (aF (eOp gIx (aB 0) (eC (.int 2))) aI))))))
noncomputable def pA:List aA->Option aA:=fnD 3 3 Ai
theorem Lx (F:Fun K "meet" "meet" FF f fd)(B:Blt mg)(C:Cst mg)(Z:Gds P w K mg)(D_picked:Def P w K mg base "picked" 1 sU (spF K 0 lZ)):FnOk P w K mg base CX0 2 f fd uM (spF K 0 pA):=by
 have nd:=Axu.nd
 exact fD F Axu rfl (by decide) fun cdv A outer s H E P0 hr=>by
  have hu:=fF hr
  have hv:=eX hr
  exact(bF (fE .s (lL (kB (dN (nE hu) nD (aU hv (aC 1) aM (fun _ _=>rfl)) (aU hv (aC 0) aM (fun _ _=>rfl)) (cK _)) (nF (dN (nE hu) nD (aU hv (aC 2) aM (fun _ _=>rfl)) (aU hv (aC 0) aM (fun _ _=>rfl)) (cK _))))) (bO (cX .s lP)) fJ)
   (bO (cX .s (hE (eU hu) eT (cH D_picked (hr.mono (by decide)) rfl (aH (aU hv (aC 1) aM (fun _ _=>rfl)) (aH (aU hv (aC 0) aM (fun _ _=>rfl)) aR))) (cH D_picked (hr.mono (by decide)) rfl (aH (aU hv (aC 2) aM (fun _ _=>rfl)) (aH (aU hv (aC 0) aM (fun _ _=>rfl)) aR))) (cK _)))))
noncomputable def Dj:SF:=(bK 0 .s (cF (aF (aQ vE (aF (eOp gIx (eOp gIx (eOp gIx (aB 0) (aB 2)) (eC (.int 1))) (aB 4)) (aF (eOp gIx (eOp gIx (eOp gIx (aB 0) (aB 3)) (eC (.int 1))) (aB 4)) aI))) (aF (aB 1) (aF (aB 2) (aF (aB 3) (aF (aB 4) aI)))))))
noncomputable def qW:List aA->Option aA:=fnD 5 5 Dj
theorem Gk (F:Fun K "step_of" "step_of" GP f fd)(B:Blt mg)(C:Cst mg)(Z:Gds P w K mg)(D_word_of:Def P w K mg base "word_of" 1 yE (spF K 0 vE)):FnOk P w K mg base CX0 2 f fd vD (spF K 0 qW):=by
 have nd:=Aog.nd
 exact fD F Aog rfl (by decide) fun cdv A outer s H E P0 hr=>by
  have hu:=fF hr
  have hv:=eX hr
  exact(bO (cX .s (gQ (aH (cH D_word_of (hr.mono (by decide)) rfl (aH (aU hv (aU hv (aU hv (aC 0) (aC 2) (fun _ _=>rfl)) aM (fun _ _=>rfl)) (aC 4) (fun _ _=>rfl)) (aH (aU hv (aU hv (aU hv (aC 0) (aC 3) (fun _ _=>rfl)) aM (fun _ _=>rfl)) (aC 4) (fun _ _=>rfl)) aR))) (aH (aC 1) (aH (aC 2) (aH (aC 3) (aH (aC 4) aR))))))))
end Aw
namespace Aw
open PySem L2
set_option maxHeartbeats 4000000
variable {P:cL}{w:cA}{K:aP}{mg:aE->Option aG}{base:bG}{f:aD}{fd:iA}
noncomputable def Kw:SF:=(aS (bB 3 0 .s (aQ lZ (aF (eOp gIx (aB 2) (eC (.int 1))) (aF (eOp gIx (aB 1) (eC (.int 2))) aI))))
 (bK 0 .s (aQ EU (aF (eLC [none,some 3,some 1] (iIt (aB 0)) (gB 0) cJ (cN (eOp gEq (eOp gIx (aB 0) (eC (.int 0))) (eOp gIx (aB 2) (eC (.int 3)))) (eOp gEq (aQ lZ (aF (eOp gIx (aB 0) (eC (.int 1))) (aF (eOp gIx (aB 2) (eC (.int 4))) aI))) (aB 1)))) aI))))
noncomputable def vX:List aA->Option aA:=fnD 3 4 Kw
theorem Ky (F:Fun K "points_to_one" "points_to_one" CO f fd)(B:Blt mg)(C:Cst mg)(Z:Gds P w K mg)(D_picked:Def P w K mg base "picked" 1 sU (spF K 0 lZ)):FnOk P w K mg base CX0 2 f fd zM (spF K 0 vX):=by
 have nd:=Ah6.nd
 exact fD F Ah6 rfl (by decide) fun cdv A outer s H E P0 hr=>by
  have hu:=fF hr
  have hv:=eX hr
  exact(bF (bW (i:=3) 0 .s nd rfl (by first | exact aT rfl | exact aY rfl) (cH D_picked (hr.mono (by decide)) rfl (aH (aU hv (aC 2) aM (fun _ _=>rfl)) (aH (aU hv (aC 1) aM (fun _ _=>rfl)) aR))))
   (bO (cX .s (eZ (Es rfl) Dy rfl B.any boot_any (aH (fK (n:=1) (jD rfl (hJ (N:=["other","wanted","rule"]) (cap:=[none,some 3,some 1]) (out:=(bZ CO).names) (XN:=SK) rfl rfl (by decide +kernel) rfl) gP (iR (aC 0)) (fun cl C s₀ H₀ ex=>⟨hZ (j:=0) (show(["other","wanted","rule"]:List aE).Nodup by decide +kernel) rfl (aT rfl),lX,(lV (hE (eU hu) eT (aU hv (aC 0) aM (fun _ _=>rfl)) (aU hv (aC 2) aM (fun _ _=>rfl)) (cK _)) (mK (hE (eU hu) eT (cH D_picked (hr.mono (by decide)) rfl (aH (aU hv (aC 0) aM (fun _ _=>rfl)) (aH (aU hv (aC 2) aM (fun _ _=>rfl)) aR))) (aC 1) (cK _))))⟩))) aR)))))
noncomputable def Sh:SF:=(aS (sIf .s (bOr (cQ (bOf (eUn (cT "tuple") (aB 0)))) (bOr (bOf (eOp gEq (aQ bH (aF (aB 0) aI)) (eC (.int 0)))) (cQ (bOf (eUn (cT "str") (eOp gIx (aB 0) (eC (.int 0)))))))) (bK 0 .s (eC (.bool false))) bY)
 (aS (sIf .s (bOr (bOf (eOp (gIn true) (eOp gIx (aB 0) (eC (.int 0))) (eC (.dict (gKD mO))))) (bOf (eOp gNe (aQ bH (aF (aB 0) aI)) (eOp gIx (eC (.dict (gKD mO))) (eOp gIx (aB 0) (eC (.int 0))))))) (bK 0 .s (eC (.bool false))) bY)
 (bK 0 .s (aQ AQ (aF (eLC [none] (iIt (oK (aB 0) (oS (eC (.int 1))) oN)) (gB 0) cJ (cN (aQ qY (aF (aB 0) aI)) (eOp gGe (aB 0) (eC (.int 0))))) aI)))))
noncomputable def sY:List aA->Option aA:=fnD 1 1 Sh
theorem Fv (F:Fun K "is_step" "is_step" CA f fd)(B:Blt mg)(C:Cst mg)(Z:Gds P w K mg)(D_is_whole:Def P w K mg base "is_whole" 1 yL (spF K 0 qY)):FnOk P w K mg base CX0 2 f fd yH (spF K 0 sY):=by
 obtain⟨_,h_PARTS,g_PARTS⟩:=Z.PARTS
 have nd:=Aoa.nd
 exact fD F Aoa rfl (by decide) fun cdv A outer s H E P0 hr=>by
  have hu:=fF hr
  have hv:=eX hr
  exact(bF (fE .s (lL (kB (kW (iS (mJ (T:="tuple") rfl B.isinstance rfl B.tuple lB (by decide) (aC 0)))) (kB (dN (eU hu) eT (eZ fO fP rfl B.len fU (aH (aC 0) aR)) aM (cK _)) (nF (kW (iS (mJ (T:="str") rfl B.isinstance rfl B.str DR (by decide) (aU hv (aC 0) aM (fun _ _=>rfl))))))))) (bO (cX .s lP)) fJ)
   (bF (fE .s (lL (kB (De g_PARTS rfl h_PARTS (aU hv (aC 0) aM (fun _ _=>rfl))) (nF (dN (nE hu) nD (eZ fO fP rfl B.len fU (aH (aC 0) aR)) (ZN g_PARTS rfl h_PARTS (aU hv (aC 0) aM (fun _ _=>rfl)) (fun _ _=>rfl)) (cK _))))) (bO (cX .s lP)) fJ)
   (bO (cX .s (eZ (Ds rfl) Fe rfl B.all boot_all (aH (fK (n:=1) (jD rfl (hJ (N:=["number"]) (cap:=[none]) (out:=(bZ CA).names) (XN:=QR) rfl rfl (by decide +kernel) rfl) gP (iR (FD (aC 0) (sT aM) sQ)) (fun cl C s₀ H₀ ex=>⟨hZ (j:=0) (show(["number"]:List aE).Nodup by decide +kernel) rfl (aT rfl),lX,(lV (cH D_is_whole (hr.mono (by decide)) rfl (aH (aC 0) aR)) (mK (hE xC xG (aC 0) aM (cK _))))⟩))) aR))))))
noncomputable def Jd:SF:=(aS (bB 3 1 .s (aQ sJ (aF (eOp gIx (aB 1) (eC (.int 4))) (aF (aQ lZ (aF (eOp gIx (aB 2) (eC (.int 1))) (aF (eOp gIx (aB 1) (eC (.int 2))) aI))) aI))))
 (aS (bB 4 1 .a (eLC [none,some 3] (iR1 (aF (eOp gIx (aB 1) (eC (.int 5))) aI)) (gB 0) (bOf (eOp (gIn true) (aB 0) (aB 1))) (aB 0)))
 (cV 4 (aS (uH 3 .s (aQ sJ (aF (aB 4) (aF (aQ rA (aF (aB 0) (aF (aQ bH (aF (aB 4) aI)) aI))) aI))))
 (cV 3 (aS (bB 5 0 .s (cF (aF (eOp gIx (aB 1) (eC (.int 3))) (aF (aQ dB (aF (eLC [none,some 3] (iR1 (aF (eOp gIx (aB 1) (eC (.int 5))) aI)) (gB 0) cJ (eOp gIx (aB 1) (aB 0))) aI)) aI))))
 (bK 0 .s (cF (aF (eOp gIx (aB 0) (eC (.int 0))) (aF (eOp xD (eOp gIx (aB 0) (eC (.int 1))) (cF (aF (aB 5) aI))) aI))))))))))
noncomputable def yY:List aA->Option aA:=fnD 3 6 Jd
theorem Jz (F:Fun K "behind_put" "behind_put" vP f fd)(B:Blt mg)(C:Cst mg)(Z:Gds P w K mg)(D_picked:Def P w K mg base "picked" 1 sU (spF K 0 lZ))(D_new_names:Def P w K mg base "new_names" 1 yN (spF K 1 rA)):FnOk P w K mg base CX0 2 f fd yV (spF K 0 yY):=by
 have nd:=Aj0.nd
 exact fD F Aj0 rfl (by decide) fun cdv A outer s H E P0 hr=>by
  have hu:=fF hr
  have hv:=eX hr
  exact(bF (bW (i:=3) 1 .s nd rfl (by first | exact aT rfl | exact aY rfl) (NP rfl rfl B.dict rfl B.zip (aH (aU hv (aC 1) aM (fun _ _=>rfl)) (aH (cH D_picked (hr.mono (by decide)) rfl (aH (aU hv (aC 2) aM (fun _ _=>rfl)) (aH (aU hv (aC 1) aM (fun _ _=>rfl)) aR))) aR))))
   (bF (by first | exact(uX (i:=4) .a rfl nd rfl (by first | exact aT rfl | exact aY rfl) (hJ (N:=["column","terms"]) (cap:=[none,some 3]) (out:=(bZ vP).names) (XN:=CL) rfl rfl (by decide +kernel) rfl) gP (qL (mB rfl B.range (aH (aU hv (aC 1) aM (fun _ _=>rfl)) aR))) (fun cl C s₀ H₀ ex=>⟨hZ (j:=0) (show(["column","terms"]:List aE).Nodup by decide +kernel) rfl (aT rfl),oG (dN (CH hu) xN (aC 0) (aC 1) (by with_unfolding_all rfl)),(aC 0)⟩)) | exact(bW (i:=4) 1 .a nd rfl (by first | exact aT rfl | exact aY rfl) (jD rfl (hJ (N:=["column","terms"]) (cap:=[none,some 3]) (out:=(bZ vP).names) (XN:=CL) rfl rfl (by decide +kernel) rfl) gP (qL (mB rfl B.range (aH (aU hv (aC 1) aM (fun _ _=>rfl)) aR))) (fun cl C s₀ H₀ ex=>⟨hZ (j:=0) (show(["column","terms"]:List aE).Nodup by decide +kernel) rfl (aT rfl),oG (dN (CH hu) xN (aC 0) (aC 1) (by with_unfolding_all rfl)),(aC 0)⟩))))
   (jS 4 (bF (PV 3 .s (fK (n:=1) (NP rfl rfl B.dict rfl B.zip (aH (aC 4) (aH (fK (n:=1) (cH D_new_names (hr.mono (by decide)) rfl (aH (aC 0) (aH (eZ fO fP rfl B.len fU (aH (aC 4) aR)) aR)))) aR)))))
   (jS 3 (bF (bW (i:=5) 0 .s nd rfl (by first | exact aT rfl | exact aY rfl) (gQ (aH (aU hv (aC 1) aM (fun _ _=>rfl)) (aH (kI oJ oI rfl B.tuple lB (aH (fK (n:=1) (jD rfl (hJ (N:=["column","terms"]) (cap:=[none,some 3]) (out:=(bZ vP).names) (XN:=CL) rfl rfl (by decide +kernel) rfl) gP (qL (mB rfl B.range (aH (aU hv (aC 1) aM (fun _ _=>rfl)) aR))) (fun cl C s₀ H₀ ex=>⟨hZ (j:=0) (show(["column","terms"]:List aE).Nodup by decide +kernel) rfl (aT rfl),lX,(aU hv (aC 1) (aC 0) (fun _ _=>rfl))⟩))) aR)) aR))))
   (bO (cX .s (gQ (aH (aU hv (aC 0) aM (fun _ _=>rfl)) (aH (Lm (aU hv (aC 0) aM (fun _ _=>rfl)) (gQ (aH (aC 5) aR))) aR)))))))))))
noncomputable def Ij:SF:=(aS (bB 2 0 .s (cU (aF (eC (.str "n1")) (aF (eC (.str "n2")) (aF (eC (.str "n3")) (aF (eC (.str "n4")) (aF (eC (.str "n5")) aI)))))))
 (aS (sIf .s (bOf (eOp gEq (eOp bM (aB 0) (eC (.int 2))) (eC (.int 0)))) (bB 2 0 .s (aQ rC (aF (eOp cB (aB 0) (eC (.int 2))) (aF (eC (.int 5)) aI)))) bY)
 (aS (bB 3 0 .s (eOp bM (eOp cB (aB 1) (eC (.int 48))) (eOp dR (eC (.int 10)) (eC (.int 60)))))
 (aS (sIf .s (bOf (eOp gEq (eOp bM (eOp cB (aB 1) (eC (.int 24))) (eC (.int 2))) (eC (.int 1)))) (bB 3 0 .s (eOp dE (eOp dE (eOp cO (eOp dR (eC (.int 10)) (eC (.int 35))) (eOp dR (eC (.int 10)) (eC (.int 35)))) (eC (.int 1))) (eOp bM (aB 3) (eOp dR (eC (.int 10)) (eC (.int 9)))))) bY)
 (aS (bB 4 0 .s (cU (aF (eC (.int 0)) (aF (eOp cO (aB 3) (eOp dE (eC (.int 1)) (eOp cO (eOp bM (eOp cB (aB 1) (eC (.int 12))) (eC (.int 2))) (eC (.int 2))))) aI))))
 (bK 1 .s (eOp uF (pM (aB 2) oN (oS (eOp bQ (eC (.int 2)) (eOp bM (aB 1) (eC (.int 4)))))) (pM (aB 4) oN (oS (eOp bM (eOp cB (aB 1) (eC (.int 4))) (eC (.int 3))))))))))))
noncomputable def vK:List aA->Option aA:=fnD 2 5 Ij
theorem Jo (F:Fun K "_law_pool" "_law_pool" HW f fd)(B:Blt mg)(C:Cst mg)(Z:Gds P w K mg)(D__law_names:Def P w K mg base "_law_names" 1 vO (spF K 1 rC)):FnOk P w K mg base CX0 2 f fd yP (spF K 1 vK):=by
 have nd:=Alo.nd
 exact fD F Alo rfl (by decide) fun cdv A outer s H E P0 hr=>by
  have hu:=fF hr
  have hv:=eX hr
  exact(bF (bW (i:=2) 0 .s nd rfl (by first | exact aT rfl | exact aY rfl) (fK (n:=1) (jP (aH eY (aH eY (aH eY (aH eY (aH eY aR))))))))
   (bF (fE .s (dN (eU hu) eT (eS (aC 0) aM) aM (cK _)) (bO (bW (i:=2) 0 .s nd rfl (by first | exact aT rfl | exact aY rfl) (fK (n:=1) (cH D__law_names (hr.mono (by decide)) rfl (aH (gJ (aC 0) aM) (aH aM aR)))))) fJ)
   (bF (bW (i:=3) 0 .s nd rfl (by first | exact aT rfl | exact aY rfl) (eS (gJ (aC 1) aM) (BG aM aM)))
   (bF (fE .s (dN (eU hu) eT (eS (gJ (aC 1) aM) aM) aM (cK _)) (bO (bW (i:=3) 0 .s nd rfl (by first | exact aT rfl | exact aY rfl) (uQ (uQ (kC (BG aM aM) (BG aM aM)) aM) (eS (aC 3) (BG aM aM))))) fJ)
   (bF (bW (i:=4) 0 .s nd rfl (by first | exact aT rfl | exact aY rfl) (fK (n:=1) (jP (aH aM (aH (kC (aC 3) (uQ aM (kC (eS (gJ (aC 1) aM) aM) aM))) aR)))))
   (bO (cX .s (TB (fK (n:=1) (BC (aC 2) sQ (sT (fN aM (eS (aC 1) aM))))) (fK (n:=1) (BC (aC 4) sQ (sT (eS (gJ (aC 1) aM) aM))))))))))))
noncomputable def Ic:SF:=(aS (bB 4 0 .s (eOp bM (aB 0) (aQ bH (aF (aB 2) aI))))
 (aS (bB 5 0 .s (eOp bM (eOp cB (aB 0) (eC (.int 5))) (aQ bH (aF (aB 2) aI))))
 (aS (bB 6 0 .s (eOp gIx (aB 3) (aB 4)))
 (aS (sIf .s (bOf (eOp gEq (eOp bM (eOp cB (aB 0) (eC (.int 25))) (eC (.int 2))) (eC (.int 0)))) (aS (bB 7 0 .s (eOp bQ (eC (.int 1)) (eOp bM (aB 1) (aQ AO (aF (eC (.int 1)) (aF (eOp dE (aB 6) (eC (.int 1))) aI))))))
 (bK 0 .s (cF (aF (eC (.str "key")) (aF (eOp gIx (aB 2) (aB 4)) (aF (aQ dB (aF (aQ BJ (aF (aQ rD (aF (eOp cB (aB 1) (eC (.int 4))) (aF (aB 7) (aF (aB 6) aI)))) aI)) aI)) aI)))))) bY)
 (aS (bB 7 0 .s (eOp bQ (eC (.int 1)) (eOp bM (eOp cB (aB 1) (eOp bQ (eC (.int 1)) (eOp cO (eOp bM (eOp cB (aB 0) (eC (.int 50))) (eC (.int 2))) (eC (.int 3))))) (aQ AN (aF (aB 6) (aF (eOp gIx (aB 3) (aB 5)) aI))))))
 (aS (bB 8 0 .s (aQ rD (aF (eOp cB (aB 1) (eC (.int 16))) (aF (aB 7) (aF (aB 6) aI)))))
 (aS (bB 9 0 .s (aQ rD (aF (eOp cB (aB 1) (eC (.int 1024))) (aF (aB 7) (aF (eOp gIx (aB 3) (aB 5)) aI)))))
 (bK 0 .s (cF (aF (eC (.str "points")) (aF (eOp gIx (aB 2) (aB 4)) (aF (aB 8) (aF (eOp gIx (aB 2) (aB 5)) (aF (aB 9) (aF (eOp gIx (aB 3) (aB 5)) aI)))))))))))))))
noncomputable def vI:List aA->Option aA:=fnD 4 10 Ic
theorem Jh (F:Fun K "_law_rule" "_law_rule" HR f fd)(B:Blt mg)(C:Cst mg)(Z:Gds P w K mg)(D__law_places:Def P w K mg base "_law_places" 1 zG (spF K 0 rD)):FnOk P w K mg base CX0 2 f fd yR (spF K 0 vI):=by
 have nd:=Alj.nd
 exact fD F Alj rfl (by decide) fun cdv A outer s H E P0 hr=>by
  have hu:=fF hr
  have hv:=eX hr
  exact(bF (bW (i:=4) 0 .s nd rfl (by first | exact aT rfl | exact aY rfl) (eS (aC 0) (eZ fO fP rfl B.len fU (aH (aC 2) aR))))
   (bF (bW (i:=5) 0 .s nd rfl (by first | exact aT rfl | exact aY rfl) (eS (gJ (aC 0) aM) (eZ fO fP rfl B.len fU (aH (aC 2) aR))))
   (bF (bW (i:=6) 0 .s nd rfl (by first | exact aT rfl | exact aY rfl) (aU hv (aC 3) (aC 4) (fun _ _=>rfl)))
   (bF (fE .s (dN (eU hu) eT (eS (gJ (aC 0) aM) aM) aM (cK _)) (bF (bW (i:=7) 0 .s nd rfl (by first | exact aT rfl | exact aY rfl) (fN aM (eS (aC 1) (eZ (Sd rfl) Dz rfl B.max PyProof.Rows.boot_max (aH aM (aH (uQ (aC 6) aM) aR))))))
   (bO (cX .s (gQ (aH eY (aH (aU hv (aC 2) (aC 4) (fun _ _=>rfl)) (aH (kI oJ oI rfl B.tuple lB (aH (fK (n:=1) (eZ Kh Jc rfl B.sorted PyProof.Rows.boot_sorted (aH (cH D__law_places (hr.mono (by decide)) rfl (aH (gJ (aC 1) aM) (aH (aC 7) (aH (aC 6) aR)))) aR))) aR)) aR))))))) fJ)
   (bF (bW (i:=7) 0 .s nd rfl (by first | exact aT rfl | exact aY rfl) (fN aM (eS (gJ (aC 1) (fN aM (kC (eS (gJ (aC 0) aM) aM) aM))) (eZ (Fj rfl) Da rfl B.min PyProof.Rows.boot_min (aH (aC 6) (aH (aU hv (aC 3) (aC 5) (fun _ _=>rfl)) aR))))))
   (bF (bW (i:=8) 0 .s nd rfl (by first | exact aT rfl | exact aY rfl) (cH D__law_places (hr.mono (by decide)) rfl (aH (gJ (aC 1) aM) (aH (aC 7) (aH (aC 6) aR)))))
   (bF (bW (i:=9) 0 .s nd rfl (by first | exact aT rfl | exact aY rfl) (cH D__law_places (hr.mono (by decide)) rfl (aH (gJ (aC 1) aM) (aH (aC 7) (aH (aU hv (aC 3) (aC 5) (fun _ _=>rfl)) aR)))))
   (bO (cX .s (gQ (aH eY (aH (aU hv (aC 2) (aC 4) (fun _ _=>rfl)) (aH (aC 8) (aH (aU hv (aC 2) (aC 5) (fun _ _=>rfl)) (aH (aC 9) (aH (aU hv (aC 3) (aC 5) (fun _ _=>rfl)) aR))))))))))))))))
noncomputable def Jf:SF:=(aS (gG .s (iEn (aF (aB 0) aI)) (rZ 3 4) (gG .s (iR2 (aF (eOp bQ (aB 3) (eC (.int 1))) (aF (aQ bH (aF (aB 0) aI)) aI))) (gNm 5) (aS (bB 6 0 .s (eIf (bOf (aQ pA (aF (aB 2) (aF (aB 4) (aF (eOp gIx (aB 0) (aB 5)) aI))))) (aQ qS (aF (aB 4) (aF (eOp gIx (aB 0) (aB 5)) aI))) (cU aI)))
 (sIf .s (bOf (eOp gGt (aQ bH (aF (aB 6) aI)) (eC (.int 0)))) (bK 0 .s (aQ qW (aF (aB 0) (aF (aB 1) (aF (aB 3) (aF (aB 5) (aF (eOp gIx (aB 6) (eC (.int 0))) aI))))))) bY))))
 (bK 0 .s (eC .none)))
noncomputable def vQ:List aA->Option aA:=fnD 3 7 Jf
theorem Kk (F:Fun K "due_by_key" "due_by_key" IC f fd)(B:Blt mg)(C:Cst mg)(Z:Gds P w K mg)(D_unlike:Def P w K mg base "unlike" 1 uZ (spF K 1 qS))(D_meet:Def P w K mg base "meet" 2 uM (spF K 0 pA))(D_step_of:Def P w K mg base "step_of" 2 vD (spF K 0 qW)):FnOk P w K mg base CX0 3 f fd yW (spF K 0 vQ):=by
 have nd:=Aj1.nd
 exact fD F Aj1 rfl (by decide) fun cdv A outer s H E P0 hr=>by
  have hu:=fF hr
  have hv:=eX hr
  exact(bF (oZ iZ rfl (xY rfl B.enumerate (aH (aC 0) aR)) (xS (i:=3) (j:=4) rfl nd rfl rfl (by first | exact aT rfl | exact aY rfl) (by first | exact aT rfl | exact aY rfl)) (bO (qP .s iZ rfl (GR rfl B.range (aH (fN (aC 3) aM) (aH (eZ fO fP rfl B.len fU (aH (aC 0) aR)) aR))) (mL (i:=5) nd rfl (by first | exact aT rfl | exact aY rfl)) (bF (bW (i:=6) 0 .s nd rfl (by first | exact aT rfl | exact aY rfl) (BS (iS (cH D_meet (hr.mono (by decide)) rfl (aH (aC 2) (aH (aC 4) (aH (aU hv (aC 0) (aC 5) (fun _ _=>rfl)) aR))))) (fK (n:=1) (cH D_unlike (hr.mono (by decide)) rfl (aH (aC 4) (aH (aU hv (aC 0) (aC 5) (fun _ _=>rfl)) aR)))) (fK (n:=1) (jP aR))))
   (bO (fE .s (dN DH BA (eZ fO fP rfl B.len fU (aH (aC 6) aR)) aM (cK _)) (bO (cX .s (cH D_step_of (hr.mono (by decide)) rfl (aH (aC 0) (aH (aC 1) (aH (aC 3) (aH (aC 5) (aH (aU hv (aC 6) aM (fun _ _=>rfl)) aR)))))))) fJ))))))
   (bO (cX .s mZ)))
noncomputable def Hw:SF:=(bK 0 .s (cN (eOp gEq (eOp gIx (aB 1) (eC (.int 0))) (eC (.str "points"))) (cN (eOp gEq (eOp gIx (aB 1) (eC (.int 1))) (eOp gIx (aB 2) (eC (.int 0)))) (dS (aQ vX (aF (aB 0) (aF (aB 1) (aF (aB 2) aI))))))))
noncomputable def pH:List aA->Option aA:=fnD 3 3 Hw
theorem Jp (F:Fun K "wants_put" "wants_put" HV f fd)(B:Blt mg)(C:Cst mg)(Z:Gds P w K mg)(D_points_to_one:Def P w K mg base "points_to_one" 2 zM (spF K 0 vX)):FnOk P w K mg base CX0 3 f fd vH (spF K 0 pH):=by
 have nd:=Ak7.nd
 exact fD F Ak7 rfl (by decide) fun cdv A outer s H E P0 hr=>by
  have hu:=fF hr
  have hv:=eX hr
  exact(bO (cX .s (lV (hE (eU hu) eT (aU hv (aC 1) aM (fun _ _=>rfl)) eY (cK _)) (lV (hE (eU hu) eT (aU hv (aC 1) aM (fun _ _=>rfl)) (aU hv (aC 2) aM (fun _ _=>rfl)) (cK _)) (mK (TL (cH D_points_to_one (hr.mono (by decide)) rfl (aH (aC 0) (aH (aC 1) (aH (aC 2) aR))))))))))
noncomputable def Kz:SF:=(aS (bB 3 0 .s (eOp gIx (aB 2) (eC (.int 2))))
 (aS (bB 4 0 .s (eOp gIx (aB 2) (eC (.int 3))))
 (aS (sIf .s (bOr (bOf (eOp gNe (eOp gIx (aB 1) (eC (.int 0))) (eC (.str "key")))) (bOr (cQ (bOf (xQ gLt gLt (aB 3) (aB 4) (aQ bH (aF (aB 0) aI))))) (cQ (bOf (aQ pA (aF (aB 1) (aF (eOp gIx (aB 0) (aB 3)) (aF (eOp gIx (aB 0) (aB 4)) aI)))))))) (bK 0 .s (eC (.bool false))) bY)
 (bK 0 .s (cN (eOp (gIn false) (eOp gIx (aB 2) (eC (.int 4))) (aQ qS (aF (eOp gIx (aB 0) (aB 3)) (aF (eOp gIx (aB 0) (aB 4)) aI)))) (eOp gEq (aB 2) (aQ qW (aF (aB 0) (aF (eOp gIx (aB 2) (eC (.int 1))) (aF (aB 3) (aF (aB 4) (aF (eOp gIx (aB 2) (eC (.int 4))) aI))))))))))))
noncomputable def zQ:List aA->Option aA:=fnD 3 5 Kz
theorem Lb (F:Fun K "is_right_key_step" "is_right_key_step" II f fd)(B:Blt mg)(C:Cst mg)(Z:Gds P w K mg)(D_unlike:Def P w K mg base "unlike" 1 uZ (spF K 1 qS))(D_meet:Def P w K mg base "meet" 2 uM (spF K 0 pA))(D_step_of:Def P w K mg base "step_of" 2 vD (spF K 0 qW)):FnOk P w K mg base CX0 3 f fd zP (spF K 0 zQ):=by
 have nd:=Afw.nd
 exact fD F Afw rfl (by decide) fun cdv A outer s H E P0 hr=>by
  have hu:=fF hr
  have hv:=eX hr
  exact(bF (bW (i:=3) 0 .s nd rfl (by first | exact aT rfl | exact aY rfl) (aU hv (aC 2) aM (fun _ _=>rfl)))
   (bF (bW (i:=4) 0 .s nd rfl (by first | exact aT rfl | exact aY rfl) (aU hv (aC 2) aM (fun _ _=>rfl)))
   (bF (fE .s (lL (kB (dN (nE hu) nD (aU hv (aC 1) aM (fun _ _=>rfl)) eY (cK _)) (kB (kW (Pi (A2p.or BZ) (A2p.or BZ) AW AW (aC 3) (aC 4) (eZ fO fP rfl B.len fU (aH (aC 0) aR)))) (nF (kW (iS (cH D_meet (hr.mono (by decide)) rfl (aH (aC 1) (aH (aU hv (aC 0) (aC 3) (fun _ _=>rfl)) (aH (aU hv (aC 0) (aC 4) (fun _ _=>rfl)) aR)))))))))) (bO (cX .s lP)) fJ)
   (bO (cX .s (lV (hE (Pw hu) xN (aU hv (aC 2) aM (fun _ _=>rfl)) (fK (n:=1) (cH D_unlike (hr.mono (by decide)) rfl (aH (aU hv (aC 0) (aC 3) (fun _ _=>rfl)) (aH (aU hv (aC 0) (aC 4) (fun _ _=>rfl)) aR)))) (by with_unfolding_all rfl)) (mK (hE (eU hu) eT (aC 2) (cH D_step_of (hr.mono (by decide)) rfl (aH (aC 0) (aH (aU hv (aC 2) aM (fun _ _=>rfl)) (aH (aC 3) (aH (aC 4) (aH (aU hv (aC 2) aM (fun _ _=>rfl)) aR)))))) (cK _)))))))))
noncomputable def Ki:SF:=(aS (bB 3 0 .s (eIf (bOf (eUn (cT "str") (aB 2))) (eD1 (aB 2) (aB 1)) (eD1 (aB 1) (aB 2))))
 (bK 0 .s (cF (aF (aQ qR (aF (eOp gIx (aB 0) (eC (.int 0))) (aF (aB 3) aI))) (aF (aQ pB (aF (aQ zN (aF (eOp gIx (aB 0) (eC (.int 1))) (aF (aB 3) aI))) aI)) aI)))))
noncomputable def zJ:List aA->Option aA:=fnD 3 4 Ki
theorem Kq (F:Fun K "behind_same" "behind_same" IF f fd)(B:Blt mg)(C:Cst mg)(Z:Gds P w K mg)(D_put_in:Def P w K mg base "put_in" 1 uY (spF K 0 qR))(D_once:Def P w K mg base "once" 1 uN (spF K 0 pB))(D_put_in_lines:Def P w K mg base "put_in_lines" 2 zO (spF K 0 zN)):FnOk P w K mg base CX0 3 f fd zF (spF K 0 zJ):=by
 have nd:=Ai7.nd
 exact fD F Ai7 rfl (by decide) fun cdv A outer s H E P0 hr=>by
  have hu:=fF hr
  have hv:=eX hr
  exact(bF (bW (i:=3) 0 .s nd rfl (by first | exact aT rfl | exact aY rfl) (BS (iS (mJ (T:="str") rfl B.isinstance rfl B.str DR (by decide) (aC 2))) (fK (n:=1) (NN (aC 2) (aC 1))) (fK (n:=1) (NN (aC 1) (aC 2)))))
   (bO (cX .s (gQ (aH (cH D_put_in (hr.mono (by decide)) rfl (aH (aU hv (aC 0) aM (fun _ _=>rfl)) (aH (aC 3) aR))) (aH (cH D_once (hr.mono (by decide)) rfl (aH (cH D_put_in_lines (hr.mono (by decide)) rfl (aH (aU hv (aC 0) aM (fun _ _=>rfl)) (aH (aC 3) aR))) aR)) aR))))))
noncomputable def Ha:SF:=(aS (bB 1 0 .s (aQ iW (aF (aB 0) (aF (eC (.int 1)) aI))))
 (aS (bB 2 0 .s (aQ rC (aF (aQ iW (aF (aB 0) (aF (eC (.int 0)) aI))) (aF (eOp bQ (eC (.int 1)) (eOp bM (eOp cB (aB 1) (eC (.int 2))) (eC (.int 5)))) aI))))
 (aS (bB 3 0 .s (aQ vK (aF (aQ iW (aF (aB 0) (aF (eC (.int 2)) aI))) (aF (aQ iW (aF (aB 0) (aF (eC (.int 3)) aI))) aI))))
 (aS (bB 4 0 .s (aQ iW (aF (aB 0) (aF (eC (.int 4)) aI))))
 (aS (sIf .s (bOf (eOp gEq (eOp bM (aB 1) (eC (.int 2))) (eC (.int 0)))) (aS (bB 5 0 .s (eOp IQ (cU (aF (eC (.int 2)) aI)) (aQ bH (aF (aB 2) aI))))
 (bB 6 1 .s (aQ vJ (aF (eOp cB (aB 4) (eC (.int 7))) (aF (aB 2) aI))))) (aS (bB 5 1 .s (eLC [none,some 1] (iR1 (aF (aQ bH (aF (aB 2) aI)) aI)) (gB 0) cJ (eOp bQ (eC (.int 1)) (eOp bM (eOp cB (eOp cB (aB 1) (eC (.int 10))) (eOp bQ (eOp cO (aB 0) (aB 0)) (eC (.int 1)))) (eC (.int 3))))))
 (cV 5 (aS (bB 6 1 .s (cU aI))
 (gG .s (iR1 (aF (eOp bM (aB 4) (eC (.int 7))) aI)) (gNm 7) (aS (bB 8 0 .s (aQ iW (aF (aB 0) (aF (eOp bQ (eC (.int 12)) (eOp cO (eC (.int 2)) (aB 7))) aI))))
 (dD 6 .s (aQ vI (aF (aB 8) (aF (aQ iW (aF (aB 0) (aF (eOp bQ (eC (.int 13)) (eOp cO (eC (.int 2)) (aB 7))) aI))) (aF (aB 2) (aF (aB 5) aI))))))))))))
 (cV 6 (aS (bB 9 1 .s (cU aI))
 (aS (gG .s (iR1 (aF (eOp bM (aQ iW (aF (aB 0) (aF (eC (.int 5)) aI))) (eC (.int 6))) aI)) (gNm 7) (aS (bB 10 0 .s (aQ vU (aF (aQ iW (aF (aB 0) (aF (eOp bQ (eC (.int 7)) (aB 7)) aI))) (aF (aB 7) (aF (aB 2) (aF (aB 5) (aF (aB 3) aI)))))))
 (aS (sIf .s (dI (bOf (eOp gEq (eOp bM (aQ iW (aF (aB 0) (aF (eOp bQ (eC (.int 24)) (aB 7)) aI))) (eC (.int 7))) (eC (.int 3)))) (bOf (eOp gGt (aB 7) (eC (.int 0))))) (bB 10 0 .a (eOp gIx (aB 9) (eOp dE (aB 7) (eC (.int 1))))) bY)
 (dD 9 .s (aB 10)))))
 (cV 9 (bK 1 .s (cU (aF (aQ dB (aF (aB 9) aI)) (aF (aB 6) aI)))))))))))))
noncomputable def vL:List aA->Option aA:=fnD 1 11 Ha
theorem Ig (F:Fun K "_law_set" "_law_set" yJ f fd)(B:Blt mg)(C:Cst mg)(Z:Gds P w K mg)(D__law_cell:Def P w K mg base "_law_cell" 1 vV (spF K 0 iW))(D__law_names:Def P w K mg base "_law_names" 1 vO (spF K 1 rC))(D__law_line:Def P w K mg base "_law_line" 1 yM (spF K 0 vU))(D__law_ring:Def P w K mg base "_law_ring" 1 yO (spF K 1 vJ))(D__law_pool:Def P w K mg base "_law_pool" 2 yP (spF K 1 vK))(D__law_rule:Def P w K mg base "_law_rule" 2 yR (spF K 0 vI)):FnOk P w K mg base CX0 3 f fd yS (spF K 1 vL):=by
 have nd:=Ams.nd
 exact fD F Ams rfl (by decide) fun cdv A outer s H E P0 hr=>by
  have hu:=fF hr
  have hv:=eX hr
  exact(bF (bW (i:=1) 0 .s nd rfl (by first | exact aT rfl | exact aY rfl) (cH D__law_cell (hr.mono (by decide)) rfl (aH (aC 0) (aH aM aR))))
   (bF (bW (i:=2) 0 .s nd rfl (by first | exact aT rfl | exact aY rfl) (fK (n:=1) (cH D__law_names (hr.mono (by decide)) rfl (aH (cH D__law_cell (hr.mono (by decide)) rfl (aH (aC 0) (aH aM aR))) (aH (fN aM (eS (gJ (aC 1) aM) aM)) aR)))))
   (bF (bW (i:=3) 0 .s nd rfl (by first | exact aT rfl | exact aY rfl) (fK (n:=1) (cH D__law_pool (hr.mono (by decide)) rfl (aH (cH D__law_cell (hr.mono (by decide)) rfl (aH (aC 0) (aH aM aR))) (aH (cH D__law_cell (hr.mono (by decide)) rfl (aH (aC 0) (aH aM aR))) aR)))))
   (bF (bW (i:=4) 0 .s nd rfl (by first | exact aT rfl | exact aY rfl) (cH D__law_cell (hr.mono (by decide)) rfl (aH (aC 0) (aH aM aR))))
   (bF (fE .s (dN (eU hu) eT (eS (aC 1) aM) aM (cK _)) (bF (bW (i:=5) 0 .s nd rfl (by first | exact aT rfl | exact aY rfl) (fK (n:=1) (Ny (fK (n:=1) (jP (aH aM aR))) (eZ fO fP rfl B.len fU (aH (aC 2) aR)))))
   (bO (bW (i:=6) 1 .s nd rfl (by first | exact aT rfl | exact aY rfl) (cH D__law_ring (hr.mono (by decide)) rfl (aH (gJ (aC 4) aM) (aH (aC 2) aR)))))) (bF (by first | exact(uX (i:=5) .s rfl nd rfl (by first | exact aT rfl | exact aY rfl) (hJ (N:=["_law_k","_law_cell_here"]) (cap:=[none,some 1]) (out:=(bZ yJ).names) (XN:=HK) rfl rfl (by decide +kernel) rfl) gP (qL (mB rfl B.range (aH (eZ fO fP rfl B.len fU (aH (aC 2) aR)) aR))) (fun cl C s₀ H₀ ex=>⟨hZ (j:=0) (show(["_law_k","_law_cell_here"]:List aE).Nodup by decide +kernel) rfl (aT rfl),lX,(fN aM (eS (gJ (gJ (aC 1) aM) (fN (kC (aC 0) (aC 0)) aM)) aM))⟩)) | exact(bW (i:=5) 1 .s nd rfl (by first | exact aT rfl | exact aY rfl) (jD rfl (hJ (N:=["_law_k","_law_cell_here"]) (cap:=[none,some 1]) (out:=(bZ yJ).names) (XN:=HK) rfl rfl (by decide +kernel) rfl) gP (qL (mB rfl B.range (aH (eZ fO fP rfl B.len fU (aH (aC 2) aR)) aR))) (fun cl C s₀ H₀ ex=>⟨hZ (j:=0) (show(["_law_k","_law_cell_here"]:List aE).Nodup by decide +kernel) rfl (aT rfl),lX,(fN aM (eS (gJ (gJ (aC 1) aM) (fN (kC (aC 0) (aC 0)) aM)) aM))⟩))))
   (jS 5 (bF (bW (i:=6) 1 .s nd rfl (by first | exact aT rfl | exact aY rfl) (jP aR))
   (bO (qP .s iZ rfl (mB rfl B.range (aH (eS (aC 4) aM) aR)) (mL (i:=7) nd rfl (by first | exact aT rfl | exact aY rfl)) (bF (bW (i:=8) 0 .s nd rfl (by first | exact aT rfl | exact aY rfl) (cH D__law_cell (hr.mono (by decide)) rfl (aH (aC 0) (aH (fN aM (kC aM (aC 7))) aR))))
   (bO (qU 6 .s (cH D__law_rule (hr.mono (by decide)) rfl (aH (aC 8) (aH (cH D__law_cell (hr.mono (by decide)) rfl (aH (aC 0) (aH (fN aM (kC aM (aC 7))) aR))) (aH (aC 2) (aH (aC 5) aR))))))))))))))
   (jS 6 (bF (bW (i:=9) 1 .s nd rfl (by first | exact aT rfl | exact aY rfl) (jP aR))
   (bF (qP .s iZ rfl (mB rfl B.range (aH (eS (cH D__law_cell (hr.mono (by decide)) rfl (aH (aC 0) (aH aM aR))) aM) aR)) (mL (i:=7) nd rfl (by first | exact aT rfl | exact aY rfl)) (bF (bW (i:=10) 0 .s nd rfl (by first | exact aT rfl | exact aY rfl) (cH D__law_line (hr.mono (by decide)) rfl (aH (cH D__law_cell (hr.mono (by decide)) rfl (aH (aC 0) (aH (fN aM (aC 7)) aR))) (aH (aC 7) (aH (aC 2) (aH (aC 5) (aH (aC 3) aR)))))))
   (bF (fE .s (lL (IU (dN (eU hu) eT (eS (cH D__law_cell (hr.mono (by decide)) rfl (aH (aC 0) (aH (fN aM (aC 7)) aR))) aM) aM (cK _)) (NK (dN DH BA (aC 7) aM (cK _))))) (bO (bW (i:=10) 0 .a nd rfl (by first | exact aT rfl | exact aY rfl) (aU hv (aC 9) (uQ (aC 7) aM) (fun _ _=>rfl)))) fJ)
   (bO (qU 9 .s (aC 10))))))
   (jS 9 (bO (cX .s (jP (aH (kI oJ oI rfl B.tuple lB (aH (aC 9) aR)) (aH (aC 6) aR))))))))))))))
noncomputable def Ee:SF:=(aS (gG .s (iEn (aF (aB 0) aI)) (rZ 2 3) (gG .s (iEn (aF (aB 1) aI)) (rZ 4 5) (sIf .s (bOf (aQ pH (aF (aB 0) (aF (aB 5) (aF (aB 3) aI))))) (bK 0 .s (cF (aF (eC (.str "put")) (aF (aB 4) (aF (aB 2) aI))))) bY)))
 (bK 0 .s (eC .none)))
noncomputable def vF:List aA->Option aA:=fnD 2 6 Ee
theorem Gv (F:Fun K "due_put" "due_put" GQ f fd)(B:Blt mg)(C:Cst mg)(Z:Gds P w K mg)(D_wants_put:Def P w K mg base "wants_put" 3 vH (spF K 0 pH)):FnOk P w K mg base CX0 4 f fd yG (spF K 0 vF):=by
 have nd:=Aoq.nd
 exact fD F Aoq rfl (by decide) fun cdv A outer s H E P0 hr=>by
  have hu:=fF hr
  have hv:=eX hr
  exact(bF (oZ iZ rfl (xY rfl B.enumerate (aH (aC 0) aR)) (xS (i:=2) (j:=3) rfl nd rfl rfl (by first | exact aT rfl | exact aY rfl) (by first | exact aT rfl | exact aY rfl)) (bO (oZ iZ rfl (xY rfl B.enumerate (aH (aC 1) aR)) (xS (i:=4) (j:=5) rfl nd rfl rfl (by first | exact aT rfl | exact aY rfl) (by first | exact aT rfl | exact aY rfl)) (bO (fE .s (iS (cH D_wants_put (hr.mono (by decide)) rfl (aH (aC 0) (aH (aC 5) (aH (aC 3) aR))))) (bO (cX .s (gQ (aH eY (aH (aC 4) (aH (aC 2) aR)))))) fJ)))))
   (bO (cX .s mZ)))
noncomputable def Fm:SF:=(aS (sIf .s (bOr (cQ (bOf (aQ sY (aF (aB 1) aI)))) (bOf (eOp gGe (eOp gIx (aB 1) (eC (.int 1))) (aQ bH (aF (aB 2) aI))))) (bK 0 .s (eC (.bool false))) bY)
 (aS (bB 3 0 .s (eOp gIx (aB 2) (eOp gIx (aB 1) (eC (.int 1)))))
 (aS (sIf .s (bOf (eOp gEq (eOp gIx (aB 1) (eC (.int 0))) (eC (.str "put")))) (bK 0 .s (cN (eOp gLt (eOp gIx (aB 1) (eC (.int 2))) (aQ bH (aF (aB 0) aI))) (aQ pH (aF (aB 0) (aF (aB 3) (aF (eOp gIx (aB 0) (eOp gIx (aB 1) (eC (.int 2)))) aI)))))) bY)
 (bK 0 .s (aQ zQ (aF (aB 0) (aF (aB 3) (aF (aB 1) aI))))))))
noncomputable def vM:List aA->Option aA:=fnD 3 4 Fm
theorem Ii (F:Fun K "is_right" "is_right" HN f fd)(B:Blt mg)(C:Cst mg)(Z:Gds P w K mg)(D_is_step:Def P w K mg base "is_step" 2 yH (spF K 0 sY))(D_wants_put:Def P w K mg base "wants_put" 3 vH (spF K 0 pH))(D_is_right_key_step:Def P w K mg base "is_right_key_step" 3 zP (spF K 0 zQ)):FnOk P w K mg base CX0 4 f fd yI (spF K 0 vM):=by
 have nd:=Am5.nd
 exact fD F Am5 rfl (by decide) fun cdv A outer s H E P0 hr=>by
  have hu:=fF hr
  have hv:=eX hr
  exact(bF (fE .s (lL (kB (kW (iS (cH D_is_step (hr.mono (by decide)) rfl (aH (aC 1) aR)))) (nF (dN xC xG (aU hv (aC 1) aM (fun _ _=>rfl)) (eZ fO fP rfl B.len fU (aH (aC 2) aR)) (cK _))))) (bO (cX .s lP)) fJ)
   (bF (bW (i:=3) 0 .s nd rfl (by first | exact aT rfl | exact aY rfl) (aU hv (aC 2) (aU hv (aC 1) aM (fun _ _=>rfl)) (fun _ _=>rfl)))
   (bF (fE .s (dN (eU hu) eT (aU hv (aC 1) aM (fun _ _=>rfl)) eY (cK _)) (bO (cX .s (lV (hE (A2p.or BZ) AW (aU hv (aC 1) aM (fun _ _=>rfl)) (eZ fO fP rfl B.len fU (aH (aC 0) aR)) (cK _)) (mK (cH D_wants_put (hr.mono (by decide)) rfl (aH (aC 0) (aH (aC 3) (aH (aU hv (aC 0) (aU hv (aC 1) aM (fun _ _=>rfl)) (fun _ _=>rfl)) aR)))))))) fJ)
   (bO (cX .s (cH D_is_right_key_step (hr.mono (by decide)) rfl (aH (aC 0) (aH (aC 3) (aH (aC 1) aR)))))))))
noncomputable def ZU:SF:=(aS (gG .s (iEn (aF (aB 1) aI)) (rZ 2 3) (aS (bB 4 0 .s (eIf (bOf (eOp gEq (eOp gIx (aB 3) (eC (.int 0))) (eC (.str "key")))) (aQ vQ (aF (eOp gIx (aB 0) (eC (.int 1))) (aF (aB 2) (aF (aB 3) aI)))) (eC .none)))
 (sIf .s (bOf (eOp oC (aB 4) (eC .none))) (bK 0 .s (aB 4)) bY)))
 (bK 0 .s (aQ vF (aF (eOp gIx (aB 0) (eC (.int 1))) (aF (aB 1) aI)))))
noncomputable def lQ:List aA->Option aA:=fnD 2 5 ZU
theorem Ct (F:Fun K "due" "due" IT f fd)(B:Blt mg)(C:Cst mg)(Z:Gds P w K mg)(D_due_by_key:Def P w K mg base "due_by_key" 3 yW (spF K 0 vQ))(D_due_put:Def P w K mg base "due_put" 4 yG (spF K 0 vF)):FnOk P w K mg base CX0 5 f fd sA (spF K 0 lQ):=by
 have nd:=A5j.nd
 exact fD F A5j rfl (by decide) fun cdv A outer s H E P0 hr=>by
  have hu:=fF hr
  have hv:=eX hr
  exact(bF (oZ iZ rfl (xY rfl B.enumerate (aH (aC 1) aR)) (xS (i:=2) (j:=3) rfl nd rfl rfl (by first | exact aT rfl | exact aY rfl) (by first | exact aT rfl | exact aY rfl)) (bF (bW (i:=4) 0 .s nd rfl (by first | exact aT rfl | exact aY rfl) (BS (dN (eU hu) eT (aU hv (aC 3) aM (fun _ _=>rfl)) eY (cK _)) (cH D_due_by_key (hr.mono (by decide)) rfl (aH (aU hv (aC 0) aM (fun _ _=>rfl)) (aH (aC 2) (aH (aC 3) aR)))) mZ))
   (bO (fE .s (dN FR GI (aC 4) mZ (cK _)) (bO (cX .s (aC 4))) fJ))))
   (bO (cX .s (cH D_due_put (hr.mono (by decide)) rfl (aH (aU hv (aC 0) aM (fun _ _=>rfl)) (aH (aC 1) aR))))))
noncomputable def Pg:SF:=(aS (bB 3 0 .s (eOp gIx (aB 0) (eC (.int 1))))
 (aS (sIf .s (cQ (bOf (aQ vM (aF (aB 3) (aF (aB 1) (aF (aB 2) aI)))))) (bK 0 .s (eC .none)) bY)
 (aS (sIf .s (bOf (eOp gEq (eOp gIx (aB 1) (eC (.int 0))) (eC (.str "clash")))) (bK 0 .s (aB 0)) bY)
 (aS (sIf .s (bOf (eOp gEq (eOp gIx (aB 1) (eC (.int 0))) (eC (.str "put")))) (bK 0 .s (aQ yY (aF (aB 0) (aF (eOp gIx (aB 2) (eOp gIx (aB 1) (eC (.int 1)))) (aF (eOp gIx (aB 3) (eOp gIx (aB 1) (eC (.int 2)))) aI))))) bY)
 (bK 0 .s (aQ zJ (aF (aB 0) (aF (eOp gIx (eOp gIx (eOp gIx (aB 3) (eOp gIx (aB 1) (eC (.int 2)))) (eC (.int 1))) (eOp gIx (aB 1) (eC (.int 4)))) (aF (eOp gIx (eOp gIx (eOp gIx (aB 3) (eOp gIx (aB 1) (eC (.int 3)))) (eC (.int 1))) (eOp gIx (aB 1) (eC (.int 4)))) aI)))))))))
noncomputable def kZ:List aA->Option aA:=fnD 3 4 Pg
theorem Rr (F:Fun K "behind" "behind" GC f fd)(B:Blt mg)(C:Cst mg)(Z:Gds P w K mg)(D_behind_put:Def P w K mg base "behind_put" 2 yV (spF K 0 yY))(D_behind_same:Def P w K mg base "behind_same" 3 zF (spF K 0 zJ))(D_is_right:Def P w K mg base "is_right" 4 yI (spF K 0 vM)):FnOk P w K mg base CX0 5 f fd vB (spF K 0 kZ):=by
 have nd:=Aq9.nd
 exact fD F Aq9 rfl (by decide) fun cdv A outer s H E P0 hr=>by
  have hu:=fF hr
  have hv:=eX hr
  exact(bF (bW (i:=3) 0 .s nd rfl (by first | exact aT rfl | exact aY rfl) (aU hv (aC 0) aM (fun _ _=>rfl)))
   (bF (fE .s (kW (iS (cH D_is_right (hr.mono (by decide)) rfl (aH (aC 3) (aH (aC 1) (aH (aC 2) aR)))))) (bO (cX .s mZ)) fJ)
   (bF (fE .s (dN (eU hu) eT (aU hv (aC 1) aM (fun _ _=>rfl)) eY (cK _)) (bO (cX .s (aC 0))) fJ)
   (bF (fE .s (dN (eU hu) eT (aU hv (aC 1) aM (fun _ _=>rfl)) eY (cK _)) (bO (cX .s (cH D_behind_put (hr.mono (by decide)) rfl (aH (aC 0) (aH (aU hv (aC 2) (aU hv (aC 1) aM (fun _ _=>rfl)) (fun _ _=>rfl)) (aH (aU hv (aC 3) (aU hv (aC 1) aM (fun _ _=>rfl)) (fun _ _=>rfl)) aR)))))) fJ)
   (bO (cX .s (cH D_behind_same (hr.mono (by decide)) rfl (aH (aC 0) (aH (aU hv (aU hv (aU hv (aC 3) (aU hv (aC 1) aM (fun _ _=>rfl)) (fun _ _=>rfl)) aM (fun _ _=>rfl)) (aU hv (aC 1) aM (fun _ _=>rfl)) (fun _ _=>rfl)) (aH (aU hv (aU hv (aU hv (aC 3) (aU hv (aC 1) aM (fun _ _=>rfl)) (fun _ _=>rfl)) aM (fun _ _=>rfl)) (aU hv (aC 1) aM (fun _ _=>rfl)) (fun _ _=>rfl)) aR))))))))))
noncomputable def Nw:SF:=(aS (bB 2 0 .s (cF (aF (eOp gIx (aB 0) (eC (.int 0))) (aF (aQ pB (aF (eOp gIx (aB 0) (eC (.int 1))) aI)) aI))))
 (aS (bB 3 1 .s (cU aI))
 (aS (bB 4 0 .s (aQ lQ (aF (aB 2) (aF (aB 1) aI))))
 (aS (whD .a (dI (bOf (eOp oC (aB 4) (eC .none))) (dI (bOf (eOp gNe (eOp gIx (aB 4) (eC (.int 0))) (eC (.str "clash")))) (cQ (bOf (aQ pG (aF (aB 2) (aF (aB 3) (aF (aB 4) (aF (aB 1) aI))))))))) (aS (dD 3 .s (aB 4))
 (aS (bB 2 0 .s (aQ kZ (aF (aB 2) (aF (aB 4) (aF (aB 1) aI)))))
 (bB 4 0 .s (aQ lQ (aF (aB 2) (aF (aB 1) aI)))))) 200)
 (aS (sIf .s (bOf (eOp uG (aB 4) (eC .none))) (xB .s (eC (.str "still")) .s (aB 2) 3) bY)
 (aS (sIf .s (bOf (eOp gEq (eOp gIx (aB 4) (eC (.int 0))) (eC (.str "put")))) (xB .s (eC (.str "past")) .s (aB 2) 3) bY)
 (CW .s (eC (.str "clash")) .s (aB 2) .a (eOp uF (aB 3) (cU (aF (aB 4) aI))))))))))
noncomputable def qO:List aA->Option aA:=fnD 2 5 Nw
theorem Ql (F:Fun K "chase" "chase" FS f fd)(B:Blt mg)(C:Cst mg)(Z:Gds P w K mg)(D_once:Def P w K mg base "once" 1 uN (spF K 0 pB))(D_is_past:Def P w K mg base "is_past" 1 yD (spF K 0 pG))(D_due:Def P w K mg base "due" 5 sA (spF K 0 lQ))(D_behind:Def P w K mg base "behind" 5 vB (spF K 0 kZ)):FnOk P w K mg base CX0 6 f fd xU (spF K 2 qO):=by
 have nd:=Aub.nd
 exact fD F Aub rfl (by decide) fun cdv A outer s H E P0 hr=>by
  have hu:=fF hr
  have hv:=eX hr
  exact(bF (bW (i:=2) 0 .s nd rfl (by first | exact aT rfl | exact aY rfl) (gQ (aH (aU hv (aC 0) aM (fun _ _=>rfl)) (aH (cH D_once (hr.mono (by decide)) rfl (aH (aU hv (aC 0) aM (fun _ _=>rfl)) aR)) aR))))
   (bF (bW (i:=3) 1 .s nd rfl (by first | exact aT rfl | exact aY rfl) (jP aR))
   (bF (bW (i:=4) 0 .s nd rfl (by first | exact aT rfl | exact aY rfl) (cH D_due (hr.mono (by decide)) rfl (aH (aC 2) (aH (aC 1) aR))))
   (bF (Pz .a 200 iZ (lL (IU (dN FR GI (aC 4) mZ (cK _)) (IU (dN (nE hu) nD (aU hv (aC 4) aM (fun _ _=>rfl)) eY (cK _)) (NK (kW (iS (cH D_is_past (hr.mono (by decide)) rfl (aH (aC 2) (aH (aC 3) (aH (aC 4) (aH (aC 1) aR))))))))))) (bF (qU 3 .s (aC 4))
   (bF (bW (i:=2) 0 .s nd rfl (by first | exact aT rfl | exact aY rfl) (cH D_behind (hr.mono (by decide)) rfl (aH (aC 2) (aH (aC 4) (aH (aC 1) aR)))))
   (bO (bW (i:=4) 0 .s nd rfl (by first | exact aT rfl | exact aY rfl) (cH D_due (hr.mono (by decide)) rfl (aH (aC 2) (aH (aC 1) aR))))))))
   (bF (fE .s (dN IV FZ (aC 4) mZ (cK _)) (bO (MM .s .s 3 eY (aC 2))) fJ)
   (bF (fE .s (dN (eU hu) eT (aU hv (aC 4) aM (fun _ _=>rfl)) eY (cK _)) (bO (MM .s .s 3 eY (aC 2))) fJ)
   (bO (Nc .s .s .a eY (aC 2) (TB (aC 3) (fK (n:=1) (jP (aH (aC 4) aR))))))))))))
noncomputable def Jw:SF:=(aS (bB 3 1 .s (cU aI))
 (aS (gG .s (iIt (eOp gIx (aB 0) (eC (.int 1)))) (gNm 4) (sIf .a (bOf (eOp (gIn true) (aB 4) (aB 3))) (dD 3 .s (aB 4)) bY))
 (cV 3 (aS (bB 5 0 .s (cF (aF (eOp gIx (aB 0) (eC (.int 0))) (aF (aQ dB (aF (aB 3) aI)) aI))))
 (aS (bB 6 0 .s (eC (.int 0)))
 (aS (gG .s (iIt (aB 2)) (gNm 7) (aS (sIf .s (bOr (cQ (bOf (eUn (cT "tuple") (aB 7)))) (bOf (eOp gNe (aQ lQ (aF (aB 5) (aF (aB 1) aI))) (aB 7)))) (bK 1 .s (eC .none)) bY)
 (aS (sIf .s (bOf (eOp gEq (eOp gIx (aB 7) (eC (.int 0))) (eC (.str "put")))) (aS (sIf .s (bOf (aQ tD (aF (aB 5) (aF (aB 7) (aF (aB 1) (aF (aB 6) aI)))))) (bK 1 .s (eC .none)) bY)
 (bB 6 0 .s (eOp bQ (aB 6) (eC (.int 1))))) bY)
 (bB 5 0 .s (aQ kZ (aF (aB 5) (aF (aB 7) (aF (aB 1) aI))))))))
 (bK 1 .s (cU (aF (aB 5) (aF (aB 6) aI))))))))))
noncomputable def zL:List aA->Option aA:=fnD 3 8 Jw
theorem Ko (F:Fun K "_law_walked" "_law_walked" IE f fd)(B:Blt mg)(C:Cst mg)(Z:Gds P w K mg)(D__law_beyond:Def P w K mg base "_law_beyond" 1 vW (spF K 0 tD))(D_due:Def P w K mg base "due" 5 sA (spF K 0 lQ))(D_behind:Def P w K mg base "behind" 5 vB (spF K 0 kZ)):FnOk P w K mg base CX0 6 f fd zH (spF K 1 zL):=by
 have nd:=Ai8.nd
 exact fD F Ai8 rfl (by decide) fun cdv A outer s H E P0 hr=>by
  have hu:=fF hr
  have hv:=eX hr
  exact(bF (bW (i:=3) 1 .s nd rfl (by first | exact aT rfl | exact aY rfl) (jP aR))
   (bF (oZ iZ rfl (iR (aU hv (aC 0) aM (fun _ _=>rfl))) (mL (i:=4) nd rfl (by first | exact aT rfl | exact aY rfl)) (bO (fE .a (dN (CH hu) xN (aC 4) (aC 3) (by with_unfolding_all rfl)) (bO (qU 3 .s (aC 4))) fJ)))
   (jS 3 (bF (bW (i:=5) 0 .s nd rfl (by first | exact aT rfl | exact aY rfl) (gQ (aH (aU hv (aC 0) aM (fun _ _=>rfl)) (aH (kI oJ oI rfl B.tuple lB (aH (aC 3) aR)) aR))))
   (bF (bW (i:=6) 0 .s nd rfl (by first | exact aT rfl | exact aY rfl) aM)
   (bF (oZ iZ rfl (iR (aC 2)) (mL (i:=7) nd rfl (by first | exact aT rfl | exact aY rfl)) (bF (fE .s (lL (kB (kW (iS (mJ (T:="tuple") rfl B.isinstance rfl B.tuple lB (by decide) (aC 7)))) (nF (dN (nE hu) nD (cH D_due (hr.mono (by decide)) rfl (aH (aC 5) (aH (aC 1) aR))) (aC 7) (cK _))))) (bO (cX .s NZ)) fJ)
   (bF (fE .s (dN (eU hu) eT (aU hv (aC 7) aM (fun _ _=>rfl)) eY (cK _)) (bF (fE .s (iS (cH D__law_beyond (hr.mono (by decide)) rfl (aH (aC 5) (aH (aC 7) (aH (aC 1) (aH (aC 6) aR)))))) (bO (cX .s NZ)) fJ)
   (bO (bW (i:=6) 0 .s nd rfl (by first | exact aT rfl | exact aY rfl) (fN (aC 6) aM)))) fJ)
   (bO (bW (i:=5) 0 .s nd rfl (by first | exact aT rfl | exact aY rfl) (cH D_behind (hr.mono (by decide)) rfl (aH (aC 5) (aH (aC 7) (aH (aC 1) aR)))))))))
   (bO (cX .s (jP (aH (aC 5) (aH (aC 6) aR)))))))))))
noncomputable def Jg:SF:=(aS (bB 5 0 .s (aQ lQ (aF (aB 1) (aF (aB 2) aI))))
 (aS (bB 6 0 .s (cN (eOp gGt (aQ bH (aF (aB 3) aI)) (eC (.int 0))) (eOp gEq (eOp gIx (eOp gIx (aB 3) (eOp dE (aQ bH (aF (aB 3) aI)) (eC (.int 1)))) (eC (.int 0))) (eC (.str "clash")))))
 (aS (sIf .s (bOf (eOp gEq (aB 0) (eC (.str "clash")))) (bK 0 .s (aB 6)) bY)
 (aS (sIf .s (bOf (eOp gEq (aB 0) (eC (.str "still")))) (bK 0 .s (eOp uG (aB 5) (eC .none))) bY)
 (bK 0 .s (cN (eOp gEq (aB 0) (eC (.str "past"))) (cN (eOp oC (aB 5) (eC .none)) (cN (eOp gEq (eOp gIx (aB 5) (eC (.int 0))) (eC (.str "put"))) (aQ tD (aF (aB 1) (aF (aB 5) (aF (aB 2) (aF (aB 4) aI)))))))))))))
noncomputable def yT:List aA->Option aA:=fnD 5 7 Jg
theorem Js (F:Fun K "_law_ended" "_law_ended" IA f fd)(B:Blt mg)(C:Cst mg)(Z:Gds P w K mg)(D__law_beyond:Def P w K mg base "_law_beyond" 1 vW (spF K 0 tD))(D_due:Def P w K mg base "due" 5 sA (spF K 0 lQ)):FnOk P w K mg base CX0 6 f fd yX (spF K 0 yT):=by
 have nd:=Aj3.nd
 exact fD F Aj3 rfl (by decide) fun cdv A outer s H E P0 hr=>by
  have hu:=fF hr
  have hv:=eX hr
  exact(bF (bW (i:=5) 0 .s nd rfl (by first | exact aT rfl | exact aY rfl) (cH D_due (hr.mono (by decide)) rfl (aH (aC 1) (aH (aC 2) aR))))
   (bF (bW (i:=6) 0 .s nd rfl (by first | exact aT rfl | exact aY rfl) (lV (hE DH BA (eZ fO fP rfl B.len fU (aH (aC 3) aR)) aM (cK _)) (mK (hE (eU hu) eT (aU hv (aU hv (aC 3) (uQ (eZ fO fP rfl B.len fU (aH (aC 3) aR)) aM) (fun _ _=>rfl)) aM (fun _ _=>rfl)) eY (cK _)))))
   (bF (fE .s (dN (eU hu) eT (aC 0) eY (cK _)) (bO (cX .s (aC 6))) fJ)
   (bF (fE .s (dN (eU hu) eT (aC 0) eY (cK _)) (bO (cX .s (hE IV FZ (aC 5) mZ (cK _)))) fJ)
   (bO (cX .s (lV (hE (eU hu) eT (aC 0) eY (cK _)) (lV (hE FR GI (aC 5) mZ (cK _)) (lV (hE (eU hu) eT (aU hv (aC 5) aM (fun _ _=>rfl)) eY (cK _)) (mK (cH D__law_beyond (hr.mono (by decide)) rfl (aH (aC 1) (aH (aC 5) (aH (aC 2) (aH (aC 4) aR)))))))))))))))
noncomputable def Ir:SF:=(aS (sIf .s (bOr (cQ (bOf (eUn (cT "tuple") (aB 0)))) (bOr (bOf (eOp gNe (aQ bH (aF (aB 0) aI)) (eC (.int 3)))) (cQ (bOf (eUn (cT "list") (eOp gIx (aB 0) (eC (.int 2)))))))) (bK 0 .s (eC (.bool false))) bY)
 (aS (bB 3 0 .s (eOp gIx (aB 0) (eC (.int 2))))
 (aS (bB 4 0 .s (aQ zL (aF (aB 1) (aF (aB 2) (aF (aB 3) aI)))))
 (aS (sIf .s (bOr (bOf (eOp uG (aB 4) (eC .none))) (bOr (cQ (bOf (eUn (cT "str") (eOp gIx (aB 0) (eC (.int 0)))))) (cQ (bOf (eUn (cT "tuple") (eOp gIx (aB 0) (eC (.int 1)))))))) (bK 0 .s (eC (.bool false))) bY)
 (aS (gG .s (iIt (pM (aB 3) oN (oS (eUn AU (eC (.int 1)))))) (gNm 5) (sIf .s (bOf (eOp gEq (eOp gIx (aB 5) (eC (.int 0))) (eC (.str "clash")))) (bK 0 .s (eC (.bool false))) bY))
 (bK 0 .s (cN (eOp gEq (eOp gIx (aB 0) (eC (.int 1))) (eOp gIx (aB 4) (eC (.int 0)))) (aQ yT (aF (eOp gIx (aB 0) (eC (.int 0))) (aF (eOp gIx (aB 4) (eC (.int 0))) (aF (aB 2) (aF (aB 3) (aF (eOp gIx (aB 4) (eC (.int 1))) aI)))))))))))))
noncomputable def vN:List aA->Option aA:=fnD 3 6 Ir
theorem Jy (F:Fun K "_law_right" "_law_right" ID f fd)(B:Blt mg)(C:Cst mg)(Z:Gds P w K mg)(D__law_walked:Def P w K mg base "_law_walked" 6 zH (spF K 1 zL))(D__law_ended:Def P w K mg base "_law_ended" 6 yX (spF K 0 yT)):FnOk P w K mg base CX0 7 f fd yU (spF K 0 vN):=by
 have nd:=Aj4.nd
 exact fD F Aj4 rfl (by decide) fun cdv A outer s H E P0 hr=>by
  have hu:=fF hr
  have hv:=eX hr
  exact(bF (fE .s (lL (kB (kW (iS (mJ (T:="tuple") rfl B.isinstance rfl B.tuple lB (by decide) (aC 0)))) (kB (dN (nE hu) nD (eZ fO fP rfl B.len fU (aH (aC 0) aR)) aM (cK _)) (nF (kW (iS (mJ (T:="list") rfl B.isinstance rfl B.list VA (by decide) (aU hv (aC 0) aM (fun _ _=>rfl))))))))) (bO (cX .s lP)) fJ)
   (bF (bW (i:=3) 0 .s nd rfl (by first | exact aT rfl | exact aY rfl) (aU hv (aC 0) aM (fun _ _=>rfl)))
   (bF (bW (i:=4) 0 .s nd rfl (by first | exact aT rfl | exact aY rfl) (fK (n:=1) (cH D__law_walked (hr.mono (by decide)) rfl (aH (aC 1) (aH (aC 2) (aH (aC 3) aR))))))
   (bF (fE .s (lL (kB (dN IV FZ (aC 4) mZ (cK _)) (kB (kW (iS (mJ (T:="str") rfl B.isinstance rfl B.str DR (by decide) (aU hv (aC 0) aM (fun _ _=>rfl))))) (nF (kW (iS (mJ (T:="tuple") rfl B.isinstance rfl B.tuple lB (by decide) (aU hv (aC 0) aM (fun _ _=>rfl))))))))) (bO (cX .s lP)) fJ)
   (bF (oZ iZ rfl (iR (fK (n:=1) (BC (aC 3) sQ (sT (Ad aM))))) (mL (i:=5) nd rfl (by first | exact aT rfl | exact aY rfl)) (bO (fE .s (dN (eU hu) eT (aU hv (aC 5) aM (fun _ _=>rfl)) eY (cK _)) (bO (cX .s lP)) fJ)))
   (bO (cX .s (lV (hE (eU hu) eT (aU hv (aC 0) aM (fun _ _=>rfl)) (aU hv (aC 4) aM (fun _ _=>rfl)) (cK _)) (mK (cH D__law_ended (hr.mono (by decide)) rfl (aH (aU hv (aC 0) aM (fun _ _=>rfl)) (aH (aU hv (aC 4) aM (fun _ _=>rfl)) (aH (aC 2) (aH (aC 3) (aH (aU hv (aC 4) aM (fun _ _=>rfl)) aR)))))))))))))))
end Aw
namespace Aw
open PySem L2
set_option maxHeartbeats 4000000
variable {P:cL}{w:cA}{K:aP}{mg:aE->Option aG}{base:bG}{f:aD}{fd:iA}
noncomputable def XX:SF:=(aS (CV .s (aQ vL (aF (aB 0) aI)) (FI 1 2))
 (aS (bB 3 0 .s (cF (aF (aQ vT (aF (aQ iW (aF (aB 0) (aF (eC (.int 6)) aI))) (aF (aB 1) aI))) (aF (aB 1) aI))))
 (aS (bB 4 0 .s (aQ dZ (aF (aB 2) aI)))
 (aS (bB 5 2 .s (aQ qO (aF (aB 3) (aF (aB 4) aI))))
 (aS (sIf .a (bOr (cQ (bOf (aQ vN (aF (aB 5) (aF (aB 3) (aF (aB 2) aI)))))) (bOf (eOp gNe (aB 4) (aB 2)))) (bK 0 .s (eC (.bool false))) bY)
 (aS (bB 6 1 .a (aQ dZ (aF (eOp gIx (aB 5) (eC (.int 2))) aI)))
 (aS (bB 7 0 .s (aQ qO (aF (cF (aF (oK (eOp gIx (aB 3) (eC (.int 0))) oN (oS (eC (.int 1)))) (aF (aB 1) aI))) (aF (aB 2) aI))))
 (aS (sIf .a (bOr (cQ (bOf (aQ vN (aF (aB 7) (aF (cF (aF (oK (eOp gIx (aB 3) (eC (.int 0))) oN (oS (eC (.int 1)))) (aF (aB 1) aI))) (aF (aB 2) aI)))))) (bOf (eOp gNe (eOp gIx (aB 5) (eC (.int 2))) (aB 6)))) (bK 0 .s (eC (.bool false))) bY)
 (aS (CZ 5 .s (eC .none))
 (cV 5 (aS (bB 8 0 .s (aQ qO (aF (aB 3) (aF (aB 4) aI))))
 (bK 0 .a (cN (eOp gEq (aB 8) (cF (aF (eOp gIx (aB 5) (eC (.int 0))) (aF (eOp gIx (aB 5) (eC (.int 1))) (aF (aB 6) aI))))) (eOp gEq (aB 4) (aB 2)))))))))))))))
noncomputable def IR:List aA->Option aA:=fnD 1 9 XX
theorem Aj (F:Fun K "law" "law" sF f fd)(B:Blt mg)(C:Cst mg)(Z:Gds P w K mg)(D__law_cell:Def P w K mg base "_law_cell" 1 vV (spF K 0 iW))(D__law_head:Def P w K mg base "_law_head" 1 yQ (spF K 0 vT))(D__law_set:Def P w K mg base "_law_set" 3 yS (spF K 1 vL))(D_chase:Def P w K mg base "chase" 6 xU (spF K 2 qO))(D__law_right:Def P w K mg base "_law_right" 7 yU (spF K 0 vN)):FnOk P w K mg base CX0 8 f fd LR (spF K 0 IR):=by
 have nd:=A5o.nd
 exact fD F A5o rfl (by decide) fun cdv A outer s H E P0 hr=>by
  have hu:=fF hr
  have hv:=eX hr
  exact(bF (Cn .s (fK (n:=1) (cH D__law_set (hr.mono (by decide)) rfl (aH (aC 0) aR))) (Rh (i:=1) (j:=2) rfl nd rfl rfl (by first | exact aT rfl | exact aY rfl) (by first | exact aT rfl | exact aY rfl)))
   (bF (bW (i:=3) 0 .s nd rfl (by first | exact aT rfl | exact aY rfl) (gQ (aH (cH D__law_head (hr.mono (by decide)) rfl (aH (cH D__law_cell (hr.mono (by decide)) rfl (aH (aC 0) (aH aM aR))) (aH (aC 1) aR))) (aH (aC 1) aR))))
   (bF (bW (i:=4) 0 .s nd rfl (by first | exact aT rfl | exact aY rfl) (fK (n:=1) (kI (SG rfl) RH rfl B.list VA (aH (aC 2) aR))))
   (bF (bW (i:=5) 2 .s nd rfl (by first | exact aT rfl | exact aY rfl) (cH D_chase (hr.mono (by decide)) rfl (aH (aC 3) (aH (aC 4) aR))))
   (bF (fE .a (lL (kB (kW (iS (cH D__law_right (hr.mono (by decide)) rfl (aH (aC 5) (aH (aC 3) (aH (aC 2) aR)))))) (nF (dN (nE hu) nD (aC 4) (aC 2) (cK _))))) (bO (cX .s lP)) fJ)
   (bF (bW (i:=6) 1 .a nd rfl (by first | exact aT rfl | exact aY rfl) (kI (SG rfl) RH rfl B.list VA (aH (aU hv (aC 5) aM (fun _ _=>rfl)) aR)))
   (bF (bW (i:=7) 0 .s nd rfl (by first | exact aT rfl | exact aY rfl) (fK (n:=2) (cH D_chase (hr.mono (by decide)) rfl (aH (gQ (aH (FD (aU hv (aC 3) aM (fun _ _=>rfl)) sQ (sT aM)) (aH (aC 1) aR))) (aH (aC 2) aR)))))
   (bF (fE .a (lL (kB (kW (iS (cH D__law_right (hr.mono (by decide)) rfl (aH (aC 7) (aH (gQ (aH (FD (aU hv (aC 3) aM (fun _ _=>rfl)) sQ (sT aM)) (aH (aC 1) aR))) (aH (aC 2) aR)))))) (nF (dN (nE hu) nD (aU hv (aC 5) aM (fun _ _=>rfl)) (aC 6) (cK _))))) (bO (cX .s lP)) fJ)
   (bF (Ml 5 .s mZ)
   (jS 5 (bF (bW (i:=8) 0 .s nd rfl (by first | exact aT rfl | exact aY rfl) (fK (n:=2) (cH D_chase (hr.mono (by decide)) rfl (aH (aC 3) (aH (aC 4) aR)))))
   (bO (cX .a (lV (hE (eU hu) eT (aC 8) (gQ (aH (aU hv (aC 5) aM (fun _ _=>rfl)) (aH (aU hv (aC 5) aM (fun _ _=>rfl)) (aH (aC 6) aR)))) (cK _)) (mK (hE (eU hu) eT (aC 4) (aC 2) (cK _)))))))))))))))))
end Aw
namespace L2
open PySem PySem.Spec PyProof.Rows
theorem Rk {F:SF}{T:aA->bD->Option bD}(P:Nat->bD->Prop){ds:List aA}{ρ:bD}(h0:P 0 ρ)
  (step : ∀ i d ρ,ds[i]?=some d->P i ρ -> ∃ ρ1 ρ2,T d ρ=some ρ1/\(F ρ1=some (.nx ρ2) \/ F ρ1=some (.ct ρ2))/\P (i+1) ρ2) : ∃ ρ',kR F T ds ρ=some (.nx ρ')/\P ds.length ρ':=by
 have go : ∀ (rest:List aA) (i:Nat) (ρ:bD),ds.drop i=rest->i+rest.length=ds.length->P i ρ -> ∃ ρ',kR F T rest ρ=some (.nx ρ')/\P ds.length ρ':=by
  intro rest
  induction rest with
  | nil=>
   intro i ρ _ hl p
   simp at hl
   subst hl
   exact⟨ρ,rfl,p⟩
  | cons d r ih=>
   intro i ρ hd hl p
   have hi:ds[i]?=some d:=by
    have:=congrArg (·[0]?) hd
    simpa using this
   obtain⟨ρ1,ρ2,e1,e2,p2⟩:=step i d ρ hi p
   have hd2:ds.drop (i+1)=r:=by
    have:=congrArg List.tail hd
    simpa using this
   obtain⟨ρ',e3,p3⟩:=ih (i+1) ρ2 hd2 (by simp at hl; omega) p2
   refine⟨ρ',?_,p3⟩
   show((T d ρ).bind fun ρ1=>(F ρ1).bind fun o=>match o with
    | .nx ρ'=>kR F T r ρ'
    | .ct ρ'=>kR F T r ρ'
    | .bk ρ'=>some (.nx ρ')
    | .rt d=>some (.rt d))=some (.nx ρ')
   rw[e1]
   rcases e2 with e2 | e2
   ·simp only[cM,e2]; exact e3
   ·simp only[cM,e2]; exact e3
 exact go ds 0 ρ (by simp) (by simp) h0
theorem MR {T:aA->List (Option aA)->Option (List (Option aA))}{t:BF}{f:EF}{ρ:List (Option aA)}(R:aA->aA->Prop) : ∀ (ds:List aA),(∀ d∈ds,∃ ρ1 y,T d ρ=some ρ1/\t ρ1=some true/\f ρ1=some y/\R d y) ->
  ∃ ys,lcD T t f ρ ds=some ys/\gV R ds ys
 | [],_=>⟨[],rfl,.nil⟩
 | d::r,h=>by
  obtain⟨ρ1,y,e1,e2,e3,hr⟩:=h d dF
  obtain⟨ys,e4,hp⟩:=MR R r fun d' m=>h d' (eR _ m)
  refine⟨y::ys,?_,.cons hr hp⟩
  show((T d ρ).bind fun ρ1=>(t ρ1).bind fun c=>if c=true then(f ρ1).bind fun y=>(lcD T t f ρ r).bind fun ys=>some (y::ys) else lcD T t f ρ r)=some (y::ys)
  simp[e1,e2,e3,e4]
theorem NI {T:aA->List (Option aA)->Option (List (Option aA))}{t:BF}{f:EF}{ρ:List (Option aA)}(g:aA->aA) : ∀ (ds:List aA),(∀ d∈ds,∃ ρ1,T d ρ=some ρ1/\t ρ1=some true/\f ρ1=some (g d))->lcD T t f ρ ds=some (ds.map g)
 | [],_=>rfl
 | d::r,h=>by
  obtain⟨ρ1,e1,e2,e3⟩:=h d dF
  have e4:=NI g r fun d' m=>h d' (eR _ m)
  show((T d ρ).bind fun ρ1=>(t ρ1).bind fun c=>if c=true then(f ρ1).bind fun y=>(lcD T t f ρ r).bind fun ys=>some (y::ys) else lcD T t f ρ r)=some (g d::r.map g)
  simp[e1,e2,e3,e4]
theorem Paired.mem_right {α β:Type}{R:α->β->Prop} : ∀ {as:List α} {bs:List β},gV R as bs -> ∀ b∈bs,∃ a∈as,R a b:=by
 intro as bs h
 induction h with
 | nil=>exact fun b m=>by simp at m
 | cons h _ ih=>
  intro b m
  rcases fG.mp m with rfl | m
  ·exact⟨_,dF,h⟩
  ·obtain⟨a,ha,hr⟩:=ih b m
   exact⟨a,eR _ ha,hr⟩
theorem ZE {F G:SF}{ρ ρ':bD}(h:F ρ=some (.nx ρ')):aS F G ρ=G ρ':=by
 unfold aS
 rw[h]
 rfl
theorem Cr {F G:SF}{ρ:bD}{d:aA}(h:F ρ=some (.rt d)):aS F G ρ=some (.rt d):=by
 unfold aS
 rw[h]
 rfl
theorem NJ {m:Md}{fi:AF}{T:aA->bD->Option bD}{F:SF}{ρ:bD}{ds:List aA}{o:Out}(h:aV m fi ρ=some ds)(h2:kR F T ds ρ=some o):gG m fi T F ρ=some o:=by
 unfold gG
 rw[h]
 exact h2
theorem MF {np n:Nat}{body:SF}{ds:List aA}{d:aA}(hl:ds.length=np)(h:body (ds.map (fun d=>some (0,d))++fR (n - np) none)=some (.rt d)):fnD np n body ds=some d:=by
 unfold fnD
 rw[if_pos hl,h]
 rfl
theorem Ft {α β:Type}{R:α->β->Prop}{as:List α}{bs:List β}(h:gV R as bs):bs.length=as.length:=(pT h).symm
theorem TK {β:Type}{g:β->aA}{R:β->Prop} : ∀ (ys:List aA),(∀ y∈ys,∃ c,y=g c/\R c) -> ∃ cs:List β,ys=cs.map g /\ ∀ c∈cs,R c
 | [],_=>⟨[],rfl,fun _ m=>by simp at m⟩
 | y::r,h=>by
  obtain⟨c,e,hc⟩:=h y dF
  obtain⟨cs,e2,h2⟩:=TK r fun z m=>h z (eR _ m)
  refine⟨c::cs,by rw[e,e2]; rfl,fun x m=>?_⟩
  rcases fG.mp m with rfl | m
  ·exact hc
  ·exact h2 x m
theorem jT {n:Nat}(h:n≤100000):n≤sizeLine:=jW h (by decide)
theorem BI {n:Nat}(h:n≤100000):n<sizeLine:=Nat.lt_of_le_of_lt h (by decide)
noncomputable def letter (c:Nat):Bool:=decide (97≤c)&&decide (c≤122)
noncomputable def figure (c:Nat):Bool:=decide (48≤c)&&decide (c≤57)
noncomputable def xR (c:Nat):Bool:=letter c||figure c
theorem Dl {c:Nat}(h:xR c=true):c<128:=by
 simp[xR,letter,figure] at h
 omega
def XB (cs:List Nat):Prop:=∃ c r,cs=c::r/\letter c=true/\(∀ x∈cs,xR x=true)/\cs.length≤12
def nameS (z:aE):Prop:=XB z.cps.toList
theorem Aq {z:aE}(h : ∀ c∈z.cps.toList,xR c=true):fA (.str z)=true:=by
 have:z.cps.all (fun x=>decide (x<1114112))=true:=by
  rw[Array.all_eq_true']
  intro x hx
  have:=Dl (h x (by simpa using hx))
  simp; omega
 simpa [fA,JR] using this
theorem eF (a:Int){b:Int}(h:0<b):0≤a%b/\a%b<b:=⟨Int.emod_nonneg _ (by omega),Int.emod_lt_of_pos _ h⟩
def Goes (F:SF)(ρ:bD)(P:Out->Prop):Prop:=∃ o,F ρ=some o/\P o
variable {F G:SF}{ρ:bD}{P:Out->Prop}{m:Md}
theorem Goes.mono {P':Out->Prop}(h:Goes F ρ P)(k : ∀ o,P o->P' o):Goes F ρ P':=by
 obtain⟨o,e,p⟩:=h
 exact⟨o,e,k o p⟩
theorem cW {ρ':bD}(h:F ρ=some (.nx ρ'))(k:Goes G ρ' P):Goes (aS F G) ρ P:=by
 obtain⟨o,e,p⟩:=k
 exact⟨o,by rw[ZE h]; exact e,p⟩
theorem hG (I:bD->Prop)(h:Goes F ρ fun o=>∃ ρ',o = .nx ρ'/\I ρ')(k : ∀ ρ',I ρ'->Goes G ρ' P):Goes (aS F G) ρ P:=by
 obtain⟨o,e,ρ',rfl,i⟩:=h
 exact cW e (k ρ' i)
theorem UD {d:aA}(h:F ρ=some (.rt d))(k:P (.rt d)):Goes (aS F G) ρ P:=⟨_,Cr h,k⟩
theorem LX {t:BF}{b:Bool}(h:bV m t ρ=some b)(k:Goes (if b=true then F else G) ρ P):Goes (sIf m t F G) ρ P:=by
 obtain⟨o,e,p⟩:=k
 refine⟨o,?_,p⟩
 show((bV m t ρ).bind fun b=>if b=true then F ρ else G ρ)=some o
 rw[h]
 cases b
 ·exact e
 ·exact e
theorem gH {t:BF}(h:bV m t ρ=some true)(k:Goes F ρ P):Goes (sIf m t F G) ρ P:=LX h k
theorem lT {t:BF}(h:bV m t ρ=some false)(k:Goes G ρ P):Goes (sIf m t F G) ρ P:=LX h k
theorem pD (k:P (.nx ρ)):Goes bY ρ P:=⟨_,rfl,k⟩
theorem gZ {t:BF}(h:bV m t ρ=some false):sIf m t F bY ρ=some (.nx ρ):=by
 unfold sIf
 rw[h]
 rfl
theorem kY (h:Goes F ρ fun o=>∃ d,o = .rt d/\P o):Goes (aS F G) ρ P:=by
 obtain⟨o,e,d,rfl,p⟩:=h
 exact UD e p
theorem Nt {n:Nat}{f:EF}{d:aA}(h:f (vA ρ)=some d)(hf:cS n d=true)(k:P (.rt d)):Goes (bK n .a f) ρ P:=⟨_,by
 unfold bK eV
 simp only[h,cM,hf,LB,if_true],k⟩
theorem dH {n:Nat}{f:EF}{d:aA}(h:f (vS ρ)=some d)(k:P (.rt d)):Goes (bK n .s f) ρ P:=⟨_,by
 unfold bK eV
 simp only[h,cM],k⟩
theorem TR {i n:Nat}{f:EF}{d:aA}(h:eV n m f ρ=some d)(hl:i<ρ.length)(k:P (.nx (ρ.set i (some (n,d))))):Goes (bB i n m f) ρ P:=
 ⟨_,by unfold bB; rw[h]; simp only[cM,if_pos hl],k⟩
theorem pC {i n:Nat}{f:EF}{d:aA}(h:f (vS ρ)=some d)(hl:i<ρ.length)(k:P (.nx (ρ.set i (some (n,d))))):Goes (bB i n .s f) ρ P:=TR h hl k
theorem jQ {i:Nat}(h:Goes F (frz i ρ) P):Goes (cV i F) ρ P:=h
theorem By {n:Nat}(h:n≤1000000):uE 0 (n:Int)=some ((cE n).map fun(k:Nat)=>bT k):=by
 unfold uE
 rw[if_pos (by omega)]
 simp
theorem oF {fa:AF}{ρ:List (Option aA)}{n:Nat}(h:fa ρ=some [.int n])(hn:n≤1000000):iR1 fa ρ=some ((cE n).map fun(k:Nat)=>bT k):=by
 have e:=By hn
 generalize some ((cE n).map fun(k:Nat)=>bT k)=y at e ⊢
 rw[← e]
 unfold iR1
 rw[h,cM]
theorem avS {fi:AF}{ds:List aA}(h:fi (vS ρ)=some ds):aV .s fi ρ=some ds:=h
theorem xK {fi:AF}{T:aA->bD->Option bD}{ds:List aA}(I:Nat->bD->Prop)(h:aV m fi ρ=some ds)(h0:I 0 ρ)
  (step : ∀ i d ρ,ds[i]?=some d->I i ρ -> ∃ ρ1,T d ρ=some ρ1/\Goes F ρ1 fun o=>∃ ρ2,(o = .nx ρ2 \/ o = .ct ρ2)/\I (i+1) ρ2) (k : ∀ ρ',I ds.length ρ'->P (.nx ρ')):Goes (gG m fi T F) ρ P:=by
 obtain⟨ρ',e,i⟩:=Rk (F:=F) (T:=T) I h0 fun i d ρ hd p=>by
  obtain⟨ρ1,e1,o,e2,ρ2,e3,p2⟩:=step i d ρ hd p
  refine⟨ρ1,ρ2,e1,?_,p2⟩
  rcases e3 with rfl | rfl
  ·exact .inl e2
  ·exact .inr e2
 exact⟨_,NJ h e,k ρ' i⟩
theorem sR {fi:AF}{T:aA->bD->Option bD}{n:Nat}(I:Nat->bD->Prop)(h:aV m fi ρ=some ((cE n).map fun(k:Nat)=>bT k))(h0:I 0 ρ)
  (step : ∀ (i:Nat) ρ,i<n->I i ρ -> ∃ ρ1,T (.int i) ρ=some ρ1/\Goes F ρ1 fun o=>∃ ρ2,(o = .nx ρ2 \/ o = .ct ρ2)/\I (i+1) ρ2) (k : ∀ ρ',I n ρ'->P (.nx ρ')):Goes (gG m fi T F) ρ P:=by
 refine xK I h h0 (fun i d ρ hd p=>?_) (by simpa using k)
 have hlt:i<n:=by
  have:=(gE.mp hd).1
  simpa using this
 rw[gN,wL hlt] at hd
 have:bT (i:Int)=d:=by simpa using hd
 subst this
 exact step i ρ hlt p
theorem iH {np n:Nat}{body:SF}{ds:List aA}{Q:aA->Prop}(hl:ds.length=np)(h:Goes body (ds.map (fun d=>some (0,d))++fR (n - np) none) fun o=>∃ d,o = .rt d/\Q d) : ∃ d,fnD np n body ds=some d/\Q d:=by
 obtain⟨o,e,d,rfl,q⟩:=h
 exact⟨d,MF hl e,q⟩
theorem YV {cap:List (Option Nat)}{fi:AF}{T:aA->List (Option aA)->Option (List (Option aA))}{t:BF}{f:EF}{ρ:List (Option aA)}{ds:List aA}(R:aA->aA->Prop)(h1:fi ρ=some ds)(h2:ds.length≤100000)
  (h : ∀ d∈ds,∃ ρ1 y,T d (jM cap ρ)=some ρ1/\t ρ1=some true/\f ρ1=some y/\R d y) : ∃ ys,eLC cap fi T t f ρ=some (.list ys)/\gV R ds ys:=by
 obtain⟨ys,e,hp⟩:=MR R ds h
 refine⟨ys,?_,hp⟩
 unfold eLC
 rw[h1,cM,e,cM,if_pos (jT h2)]
theorem As {cap:List (Option Nat)}{fi:AF}{T:aA->List (Option aA)->Option (List (Option aA))}{t:BF}{f:EF}{ρ:List (Option aA)}{ds:List aA}(g:aA->aA)(h1:fi ρ=some ds)(h2:ds.length≤100000)
  (h : ∀ d∈ds,∃ ρ1,T d (jM cap ρ)=some ρ1/\t ρ1=some true/\f ρ1=some (g d)):eLC cap fi T t f ρ=some (.list (ds.map g)):=by
 unfold eLC
 rw[h1,cM,NI g ds h,cM,if_pos (jT h2)]
theorem Ce {cap:List (Option Nat)}{fi:AF}{T:aA->List (Option aA)->Option (List (Option aA))}{t:BF}{f:EF}{ρ:List (Option aA)}{n:Nat}{β:Type}(g:β->aA)(R:β->Prop)(h1:fi ρ=some ((cE n).map fun(k:Nat)=>bT k))(h2:n≤100000)
  (h : ∀ k<n,∃ ρ1 y,T (.int (k:Nat)) (jM cap ρ)=some ρ1/\t ρ1=some true/\f ρ1=some (g y)/\R y) : ∃ ys:List β,eLC cap fi T t f ρ=some (.list (ys.map g))/\ys.length=n /\ ∀ y∈ys,R y:=by
 obtain⟨ys,e,hp⟩:=YV (cap:=cap) (T:=T) (t:=t) (f:=f) (fun _ y=>∃ x,y=g x/\R x) h1 (by simpa using h2) fun d m=>by
  obtain⟨k,hk,rfl⟩:=dP.mp m
  obtain⟨ρ1,y,a1,a2,a3,a4⟩:=h k (by simpa using hk)
  exact⟨ρ1,g y,a1,a2,a3,y,rfl,a4⟩
 obtain⟨xs,rfl,hx⟩:=TK (g:=g) (R:=R) ys fun y m=>by
  obtain⟨_,_,x,e,hx⟩:=L2.Paired.mem_right hp y m
  exact⟨x,e,hx⟩
 have:=Ft hp
 exact⟨xs,e,by simpa using this,hx⟩
end L2
namespace L2
open PySem PySem.Spec PyProof.Rows
variable {F G:SF}{ρ:bD}{P:Out->Prop}{m:Md}
theorem BP {f:EF}{ρ:List (Option aA)}{ds:List aA}(h:f ρ=some (.list ds)):iIt f ρ=some ds:=by
 unfold iIt
 rw[h]
 rfl
theorem mM {f:EF}{ρ:List (Option aA)}{ds:List aA}(h:f ρ=some (.tuple ds)):iIt f ρ=some ds:=by
 unfold iIt
 rw[h]
 rfl
theorem bI {fa:AF}{g:List aA->Option aA}{ρ:List (Option aA)}{ds:List aA}{d:aA}(h:fa ρ=some ds)(h2:g ds=some d):aQ g fa ρ=some d:=by
 unfold aQ
 rw[h]
 exact h2
theorem aN {fa fb:EF}{g:aA->aA->Option aA}{ρ:List (Option aA)}{a b d:aA}(h:fa ρ=some a)(h2:fb ρ=some b)(h3:g a b=some d):eOp g fa fb ρ=some d:=by
 unfold eOp
 rw[h,h2]
 exact h3
theorem SZ {ds:List aA}(i:Int)(h:0<ds.length) : ∃ (j:Nat) (d:aA),ds[j]?=some d/\atI ds (i%(ds.length:Int))=some d:=by
 have b:=eF i (show(0:Int)<ds.length by omega)
 obtain⟨j,e⟩:=jL b.1
 have hj:j<ds.length:=by omega
 exact⟨j,ds[j],iO hj,by rw[e]; exact sS (iO hj)⟩
theorem qM {i:Nat}{f:EF}{d:aA}{ds:List aA}(h:f (vS ρ)=some d)(hg:getL i ρ=some ds)(hl:ds.length<100000)(k:P (.nx (ρ.set i (some (1,.list (ds++[d])))))):Goes (dD i .s f) ρ P:=⟨_,by
 unfold dD eV
 simp only[h,cM,hg,if_pos (BI (DX hl))],k⟩
def XA (d:aA):Prop:=(∃ z,d = .str z/\nameS z) \/ ∃ i,d = .int i
theorem OC : ∀ {ts:List aA},(∀ t∈ts,cC t=true)->dC ts=true
 | [],_=>by simp[dC]
 | t::r,h=>by
  simp only[dC,tY]
  exact⟨h t dF,OC fun x m=>h x (eR _ m)⟩
theorem sZ {n:Nat} : ∀ {ts:List aA},(∀ t∈ts,t.depth≤n)->bU ts≤n
 | [],_=>by simp[bU]
 | t::r,h=>by
  simp only[bU]
  exact Nat.max_le.mpr ⟨h t dF,sZ fun x m=>h x (eR _ m)⟩
theorem qX : ∀ {ts:List aA},(∀ t∈ts,noDict t=true)->noDicts ts=true
 | [],_=>by simp[noDicts]
 | t::r,h=>by
  simp only[noDicts,tY]
  exact⟨h t dF,qX fun x m=>h x (eR _ m)⟩
structure Kn (kds:List (aA×aA)):Prop where
 fit : ∀ kd∈kds,(∃ z,kd.1 = .str z)/\XA kd.2
 once:(kds.map (·.1)).Nodup
theorem Kn.int {kds:List (aA×aA)}(h:Kn kds)(i:Int):dG kds (.inl i)=none:=by
 have:(kds.find? fun kd=>decide (cR kd.1=some (.inl i)))=none:=by
  rw[VI]
  intro kd m
  obtain⟨⟨z,e⟩,_⟩:=h.fit kd m
  simp[e,cR]
 unfold dG
 rw[this]
 rfl
theorem MP : ∀ {kss:List (List aA)},(∀ k∈kss,dC k=true/\bU k≤6)->oO (kss.map gU)=some kss
 | [],_=>rfl
 | k::r,h=>by
  show(if dC k=true/\bU k≤6 then(oO (r.map gU)).bind fun kss=>some (k::kss) else none)=_
  rw[if_pos (h k dF),MP fun x m=>h x (eR _ m)]
  rfl
theorem Lp {kss:List (List aA)}(h : ∀ k∈kss,dC k=true/\bU k≤6)(hl:kss.length≤100000):IM [.tuple (kss.map gU)]=some (.tuple ((qH kss).map gU)):=by
 show((oO (kss.map gU)).bind fun kss'=>if (kss.map gU).length<sizeLine then some (gU ((qH kss').map gU)) else none)=_
 rw[MP h,cM,if_pos (BI (by simpa using hl))]
end L2
namespace L2
open PySem PySem.Spec PyProof.Rows
variable {F G:SF}{ρ:bD}{P:Out->Prop}{m:Md}
theorem UE {α β:Type}{fi:AF}{T:aA->bD->Option bD}{xs:List α}{q:α->aA}(g:β->α->β)(I:Nat->β->bD->Prop){b0:β}(h:aV m fi ρ=some (xs.map q))(h0:I 0 b0 ρ)
  (step : ∀ i x b ρ,xs[i]?=some x->I i b ρ -> ∃ ρ1,T (q x) ρ=some ρ1/\Goes F ρ1 fun o=>∃ ρ2,(o = .nx ρ2 \/ o = .ct ρ2)/\I (i+1) (g b x) ρ2) (k : ∀ ρ',I xs.length (xs.foldl g b0) ρ'->P (.nx ρ')):Goes (gG m fi T F) ρ P:=by
 refine xK (fun i ρ=>I i ((xs.take i).foldl g b0) ρ) h h0 (fun i d ρ hd p=>?_) (fun ρ' p=>k ρ' (by simpa using p))
 rw[gN] at hd
 obtain⟨x,hx,rfl⟩:=pU.mp hd
 obtain⟨ρ1,e1,g1⟩:=step i x _ ρ hx p
 refine⟨ρ1,e1,g1.mono fun o ⟨ρ2,e,q⟩=>⟨ρ2,e,?_⟩⟩
 have:xs.take (i+1)=xs.take i++[x]:=by rw[EA,hx]; rfl
 rw[this,KG]
 exact q
noncomputable def aft (F:SF)(T:aA->bD->Option bD)(ds:List aA):Out->Option Out
 | .nx ρ=>kR F T ds ρ
 | .ct ρ=>kR F T ds ρ
 | .bk ρ=>some (.nx ρ)
 | .rt d=>some (.rt d)
theorem PC {T:aA->List (Option aA)->Option (List (Option aA))}{t:BF}{f:EF}{ρ:List (Option aA)}{α:Type}{q:α->aA}(p:α->Bool)(g:α->aA) : ∀ (xs:List α),
  (∀ x∈xs,∃ ρ1,T (q x) ρ=some ρ1/\t ρ1=some (p x)/\(p x=true->f ρ1=some (g x)))->lcD T t f ρ (xs.map q)=some ((xs.filter p).map g)
 | [],_=>rfl
 | x::xs,h=>by
  obtain⟨ρ1,e1,e2,e3⟩:=h x dF
  have ih:=PC p g xs fun y m=>h y (eR _ m)
  show((T (q x) ρ).bind fun ρ1=>(t ρ1).bind fun c=>if c=true then(f ρ1).bind fun y=>(lcD T t f ρ (xs.map q)).bind fun ys=>some (y::ys) else lcD T t f ρ (xs.map q))=_
  rw[e1,cM,e2,cM,ih]
  cases hp:p x with
  | true=>rw[if_pos rfl,e3 hp,List.filter_cons_of_pos hp]; rfl
  | false=>rw[if_neg (by simp),List.filter_cons_of_neg (by simp[hp])]
theorem lW {cap:List (Option Nat)}{fi:AF}{T:aA->List (Option aA)->Option (List (Option aA))}{t:BF}{f:EF}{ρ:List (Option aA)}{α:Type}{xs:List α}{q:α->aA}(p:α->Bool)(g:α->aA)(h1:fi ρ=some (xs.map q))(h2:xs.length≤100000)
  (h : ∀ x∈xs,∃ ρ1,T (q x) (jM cap ρ)=some ρ1/\t ρ1=some (p x)/\(p x=true->f ρ1=some (g x))):eLC cap fi T t f ρ=some (.list ((xs.filter p).map g)):=by
 unfold eLC
 rw[h1,cM,PC p g xs h,cM,if_pos (jT (by simpa using h2))]
theorem fM {i n:Nat}{f:EF}{d:aA}(h:eV n m f ρ=some d)(hl:i<ρ.length):bB i n m f ρ=some (.nx (ρ.set i (some (n,d)))):=by
 obtain⟨o,e,q⟩:=TR (P:=fun o=>o = .nx (ρ.set i (some (n,d)))) h hl rfl
 rw[e,q]
theorem eJ {i n:Nat}{f:EF}{d:aA}(h:f (vS ρ)=some d)(hl:i<ρ.length)(k:Goes G (ρ.set i (some (n,d))) P):Goes (aS (bB i n .s f) G) ρ P:=cW (fM h hl) k
theorem sH {fa:EF}{g:aA->Option aA}{ρ:List (Option aA)}{a d:aA}(h:fa ρ=some a)(h3:g a=some d):eUn g fa ρ=some d:=by
 unfold eUn
 rw[h]
 exact h3
theorem aW {f:EF}{g:AF}{ρ:List (Option aA)}{d:aA}{ds:List aA}(h:f ρ=some d)(h2:g ρ=some ds):aF f g ρ=some (d::ds):=by
 unfold aF
 rw[h,h2]
 rfl
end L2
namespace L2
noncomputable def fT {α:Type}[DecidableEq α](acc:List α)(z:α):List α:=if z∈acc then acc else acc++[z]
noncomputable def dJ {α:Type}[DecidableEq α](zs:List α):List α:=zs.foldl fT []
section
variable {α:Type}[DecidableEq α]
theorem Pm {acc:List α}{z x:α}:x∈fT acc z↔x∈acc \/ x=z:=by
 unfold fT
 split
 ·rename_i h
  exact⟨.inl,fun q=>q.elim id fun e=>e ▸ h⟩
 ·simp
theorem GS {x:α} : ∀ (zs acc:List α),x∈zs.foldl fT acc↔x∈acc \/ x∈zs
 | [],acc=>by simp
 | z::zs,acc=>by
  rw[pX,GS zs,Pm]
  simp only[fG]
  constructor
  ·rintro((h | h) | h)
   ·exact .inl h
   ·exact .inr (.inl h)
   ·exact .inr (.inr h)
  ·rintro(h | h | h)
   ·exact .inl (.inl h)
   ·exact .inl (.inr h)
   ·exact .inr h
theorem Ad6 {x:α}{zs:List α}:x∈dJ zs↔x∈zs:=by
 unfold dJ
 rw[GS]
 simp
theorem Qn (acc:List α)(z:α):(fT acc z).length≤acc.length+1:=by
 unfold fT
 split <;> simp
theorem oH : ∀ (zs acc:List α),(zs.foldl fT acc).length≤acc.length+zs.length
 | [],acc=>by simp
 | z::zs,acc=>by
  have h1:=oH zs (fT acc z)
  have h2:=Qn acc z
  rw[pX,mF]
  omega
end
open PySem PySem.Spec PyProof.Rows
variable {R:aA->Prop}{kds:List (aA×aA)}
theorem AZ {ds:List aA}{f:EF}{lo hi:OF}{ρ:List (Option aA)}{l u:Option Int}(e1:f ρ=some (.list ds))(e2:lo ρ=some l)(e3:hi ρ=some u):pM f lo hi ρ=some (.list (cutD ds l u)):=by
 unfold pM
 rw[e1,cM,e2,cM,e3,cM]
theorem Nv {fd fk fx:EF}{ρ:List (Option aA)}{kds:List (aA×aA)}{kd x:aA}{key:aK}(h1:fd ρ=some (.dict kds))(h2:fk ρ=some kd)(ha:cR kd=some key)(h3:fx ρ=some x)(hp:plK kds=true:=by first | assumption | rfl | simp):dU fd fk fx ρ=some ((dG kds key).getD x):=by
 unfold dU
 rw[h1,cM,h2,cM,h3,cM]
 show(if plK kds=true then(cR kd).bind fun k=>some ((dG kds k).getD x) else none)=_
 rw[if_pos hp,ha]
 rfl
end L2
namespace L2
open PySem PySem.SetTable
noncomputable def lp (mask:Nat)(s:Nat×Nat):Nat->Nat×Nat
 | 0=>s
 | m+1=>leap mask (lp mask s m).1 (lp mask s m).2
open PySem PySem.Spec PyProof.Rows PySem.SetTable
noncomputable instance memK (k:aK)(acc:List aK):Decidable (k∈acc):=decidable_of_iff (acc.any (fun x=>decide (x=k))=true) (by simp[pY])
end L2
namespace Aw
open PySem L2
noncomputable abbrev s0 (d:aA):L2.Slot:=some (0,d)
noncomputable abbrev lI (ms:List Int):aA:=.list (ms.map bT)
theorem Bg:("abcdefghijklmnopqrstuvwxyz" : aE).length=26:=by decide +kernel
theorem qN (a b:Int):gEq (.int a) (.int b)=some (.bool (decide (a=b))):=by
 show some (fV (bJ (.int a) (.int b)))=_
 congr 2
theorem nH {α:Type}{q:α->aA}{xs:List α}{j:Nat}{x:α}(h:xs[j]?=some x):gIx (.list (xs.map q)) (.int j)=some (q x):=sS (by rw[gN,h]; rfl)
noncomputable abbrev tK (ks:List aK):aA:=.tuple (ks.map kD)
theorem Mh (k:aK):cT "str" (kD k)=some (.bool (match k with | .inr _=>true | .inl _=>false)):=by
 cases k <;> simp[cT,dM,isK,kD]
theorem ne_int (a b:Int):gNe (.int a) (.int b)=some (.bool (decide (a≠b))):=by
 have:bJ (.int a) (.int b)=decide (a=b):=by
  rw[show bJ (.int a) (.int b)=(a == b) by simp[bJ],kQ]
  simp
 simp[gNe,bN,noDict,cP,this]
theorem xW (ds:List aA):bH [.tuple ds]=some (.int ds.length):=by simp[bH]
theorem cZ {f:EF}{ρ:List (Option aA)}{b:Bool}(h:f ρ=some (.bool b)):bOf f ρ=some b:=by
 unfold bOf
 rw[h]
 rfl
theorem Aa {ks:List aK}{j:Nat}{k:aK}(h:ks[j]?=some k):gIx (tK ks) (.int j)=some (kD k):=sS (by rw[gN,h]; rfl)
theorem sW (a b:aK):bJ (kD a) (kD b)=decide (a=b):=by
 cases a with
 | inl i=>cases b with
  | inl j=>
   rw[show bJ (kD (.inl i)) (kD (.inl j))=(i == j) by simp[kD,bJ],kQ]
   simp
  | inr y=>simp[kD,bJ]
 | inr x=>cases b with
  | inl j=>simp[kD,bJ]
  | inr y=>
   rw[show bJ (kD (.inr x)) (kD (.inr y))=(x == y) by simp[kD,bJ],kQ]
   simp
theorem Ls (a b:aK):gEq (kD a) (kD b)=some (.bool (decide (a=b))):=by
 have h1 : ∀ k:aK,bN (kD k)=true:=fun k=>by cases k <;> rfl
 unfold gEq
 rw[h1 a,h1 b,sW]
 rfl
noncomputable def isS:aK->Bool
 | .inr _=>true
 | .inl _=>false
def A8q (I:bD->Prop)(t:Option aA)(o:Out):Prop:=match t with
 | some r=>o = .rt r
 | none=>∃ ρ2,o = .nx ρ2/\I ρ2
def EX (I:bD->Prop)(t:Option aA)(o:Out):Prop:=match t with
 | some r=>o = .rt r
 | none=>∃ ρ2,(o = .nx ρ2 \/ o = .ct ρ2)/\I ρ2
theorem A8q.turn {I J:bD->Prop}{t:Option aA}{o:Out}(h:A8q I t o)(hij : ∀ ρ,I ρ->J ρ):EX J t o:=by
 cases t with
 | some r=>exact h
 | none=>
  obtain⟨ρ2,e,i⟩:=h
  exact⟨ρ2,.inl e,hij _ i⟩
theorem TV {F:SF}{T:aA->bD->Option bD}{α:Type}{q:α->aA}(I:bD->Prop)(g:α->Option aA) : ∀ {xs:List α} {ρ:bD},I ρ ->
  (∀ x∈xs,∀ ρ,I ρ -> ∃ ρ1,T (q x) ρ=some ρ1/\Goes F ρ1 (EX I (g x))) -> ∃ o,kR F T (xs.map q) ρ=some o/\A8q I (xs.findSome? g) o
 | [],ρ,h0,_=>⟨_,rfl,ρ,rfl,h0⟩
 | x::xs,ρ,h0,step=>by
  obtain⟨ρ1,e1,o,e2,h⟩:=step x dF ρ h0
  have e:kR F T ((x::xs).map q) ρ=aft F T (xs.map q) o:=by
   show((T (q x) ρ).bind fun ρ1=>(F ρ1).bind fun o=>_)=_
   rw[e1,cM,e2,cM]
   cases o <;> rfl
  rw[e,List.findSome?_cons]
  cases hg:g x with
  | some r=>
   rw[hg] at h
   have h:o = .rt r:=h
   subst h
   exact⟨_,rfl,rfl⟩
  | none=>
   rw[hg] at h
   obtain⟨ρ2,ho,i2⟩:=h
   obtain⟨o',e',h'⟩:=TV I g i2 fun y m=>step y (eR _ m)
   rcases ho with rfl | rfl
   ·exact⟨o',e',h'⟩
   ·exact⟨o',e',h'⟩
theorem xV {m:Md}{ρ:bD}{F:SF}{α:Type}{fi:AF}{T:aA->bD->Option bD}{xs:List α}{q:α->aA}(I:bD->Prop)(g:α->Option aA)(h:aV m fi ρ=some (xs.map q))(h0:I ρ)
  (step : ∀ x∈xs,∀ ρ,I ρ -> ∃ ρ1,T (q x) ρ=some ρ1/\Goes F ρ1 (EX I (g x))):Goes (gG m fi T F) ρ (A8q I (xs.findSome? g)):=by
 obtain⟨o,e,h'⟩:=TV I g h0 step
 exact⟨o,NJ h e,h'⟩
theorem FQ {F G:SF}{ρ:bD}{P:Out->Prop}(I:bD->Prop)(t:Option aA)(h:Goes F ρ (A8q I t))(k1 : ∀ r,t=some r->P (.rt r))(k2:t=none -> ∀ ρ',I ρ'->Goes G ρ' P):Goes (aS F G) ρ P:=by
 obtain⟨o,e,h⟩:=h
 cases t with
 | some r=>
  have h:o = .rt r:=h
  subst h
  exact UD e (k1 r rfl)
 | none=>
  obtain⟨ρ2,rfl,i2⟩:=h
  exact cW e (k2 rfl ρ2 i2)
noncomputable def qK (lo n:Nat):List Nat:=(cE (n - lo)).map (lo + ·)
theorem Ar5 {lo n j:Nat}:j∈qK lo n↔lo≤j/\j<n:=by
 unfold qK
 rw[dP]
 constructor
 ·rintro⟨k,mk,rfl⟩
  have:=jA.mp mk
  omega
 ·rintro⟨h1,h2⟩
  exact⟨j - lo,jA.mpr (by omega),by omega⟩
theorem TQ {fa:AF}{ρ:List (Option aA)}{lo n:Nat}(h:fa ρ=some [.int lo,.int n])(hl:lo≤1000000)(hn:n≤1000000):iR2 fa ρ=some ((qK lo n).map fun(k:Nat)=>bT k):=by
 unfold iR2
 rw[h,cM]
 show uE (lo:Int) (n:Int)=_
 unfold uE
 have e62:(2:Int) ^ 62=4611686018427387904:=by decide
 rw[e62,if_pos (by omega),show((n:Int) - (lo:Int)).toNat=n - lo by omega]
 unfold qK
 rw[kO]
 congr 1
theorem RI {α:Type}(q:α->aA)(d0:α)(xs:List α):(xs.map q).mapIdx lJ=(cE xs.length).map fun k=>lJ k (q (xs.getD k d0)):=by
 apply List.ext_getElem
 ·simp
 ·intro i h1 h2
  have hi:i<xs.length:=by simpa using h1
  simp[hi]
theorem FO {α:Type}{f:EF}{ρ:List (Option aA)}(q:α->aA)(d0:α){xs:List α}(h:f ρ=some (.tuple (xs.map q))):iEn (aF f aI) ρ=some ((cE xs.length).map fun k=>lJ k (q (xs.getD k d0))):=by
 unfold iEn
 rw[aW (g:=aI) h rfl,← RI]
 rfl
theorem NO {α:Type}{f:EF}{ρ:List (Option aA)}(q:α->aA)(d0:α){xs:List α}(h:f ρ=some (.list (xs.map q))):iEn (aF f aI) ρ=some ((cE xs.length).map fun k=>lJ k (q (xs.getD k d0))):=by
 unfold iEn
 rw[aW (g:=aI) h rfl,← RI]
 rfl
theorem getD_some {α:Type}{xs:List α}{i:Nat}(d0:α)(h:i<xs.length):xs[i]?=some (xs.getD i d0):=by
 rw[Sv,iO h]
 rfl
theorem getD_mem {α:Type}{xs:List α}{i:Nat}(d0:α)(h:i<xs.length):xs.getD i d0∈xs:=mU (getD_some d0 h)
theorem kX {a b:EF}{ρ:List (Option aA)}{x y:Bool}(h:a ρ=some (.bool x))(h2:x=true->b ρ=some (.bool y)):cN a b ρ=some (.bool (x&&y)):=by
 unfold cN
 cases x with
 | true=>rw[h,cM,show asB (.bool true)=some true from rfl,cM,if_pos rfl,h2 rfl]; rfl
 | false=>rw[h,cM,show asB (.bool false)=some false from rfl,cM,if_neg (by simp)]; rfl
theorem Mc {a:EF}{ρ:List (Option aA)}{x:Bool}(h:a ρ=some (.bool x)):dS a ρ=some (.bool (!x)):=by
 unfold dS
 rw[h]
 rfl
theorem jF {fa:AF}{ρ:List (Option aA)}{ds:List aA}(h:fa ρ=some ds)(hl:ds.length≤1000:=by simp):cF fa ρ=some (.tuple ds):=by
 unfold cF
 rw[h,cM,if_pos (jT (by omega))]
theorem sN {fa:AF}{ρ:List (Option aA)}{ds:List aA}(h:fa ρ=some ds)(hl:ds.length≤1000:=by simp):cU fa ρ=some (.list ds):=by
 unfold cU
 rw[h,cM,if_pos (jT (by omega))]
abbrev Ln:=aE×List aK
noncomputable def aX (l:Ln):aA:=.tuple [.str l.1,.tuple (l.2.map kD)]
noncomputable abbrev lnD:Ln:=("",[])
noncomputable abbrev tN (cs:List Nat):aA:=.tuple (cs.map fun(c:Nat)=>bT c)
noncomputable def pick (ks:List aK)(cs:List Nat):List aK:=cs.map fun c=>ks.getD c (.inl 0)
inductive Rl where
 | key (t:aE) (c:List Nat)
 | pts (t:aE) (c:List Nat) (o:aE) (d:List Nat) (w:Nat)
noncomputable def bR:Rl->aA
 | .key t c=>.tuple [.str "key",.str t,tN c]
 | .pts t c o d w=>.tuple [.str "points",.str t,tN c,.str o,tN d,.int w]
def iC (wd:aE->Nat)(l:Ln):Prop:=l.2.length=wd l.1
def oE (wd:aE->Nat):Rl->Prop
 | .key t c=>∀ x∈c,x<wd t
 | .pts t c o d _=>(∀ x∈c,x<wd t) /\ ∀ x∈d,x<wd o
theorem iD (a b:aE):gEq (.str a) (.str b)=some (.bool (decide (a=b))):=(Ls (.inr a) (.inr b)).trans (by simp)
theorem uV (a b:aE):gNe (.str a) (.str b)=some (.bool (decide (a≠b))):=by
 have h2:=sW (.inr a) (.inr b)
 unfold gNe
 rw[show bN (.str a)=true from rfl,show bN (.str b)=true from rfl]
 show some (fV (!bJ (kD (.inr a)) (kD (.inr b))))=_
 rw[h2]
 simp
theorem Lk (a b:aK):gNe (kD a) (kD b)=some (.bool (decide (a≠b))):=by
 have h1 : ∀ k:aK,bN (kD k)=true:=fun k=>by cases k <;> rfl
 unfold gNe
 rw[h1 a,h1 b]
 show some (fV (!bJ (kD a) (kD b)))=_
 rw[sW]
 simp
theorem yZ : ∀ (xs ys:List aK),fQ (xs.map kD) (ys.map kD)=decide (xs=ys)
 | [],[]=>by simp[fQ]
 | [],y::ys=>by simp[fQ]
 | x::xs,[]=>by simp[fQ]
 | x::xs,y::ys=>by
  rw[fS,fS]
  simp only[fQ,sW,yZ xs ys]
  rw[kQ]
  simp
theorem HP (xs:List aK):noDicts (xs.map kD)=true:=qX fun t m=>by
 obtain⟨x,_,rfl⟩:=dP.mp m
 cases x <;> rfl
theorem yK (xs:List aK):bU (xs.map kD)≤1:=sZ fun t m=>by
 obtain⟨x,_,rfl⟩:=dP.mp m
 cases x <;> simp[kD,cP]
theorem MU (xs:List aK):bN (tK xs)=true:=by
 have:=yK xs
 simp[bN,noDict,HP,cP]
 omega
theorem LV (xs ys:List aK):gEq (tK xs) (tK ys)=some (.bool (decide (xs=ys))):=by
 unfold gEq
 rw[MU,MU,nZ,if_pos rfl]
 have:bJ (tK xs) (tK ys)=fQ (xs.map kD) (ys.map kD):=by simp only[bJ]
 rw[this,yZ]
end Aw
namespace L2
open PySem PySem.Spec PyProof.Rows
section
variable {K:aP}{H0 H B0:Hp}{P0:aD->Prop}{ρ:bD}{σ:St}{fp:Nat->List aD}{i j:Nat}
def AL (σ:St)(H:Hp)(i j:Nat)(k:aK):Prop:=∃ p ep xs q,σ[i]?=some (some (.ref p))/\H p=some (.dK ep xs)/\gX xs k=some (.ref q)/\σ[j]?=some (some (.ref q))
theorem AL.set {k:aK}{l:Nat}{v:V}(h:AL σ H i j k)(hi:l≠i)(hj:l≠j):AL (σ.set l (some v)) H i j k:=by
 obtain⟨p,ep,xs,q,h1,h2,h3,h4⟩:=h
 exact⟨p,ep,xs,q,by rw[nY hi]; exact h1,h2,h3,by rw[nY hj]; exact h4⟩
end
end L2
namespace Aw
open PySem L2
theorem Mt {a b:Int}(h:jC a+jC b≤134217728):mY (.int a) (.int b)=some (.int (a*b)):=by
 show(if (a.natAbs<2 ^ 64 \/ b.natAbs<2 ^ 64) \/ jC a+jC b≤134217728 then some (bT (a*b)) else none)=_
 rw[if_pos (.inr h)]
theorem Ob {v:Int}{n:Nat}(h:jC v≤n):v.natAbs<2 ^ n:=by
 unfold jC at h
 by_cases q:v=0
 ·subst q
  exact Nat.two_pow_pos n
 ·have q' : ¬ ((v == 0)=true):=by simpa using q
  rw[if_neg q'] at h
  exact(Nat.log2_lt (by omega)).mp (by omega)
theorem Re {n0 v:Int}{n:Nat}(hn:64≤n)(h0:n0.natAbs<2 ^ 64)(hv:jC v≤n):jC (n0+v*48271)≤n+20:=by
 apply bits_le
 have h1:=Ob hv
 have h2:(2:Nat) ^ 64≤2 ^ n:=Nat.pow_le_pow_right (by decide) hn
 have h3:(n0+v*48271).natAbs≤n0.natAbs+v.natAbs*48271:=by
  refine jW (Int.natAbs_add_le _ _) ?_
  rw[Int.natAbs_mul]
  exact dA _
 rw[Nat.pow_add]
 generalize(2:Nat) ^ n=P at *
 have:(2:Nat) ^ 20=1048576:=by decide
 rw[this]
 generalize(2:Nat) ^ 64=P2 at *
 omega
theorem uW {a b:BF}{ρ:List (Option aA)}{x y:Bool}(h:a ρ=some x)(h2:x=true->b ρ=some y):dI a b ρ=some (x&&y):=by
 unfold dI
 rw[h]
 cases x with
 | true=>exact h2 rfl
 | false=>rfl
theorem jE {a b:BF}{ρ:List (Option aA)}{x y:Bool}(h:a ρ=some x)(h2:x=false->b ρ=some y):bOr a b ρ=some (x||y):=by
 unfold bOr
 rw[h]
 cases x with
 | true=>rfl
 | false=>exact h2 rfl
theorem jH {f:EF}{ρ:List (Option aA)}{x:Bool}(h:f ρ=some (.bool x)):cQ (bOf f) ρ=some (!x):=by
 unfold cQ
 rw[cZ h]
 rfl
theorem ZI {ds:List aA}{f:EF}{lo hi:OF}{ρ:List (Option aA)}{l u:Option Int}(e1:f ρ=some (.tuple ds))(e2:lo ρ=some l)(e3:hi ρ=some u):oK f lo hi ρ=some (.tuple (cutD ds l u)):=by
 unfold oK
 rw[e1,cM,e2,cM,e3,cM]
theorem Co {ρ ρ':bD}{P:Out->Prop}{G:SF}{f:EF}{T:aA->bD->Option bD}{d:aA}(h:f (vS ρ)=some d)(hT:T d ρ=some ρ')(k:Goes G ρ' P):Goes (aS (CV .s f T) G) ρ P:=cW (by
 have e:eV 0 .s f ρ=some d:=h
 unfold CV
 rw[e,cM,hT]
 rfl) k
theorem PU {α β:Type}(f:α->β) : ∀ (xs:List α) (n:Nat),(xs.map f).eraseIdx n=(xs.eraseIdx n).map f
 | [],n=>by simp
 | x::xs,0=>rfl
 | x::xs,n+1=>by
  rw[fS,Sw,Sw,fS,PU f xs n]
theorem evA {n:Nat}{f:EF}{ρ:bD}{d:aA}(h:f (vA ρ)=some d)(hf:cS n d=true):eV n .a f ρ=some d:=by
 show((f (vA ρ)).bind fun d=>if (cS n d||(AR ρ&&decide (n<9)&&jN n d))=true then some d else none)=_
 rw[h,cM,hf,LB,if_pos rfl]
theorem uO {ks:List aK}{c:Nat}(h:c<ks.length):gIx (tK ks) (.int c)=some (kD (ks.getD c (.inl 0))):=Aa (getD_some _ h)
theorem picks {ks:List aK}{cs:List Nat}(h : ∀ c∈cs,c<ks.length){fi:AF}{ρ:List (Option aA)}(hi:fi ρ=some (cs.map fun(c:Nat)=>bT c))(hc:jM [none,some 0] ρ=[none,some (tK ks)])(hn:cs.length≤1000) :
  eLC [none,some 0] fi (gB 0) cJ (eOp gIx (aB 1) (aB 0)) ρ=some (.list ((pick ks cs).map kD)):=by
 have:=lW (cap:=[none,some 0]) (fi:=fi) (T:=gB 0) (t:=cJ) (f:=eOp gIx (aB 1) (aB 0)) (ρ:=ρ) (xs:=cs) (q:=fun(c:Nat)=>bT c) (fun _=>true) (fun c=>kD (ks.getD c (.inl 0))) hi (by omega) (fun c m=>⟨[some (.int c),some (tK ks)],by rw[hc]; rfl,rfl,fun _=>aN (a:=tK ks) (b:=.int c) rfl rfl (uO (h c m))⟩)
 rw[this,tV.mpr (by simp)]
 unfold pick
 rw[kO]
 rfl
theorem yF {ks:List aK}{cs:List Nat}(h : ∀ c∈cs,c<ks.length)(hn:cs.length≤1000):lZ [tK ks,tN cs]=some (tK (pick ks cs)):=by
 have : ∃ d,lZ [tK ks,tN cs]=some d/\d=tK (pick ks cs):=by
  refine iH rfl (dH (d:=tK (pick ks cs)) (bI (aW (picks h (mM rfl) rfl hn) rfl) rfl) ⟨_,rfl,rfl⟩)
 obtain⟨d,e,rfl⟩:=this
 exact e
noncomputable def unl (a b:List aK):List Nat:=(cE a.length).filter fun i=>decide (a.getD i (.inl 0)≠b.getD i (.inl 0))
noncomputable abbrev lN (cs:List Nat):aA:=.list (cs.map fun(c:Nat)=>bT c)
theorem PL {l l':Ln}(h:l.2.length=l'.2.length)(hn:l.2.length≤1000):qS [aX l,aX l']=some (lN (unl l.2 l'.2)):=by
 have : ∃ d,qS [aX l,aX l']=some d/\d=lN (unl l.2 l'.2):=by
  refine iH rfl (dH (d:=lN (unl l.2 l'.2)) ?_ ⟨_,rfl,rfl⟩)
  refine lW (xs:=cE l.2.length) (q:=fun k=>lJ k (kD (l.2.getD k (.inl 0)))) (fun i=>decide (l.2.getD i (.inl 0)≠l'.2.getD i (.inl 0))) (fun(i:Nat)=>bT i) (FO kD (.inl 0) (aN (a:=aX l) (b:=.int 1) rfl rfl rfl)) (by simp; omega) fun k mk=>?_
  have hk:k<l.2.length:=jA.mp mk
  refine⟨[some (.int k),some (kD (l.2.getD k (.inl 0))),some (aX l')],rfl,cZ (aN (a:=kD (l.2.getD k (.inl 0))) (b:=kD (l'.2.getD k (.inl 0))) rfl (aN (a:=tK l'.2) (b:=.int k) (aN (a:=aX l') (b:=.int 1) rfl rfl rfl) rfl (uO (by omega))) (Lk _ _)),fun _=>rfl⟩
 obtain⟨d,e,rfl⟩:=this
 exact e
noncomputable def mI (a b:aK):aE:=if isS a||isS b then "same" else "clash"
theorem Nh (a b:aK):vE [kD a,kD b]=some (.str (mI a b)):=by
 have : ∃ d,vE [kD a,kD b]=some d/\d = .str (mI a b):=by
  refine iH rfl (dH (d:=.str (mI a b)) ?_ ⟨_,rfl,rfl⟩)
  cases a <;> cases b <;> rfl
 obtain⟨d,e,rfl⟩:=this
 exact e
noncomputable abbrev lsD (ls:List Ln):aA:=.tuple (ls.map aX)
theorem pF {ls:List Ln}{i:Nat}(h:i<ls.length):gIx (lsD ls) (.int i)=some (aX (ls.getD i lnD)):=sS (by rw[gN,getD_some lnD h]; rfl)
noncomputable def stepK (ls:List Ln)(n i j c:Nat):aA:=.tuple [.str (mI ((ls.getD i lnD).2.getD c (.inl 0)) ((ls.getD j lnD).2.getD c (.inl 0))),.int n,.int i,.int j,.int c]
theorem MW {ls:List Ln}{n i j c:Nat}(hi:i<ls.length)(hj:j<ls.length)(h1:c<(ls.getD i lnD).2.length)(h2:c<(ls.getD j lnD).2.length):qW [lsD ls,.int n,.int i,.int j,.int c]=some (stepK ls n i j c):=by
 have : ∃ d,qW [lsD ls,.int n,.int i,.int j,.int c]=some d/\d=stepK ls n i j c:=by
  refine iH rfl (dH (d:=stepK ls n i j c) ?_ ⟨_,rfl,rfl⟩)
  have e1:=bI (fa:=aF (eOp gIx (eOp gIx (eOp gIx (aB 0) (aB 2)) (eC (.int 1))) (aB 4)) (aF (eOp gIx (eOp gIx (eOp gIx (aB 0) (aB 3)) (eC (.int 1))) (aB 4)) aI)) (ρ:=vS (List.map (fun d=>some (0,d)) [lsD ls,.int n,.int i,.int j,.int c]++fR (5 - 5) none))
   (aW (aN (a:=tK (ls.getD i lnD).2) (b:=.int c) (aN (a:=aX (ls.getD i lnD)) (b:=.int 1) (aN (a:=lsD ls) (b:=.int i) rfl rfl (pF hi)) rfl rfl) rfl (uO h1)) (aW (g:=aI) (aN (a:=tK (ls.getD j lnD).2) (b:=.int c) (aN (a:=aX (ls.getD j lnD)) (b:=.int 1) (aN (a:=lsD ls) (b:=.int j) rfl rfl (pF hj)) rfl rfl) rfl (uO h2)) rfl)) (Nh _ _)
  unfold cF
  rw[aW e1 (aW (d:=.int n) rfl (aW (d:=.int i) rfl (aW (d:=.int j) rfl (aW (d:=.int c) (g:=aI) rfl rfl))))]
  rfl
 obtain⟨d,e,rfl⟩:=this
 exact e
noncomputable def iP (t:aE)(c:List Nat)(l l':Ln):Bool:=decide (l.1=t)&&decide (l'.1=t)&&decide (pick l.2 c=pick l'.2 c)
theorem MX {wd:aE->Nat}{t:aE}{c:List Nat}{l l':Ln}(hr:oE wd (.key t c))(h:iC wd l)(h':iC wd l')(hc:c.length≤1000):pA [bR (.key t c),aX l,aX l']=some (.bool (iP t c l l')):=by
 have : ∃ d,pA [bR (.key t c),aX l,aX l']=some d/\d = .bool (iP t c l l'):=by
  refine iH rfl ?_
  let S:bD:=[s0 (bR (.key t c)),s0 (aX l),s0 (aX l')]
  have e1:eOp gNe (eOp gIx (aB 1) (eC (.int 0))) (eOp gIx (aB 0) (eC (.int 1))) (vS S)=some (.bool (decide (l.1≠t))):=aN (a:=.str l.1) (b:=.str t) rfl rfl (uV _ _)
  have e2:eOp gNe (eOp gIx (aB 2) (eC (.int 0))) (eOp gIx (aB 0) (eC (.int 1))) (vS S)=some (.bool (decide (l'.1≠t))):=aN (a:=.str l'.1) (b:=.str t) rfl rfl (uV _ _)
  have tb:bV .s (bOr (bOf (eOp gNe (eOp gIx (aB 1) (eC (.int 0))) (eOp gIx (aB 0) (eC (.int 1))))) (bOf (eOp gNe (eOp gIx (aB 2) (eC (.int 0))) (eOp gIx (aB 0) (eC (.int 1)))))) S=some (decide (l.1≠t)||decide (l'.1≠t)):=by
   simp only[bV,bOr,bOf,e1,e2,cM,asB]
   cases decide (l.1≠t) <;> rfl
  by_cases q1:l.1=t
  ·by_cases q2:l'.1=t
   ·refine cW (gZ (tb.trans (by simp[q1,q2]))) (dH (d:=.bool (iP t c l l')) ?_ ⟨_,rfl,rfl⟩)
    have k1:=yF (ks:=l.2) (cs:=c) (fun x m=>by rw[show l.2.length=wd l.1 from h,q1]; exact hr x m) hc
    have k2:=yF (ks:=l'.2) (cs:=c) (fun x m=>by rw[show l'.2.length=wd l'.1 from h',q2]; exact hr x m) hc
    refine aN (a:=tK (pick l.2 c)) (b:=tK (pick l'.2 c)) (bI (ds:=[tK l.2,tN c]) rfl k1) (bI (ds:=[tK l'.2,tN c]) rfl k2) ?_
    rw[LV]
    simp[iP,q1,q2]
   ·exact kY (gH (tb.trans (by simp[q2])) (dH (d:=.bool false) rfl ⟨_,rfl,_,rfl,by simp[iP,q2]⟩))
  ·exact kY (gH (tb.trans (by simp[q1])) (dH (d:=.bool false) rfl ⟨_,rfl,_,rfl,by simp[iP,q1]⟩))
 obtain⟨d,e,rfl⟩:=this
 exact e
theorem FA {a b:List aK}{c:Nat}(h:c∈unl a b):c<a.length:=by
 unfold unl at h
 exact jA.mp (pV.mp h).1
theorem BR {wd:aE->Nat}{t:aE}{c:List Nat}{l l':Ln}(h:iC wd l)(h':iC wd l')(hm:iP t c l l'=true):l.2.length=l'.2.length:=by
 unfold iP at hm
 simp only[tY,decide_eq_true_eq] at hm
 have e1:l.2.length=wd l.1:=h
 have e2:l'.2.length=wd l'.1:=h'
 rw[e1,e2,hm.1.1,hm.1.2]
theorem TM (cs:List Nat):bH [lN cs]=some (.int cs.length):=by simp[bH]
noncomputable abbrev rsD (rs:List Rl):aA:=.list (rs.map bR)
noncomputable abbrev rlD:Rl:=.key "" []
def rlC:Rl->Prop
 | .key _ c=>c.length≤1000
 | .pts _ c _ d _=>c.length≤1000/\d.length≤1000
theorem iV {np n:Nat}{body:SF}{ds:List aA}{d:aA}(hl:ds.length=np)(h:Goes body (ds.map (fun d=>some (0,d))++fR (n - np) none) fun o=>o = .rt d):fnD np n body ds=some d:=by
 obtain⟨o,e,rfl⟩:=h
 exact MF hl e
theorem OW {α:Type}(f:α->Bool) : ∀ xs:List α,mX (xs.map fun x=>.bool (f x))=some (xs.map f)
 | []=>rfl
 | x::xs=>by
  show((mX (xs.map fun x=>.bool (f x))).bind fun bs=>some (f x::bs))=_
  rw[OW f xs]
  rfl
theorem Bl {α:Type}(f:α->Bool)(xs:List α):AQ [.list (xs.map fun x=>.bool (f x))]=some (.bool (xs.all f)):=by
 show((mX (xs.map fun x=>.bool (f x))).bind fun bs=>some (fV (bs.all id)))=_
 rw[OW,cM,AD]
 rfl
theorem Be (ds:List aA)(k:Nat):cutD ds (some (k:Int)) none=ds.drop k:=by
 unfold cutD
 rw[HT.Avm,HT.Ayp]
 by_cases h:k≤ds.length
 ·rw[JU h,DZ (by simp)]
 ·rw[VC (by omega),List.drop_of_length_le (by omega),List.drop_of_length_le (by omega)]
  simp
theorem YY (ds:List aA)(k:Nat):cutD ds none (some (k:Int))=ds.take k:=by
 unfold cutD
 rw[HT.Avm,HT.Ayp]
 by_cases h:k≤ds.length
 ·simp[JU h]
 ·rw[VC (by omega)]
  simp
  rw[DZ (by omega)]
theorem IJ {f:EF}{ρ:List (Option aA)}{i:Int}(h:f ρ=some (.int i)):oS f ρ=some (some i):=by
 unfold oS
 rw[h]
 rfl
theorem Nu {xs ys:List aA}(h:xs.length+ys.length≤100000):xD (.tuple xs) (.tuple ys)=some (.tuple (xs++ys)):=by
 show(if xs.length+ys.length≤sizeLine then some (gU (xs++ys)) else none)=_
 rw[if_pos (jT h)]
theorem Oc {xs ys:List aA}(h:xs.length+ys.length≤100000):uF (.list xs) (.list ys)=some (.list (xs++ys)):=by
 show(if xs.length+ys.length≤sizeLine then some (lE (xs++ys)) else none)=_
 rw[if_pos (jT h)]
theorem uJ {m:Md}{t:BF}{F G:SF}{ρ:bD}{P:Out->Prop}{b:Bool}(h:bV m t ρ=some b)(h1:b=true->Goes F ρ fun o=>∃ d,o = .rt d/\P o)(h2:b=false->Goes G ρ P):Goes (aS (sIf m t F bY) G) ρ P:=by
 cases b with
 | true=>exact kY (gH h (h1 rfl))
 | false=>exact cW (gZ h) (h2 rfl)
theorem jG {f g:EF}{ρ:List (Option aA)}{a b:Int}(h:f ρ=some (.int a))(h2:g ρ=some (.int b))(hb:0<b):eOp bM f g ρ=some (.int (a%b)):=by
 refine aN h h2 ?_
 simp[bM,g2C,hb]
theorem Bf {f:EF}{ρ:List (Option aA)}{w:Nat}(h:f ρ=some (.int w))(j:Nat):bOf (eOp gEq f (eC (.int j))) ρ=some (decide (w=j)):=by
 refine cZ (aN (b:=.int j) h rfl ?_)
 rw[qN]
 congr 2
 rw[decide_eq_decide]
 omega
noncomputable def nB (w:aE):Option Nat:=if w = "clash" then some 5 else if w = "same" then some 5 else if w = "put" then some 3 else none
theorem RC (w:aE):dG (gKD mO) (.inr w)=(nB w).map fun(n:Nat)=>bT n:=by
 have c : ∀ y:aE,decide (cR (kD (.inr y))=some (.inr w))=decide (w=y):=fun y=>by
  rw[decide_eq_decide]
  show some (iX y:aK)=some (iX w)↔w=y
  exact⟨fun q=>(JP (gW q)).symm,fun q=>by rw[q]⟩
 show((([(kD (.inr "clash"),bT 5),(kD (.inr "same"),.int 5),(kD (.inr "put"),.int 3)]:List (aA×aA)).find? fun kd=>decide (cR kd.1=some (.inr w))).map (·.2))=_
 unfold nB
 rw[jX,c "clash"]
 by_cases h1:w = "clash"
 ·rw[decide_eq_true h1,if_pos h1]; rfl
 ·rw[decide_eq_false h1,if_neg h1]
  show((([(kD (.inr "same"),bT 5),(kD (.inr "put"),.int 3)]:List (aA×aA)).find? fun kd=>decide (cR kd.1=some (.inr w))).map (·.2))=_
  rw[jX,c "same"]
  by_cases h2:w = "same"
  ·rw[decide_eq_true h2,if_pos h2]; rfl
  ·rw[decide_eq_false h2,if_neg h2]
   show((([(kD (.inr "put"),bT 3)]:List (aA×aA)).find? fun kd=>decide (cR kd.1=some (.inr w))).map (·.2))=_
   rw[jX,c "put"]
   by_cases h3:w = "put"
   ·rw[decide_eq_true h3,if_pos h3]; rfl
   ·rw[decide_eq_false h3,if_neg h3]; rfl
noncomputable def uT:aA->Bool
 | .int i=>decide (0≤i)
 | _=>false
theorem Rm (d:aA){ρ:List (Option aA)}(h:aB 0 ρ=some d):cN (aQ qY (aF (aB 0) aI)) (eOp gGe (aB 0) (eC (.int 0))) ρ=some (.bool (uT d)):=by
 have hw : ∀ d:aA,qY [d]=some (.bool (match d with | .int _=>true | _=>false)):=fun d=>by cases d <;> rfl
 have e1:=bI (g:=qY) (aW (g:=aI) h rfl) (hw d)
 cases d with
 | int i=>exact kX (x:=true) (y:=decide (0≤i)) e1 fun _=>aN (b:=.int 0) h rfl rfl
 | _=>exact kX (x:=false) (y:=true) e1 fun q=>nomatch q
theorem Nr (w:aE)(xs:List aA):bOr (cQ (bOf (eUn (cT "tuple") (aB 0)))) (bOr (bOf (eOp gEq (aQ bH (aF (aB 0) aI)) (eC (.int 0)))) (cQ (bOf (eUn (cT "str") (eOp gIx (aB 0) (eC (.int 0))))))) (vS [s0 (.tuple (.str w::xs))])=some false:=
 jE (x:=false) (y:=false) (jH (x:=true) rfl) fun _=>jE (x:=false) (y:=false) ((Bf (w:=xs.length+1) (bI (ds:=[.tuple (.str w::xs)]) rfl (xW _)) 0).trans (by simp)) fun _=>jH (x:=true) (sH (a:=.str w) (aN (a:=.tuple (.str w::xs)) (b:=.int 0) rfl rfl (sS (j:=0) rfl)) rfl)
theorem QX (w:aE)(xs:List aA)(hl:xs.length≤100):sY [.tuple (.str w::xs)]=some (.bool (decide (nB w=some (xs.length+1))&&xs.all uT)):=by
 refine iV rfl ?_
 let R:bD:=[s0 (.tuple (.str w::xs))]
 refine cW (gZ (Nr w xs)) ?_
 have i0:eOp gIx (aB 0) (eC (.int 0)) (vS R)=some (.str w):=aN (a:=.tuple (.str w::xs)) (b:=.int 0) rfl rfl (sS (j:=0) rfl)
 have el:aQ bH (aF (aB 0) aI) (vS R)=some (.int (xs.length+1:Nat)):=bI (ds:=[.tuple (.str w::xs)]) rfl (xW _)
 have hin:eOp (gIn true) (eOp gIx (aB 0) (eC (.int 0))) (eC (.dict (gKD mO))) (vS R)=some (.bool (true != (nB w).isSome)):=by
  refine aN (b:=.dict (gKD mO)) i0 rfl ?_
  rw[BQ,if_pos (plG _)]
  show some (fV (true != (dG (gKD mO) (.inr w)).isSome))=_
  rw[RC]
  cases nB w <;> rfl
 have t2:bOr (bOf (eOp (gIn true) (eOp gIx (aB 0) (eC (.int 0))) (eC (.dict (gKD mO))))) (bOf (eOp gNe (aQ bH (aF (aB 0) aI)) (eOp gIx (eC (.dict (gKD mO))) (eOp gIx (aB 0) (eC (.int 0)))))) (vS R)=some (!decide (nB w=some (xs.length+1))):=by
  cases hp:nB w with
  | none=>
   rw[hp] at hin
   exact(jE (x:=true) (y:=true) (cZ hin) fun q=>nomatch q).trans (by simp)
  | some n=>
   rw[hp] at hin
   refine(jE (x:=false) (y:=decide ((((xs.length+1:Nat):Int))≠(n:Int))) (cZ hin) fun _=>cZ (aN (b:=.int n) el (aN (a:=.dict (gKD mO)) (b:=.str w) rfl i0 ?_) (ne_int _ _))).trans ?_
   ·show dG (gKD mO) (.inr w)=_
    rw[RC,hp]
    rfl
   ·rw[Bool.false_or]
    congr 1
    rw[kQ]
    simp
    omega
 refine uJ t2 (fun q=>?_) (fun q=>?_)
 ·have:decide (nB w=some (xs.length+1))=false:=by simpa using q
  rw[this]
  exact dH (d:=.bool false) rfl ⟨_,rfl,rfl⟩
 ·have:decide (nB w=some (xs.length+1))=true:=by simpa using q
  rw[this,LC]
  have s:=ZI (f:=aB 0) (ρ:=vS R) (ds:=.str w::xs) (lo:=oS (eC (.int 1))) (hi:=oN) rfl (IJ (i:=((1:Nat):Int)) rfl) rfl
  rw[Be] at s
  have lc:=As (cap:=[none]) (fi:=iIt (oK (aB 0) (oS (eC (.int 1))) oN)) (T:=gB 0) (t:=cJ) (f:=cN (aQ qY (aF (aB 0) aI)) (eOp gGe (aB 0) (eC (.int 0)))) (ρ:=vS R) (ds:=xs) (fun d=>.bool (uT d)) (mM s) (by omega) (fun d md=>⟨[some d],rfl,rfl,Rm d rfl⟩)
  exact dH (d:=.bool (xs.all uT)) (bI (aW lc rfl) (Bl uT xs)) rfl
theorem IK (a b:Nat):gGe (.int a) (.int b)=some (.bool (decide (b≤a))):=by
 show some (fV (decide ((a:Int) ≥ (b:Int))))=_
 congr 2
 rw[decide_eq_decide]
 omega
noncomputable def FC:Rl->aE
 | .key _ _=>"key"
 | .pts _ _ _ _ _=>"points"
theorem Cz (r:Rl):gIx (bR r) (.int 0)=some (.str (FC r)):=by cases r <;> rfl
noncomputable abbrev st5 (w:aE)(n i j c:Nat):aA:=.tuple [.str w,.int n,.int i,.int j,.int c]
noncomputable def sV (ls:List Ln)(w:aE)(i j c:Nat):Rl->Bool
 | .key t cs=>decide (i<j)&&decide (j<ls.length)&&iP t cs (ls.getD i lnD) (ls.getD j lnD)&&decide (c∈unl (ls.getD i lnD).2 (ls.getD j lnD).2)&&decide (w=mI ((ls.getD i lnD).2.getD c (.inl 0)) ((ls.getD j lnD).2.getD c (.inl 0)))
 | .pts _ _ _ _ _=>false
noncomputable def kE (ls:List Ln)(rs:List Rl)(w:aE)(n i j c:Nat):Bool:=decide (n<rs.length)&&sV ls w i j c (rs.getD n rlD)
noncomputable def wY (ls:List Ln)(c:List Nat)(o:aE)(d:List Nat)(l:Ln):Bool:=ls.any fun l'=>decide (l'.1=o)&&decide (pick l'.2 d=pick l.2 c)
theorem Rx {wd:aE->Nat}{ls:List Ln}(hl : ∀ l∈ls,iC wd l)(hn:ls.length≤1000){t:aE}{c:List Nat}{o:aE}{d:List Nat}{w:Nat}(hr:oE wd (.pts t c o d w))(hc:c.length≤1000)(hd:d.length≤1000){l:Ln}(hw:iC wd l)(ht:l.1=t) :
  vX [lsD ls,bR (.pts t c o d w),aX l]=some (.bool (wY ls c o d l)):=by
 have : ∃ e,vX [lsD ls,bR (.pts t c o d w),aX l]=some e/\e = .bool (wY ls c o d l):=by
  refine iH rfl ?_
  have k1:=yF (ks:=l.2) (cs:=c) (fun x m=>by rw[show l.2.length=wd l.1 from hw,ht]; exact hr.1 x m) hc
  refine eJ (d:=tK (pick l.2 c)) (bI (ds:=[tK l.2,tN c]) rfl k1) (by simp) ?_
  refine dH (d:=.bool (wY ls c o d l)) ?_ ⟨_,rfl,rfl⟩
  let g:Ln->Bool:=fun l'=>decide (l'.1=o)&&decide (pick l'.2 d=pick l.2 c)
  have lc:=lW (cap:=[none,some 3,some 1]) (fi:=iIt (aB 0)) (T:=gB 0) (t:=cJ) (f:=cN (eOp gEq (eOp gIx (aB 0) (eC (.int 0))) (eOp gIx (aB 2) (eC (.int 3)))) (eOp gEq (aQ lZ (aF (eOp gIx (aB 0) (eC (.int 1))) (aF (eOp gIx (aB 2) (eC (.int 4))) aI))) (aB 1))) (ρ:=vS [s0 (lsD ls),s0 (bR (.pts t c o d w)),s0 (aX l),s0 (tK (pick l.2 c))])
   (xs:=ls) (q:=aX) (fun _=>true) (fun l'=>.bool (g l')) (mM rfl) (by omega) fun l' m=>by
    refine⟨[some (aX l'),some (tK (pick l.2 c)),some (bR (.pts t c o d w))],rfl,rfl,fun _=>?_⟩
    have e1:eOp gEq (eOp gIx (aB 0) (eC (.int 0))) (eOp gIx (aB 2) (eC (.int 3))) [some (aX l'),some (tK (pick l.2 c)),some (bR (.pts t c o d w))]=some (.bool (decide (l'.1=o))):=aN (a:=.str l'.1) (b:=.str o) rfl rfl (iD _ _)
    refine kX e1 fun q=>?_
    have q:=of_decide_eq_true q
    have k2:=yF (ks:=l'.2) (cs:=d) (fun x mx=>by rw[show l'.2.length=wd l'.1 from hl l' m,q]; exact hr.2 x mx) hd
    exact aN (a:=tK (pick l'.2 d)) (b:=tK (pick l.2 c)) (bI (ds:=[tK l'.2,tN d]) rfl k2) rfl (LV _ _)
  refine bI (aW lc rfl) ?_
  rw[tV.mpr (by simp)]
  show((mX (ls.map fun l'=>fV (g l'))).bind fun bs=>some (fV (bs.any id)))=_
  have hb : ∀ xs:List Ln,mX (xs.map fun x=>fV (g x))=some (xs.map g):=fun xs=>by
   induction xs with
   | nil=>rfl
   | cons x xs ih=>
    show((mX (xs.map fun x=>fV (g x))).bind fun bs=>some (g x::bs))=_
    rw[ih]
    rfl
  rw[hb,cM,EE]
  rfl
 obtain⟨d,e,rfl⟩:=this
 exact e
noncomputable def oM (ls:List Ln)(l:Ln):Rl->Bool
 | .key _ _=>false
 | .pts t c o d _=>decide (t=l.1) && !wY ls c o d l
theorem PK {wd:aE->Nat}{ls:List Ln}(hl : ∀ l∈ls,iC wd l)(hn:ls.length≤1000){r:Rl}(hr:oE wd r)(hc:rlC r){l:Ln}(hw:iC wd l):pH [lsD ls,bR r,aX l]=some (.bool (oM ls l r)):=by
 have : ∃ e,pH [lsD ls,bR r,aX l]=some e/\e = .bool (oM ls l r):=by
  refine iH rfl (dH (d:=.bool (oM ls l r)) ?_ ⟨_,rfl,rfl⟩)
  let S:bD:=[s0 (lsD ls),s0 (bR r),s0 (aX l)]
  show cN (eOp gEq (eOp gIx (aB 1) (eC (.int 0))) (eC (.str "points"))) _ (vS S)=_
  cases r with
  | key t c=>
   have e1:eOp gEq (eOp gIx (aB 1) (eC (.int 0))) (eC (.str "points")) (vS [s0 (lsD ls),s0 (bR (.key t c)),s0 (aX l)])=some (.bool false):=aN (a:=.str "key") (b:=.str "points") rfl rfl (by rw[iD,decide_eq_false (by decide)])
   unfold cN
   rw[e1]
   rfl
  | pts t c o d w=>
   have e1:eOp gEq (eOp gIx (aB 1) (eC (.int 0))) (eC (.str "points")) (vS [s0 (lsD ls),s0 (bR (.pts t c o d w)),s0 (aX l)])=some (.bool true):=aN (a:=.str "points") (b:=.str "points") rfl rfl (by rw[iD,decide_eq_true rfl])
   have e2:eOp gEq (eOp gIx (aB 1) (eC (.int 1))) (eOp gIx (aB 2) (eC (.int 0))) (vS [s0 (lsD ls),s0 (bR (.pts t c o d w)),s0 (aX l)])=some (.bool (decide (t=l.1))):=aN (a:=.str t) (b:=.str l.1) rfl rfl (iD _ _)
   show _=some (fV (true&&(decide (t=l.1) && !wY ls c o d l)))
   refine kX e1 fun _=>kX e2 fun q=>Mc ?_
   exact bI (ds:=[lsD ls,bR (.pts t c o d w),aX l]) rfl (Rx hl hn hr hc.1 hc.2 hw (of_decide_eq_true q).symm)
 obtain⟨d,e,rfl⟩:=this
 exact e
noncomputable def uK (ls:List Ln)(n:Nat)(t:aE)(c:List Nat)(i j:Nat):Option aA:=if iP t c (ls.getD i lnD) (ls.getD j lnD)=true then(unl (ls.getD i lnD).2 (ls.getD j lnD).2).head?.map (stepK ls n i j) else none
noncomputable def sP (ls:List Ln)(n:Nat)(t:aE)(c:List Nat):Option aA:=(cE ls.length).findSome? fun i=>(qK (i+1) ls.length).findSome? fun j=>uK ls n t c i j
noncomputable def eM:Option aA->aA
 | none=>.none
 | some d=>d
theorem EY (n:Nat):gGt (.int n) (.int 0)=some (.bool (decide (0<n))):=by
 show some (fV (decide ((0:Int)<(n:Int))))=_
 congr 2
 rw[kQ]
 simp
theorem Kf {wd:aE->Nat}{ls:List Ln}(hl : ∀ l∈ls,iC wd l)(hw : ∀ l∈ls,l.2.length≤1000)(hn:ls.length≤1000){n:Nat}{t:aE}{c:List Nat}(hr:oE wd (.key t c))(hc:c.length≤1000):vQ [lsD ls,.int n,bR (.key t c)]=some (eM (sP ls n t c)):=by
 have : ∃ d,vQ [lsD ls,.int n,bR (.key t c)]=some d/\d=eM (sP ls n t c):=by
  refine iH rfl ?_
  let A:L2.Slot:=s0 (lsD ls)
  let B:L2.Slot:=s0 (.int n)
  let C:L2.Slot:=s0 (bR (.key t c))
  have len_ls:bH [lsD ls]=some (.int ls.length):=by rw[xW,gM]
  refine FQ (fun ρ'=>∃ x3 x4 x5 x6:L2.Slot,ρ'=[A,B,C,x3,x4,x5,x6]) (sP ls n t c) (xV (xs:=cE ls.length) (q:=fun i=>lJ i (aX (ls.getD i lnD))) (fun ρ'=>∃ x3 x4 x5 x6:L2.Slot,ρ'=[A,B,C,x3,x4,x5,x6]) _ (avS (FO aX lnD rfl)) ⟨none,none,none,none,rfl⟩ ?_) ?_ ?_
  ·rintro i mi _ ⟨x3,x4,x5,x6,rfl⟩
   have hi:i<ls.length:=jA.mp mi
   refine⟨[A,B,C,s0 (.int i),s0 (aX (ls.getD i lnD)),x5,x6],rfl,?_⟩
   refine Goes.mono (xV (xs:=qK (i+1) ls.length) (q:=fun(j:Nat)=>bT j) (fun ρ'=>∃ x5 x6:L2.Slot,ρ'=[A,B,C,s0 (.int i),s0 (aX (ls.getD i lnD)),x5,x6]) (fun j=>uK ls n t c i j) (avS (TQ (aW (by simp[fnD,aS,bB,bK,eB,sIf,dD,eK,eO,eN,cV,frz,bY,eV,bV,aV,vS,vA,eOp,eUn,aB,eC,aQ,cF,cU,aF,aI,bOf,cQ,dI,bOr,asB,cN,eOr,dS,dU,eG,eIf,gNm,getL,dQ,outD,iIt,itemsOf,bQ,dE,cO,bM,cB,dR,g2I,g2C,gLt,gLe,gGt,gGe,bH,cT,dM,isK,dB,dZ,dX,gEq,gNe,bN,noDict,noDicts,cP,bU,bJ,cS,bS,cJ,gB]) (aW (bI (ds:=[lsD ls]) rfl len_ls) rfl)) (by omega) (by omega))) ⟨x5,x6,rfl⟩ ?_) fun o h=>A8q.turn h fun ρ ⟨x5,x6,e⟩=>⟨_,_,x5,x6,e⟩
   rintro j mj _ ⟨y5,y6,rfl⟩
   have hj:=(Ar5.mp mj).2
   refine⟨[A,B,C,s0 (.int i),s0 (aX (ls.getD i lnD)),s0 (.int j),y6],rfl,?_⟩
   have wi:=hl _ (getD_mem lnD hi)
   have wj:=hl _ (getD_mem lnD hj)
   have em:=MX hr wi wj hc
   have gj : ∀ y,eOp gIx (aB 0) (aB 5) (vS [A,B,C,s0 (.int i),s0 (aX (ls.getD i lnD)),s0 (.int j),y])=some (aX (ls.getD j lnD)):=fun y=>aN (a:=lsD ls) (b:=.int j) rfl rfl (pF hj)
   have ec:bOf (aQ pA (aF (aB 2) (aF (aB 4) (aF (eOp gIx (aB 0) (aB 5)) aI)))) (vS [A,B,C,s0 (.int i),s0 (aX (ls.getD i lnD)),s0 (.int j),y6])=some (iP t c (ls.getD i lnD) (ls.getD j lnD)):=cZ (bI (aW rfl (aW rfl (aW (gj y6) rfl))) em)
   let us:List Nat:=if iP t c (ls.getD i lnD) (ls.getD j lnD)=true then unl (ls.getD i lnD).2 (ls.getD j lnD).2 else []
   have hu:uK ls n t c i j=us.head?.map (stepK ls n i j):=by
    unfold uK
    show _=(if iP t c (ls.getD i lnD) (ls.getD j lnD)=true then unl (ls.getD i lnD).2 (ls.getD j lnD).2 else []).head?.map _
    split <;> rfl
   have hlen : ∀ x∈us,x<(ls.getD i lnD).2.length/\x<(ls.getD j lnD).2.length:=fun x mx=>by
    have mx:x∈(if iP t c (ls.getD i lnD) (ls.getD j lnD)=true then unl (ls.getD i lnD).2 (ls.getD j lnD).2 else []):=mx
    split at mx
    ·rename_i hm
     have h1:=FA mx
     have h2:=BR wi wj hm
     omega
    ·simp at mx
   refine eJ (d:=lN us) ?_ (by simp) ?_
   ·unfold eIf
    rw[ec,cM]
    show(if iP t c (ls.getD i lnD) (ls.getD j lnD)=true then _ else _)=some (lN (if iP t c (ls.getD i lnD) (ls.getD j lnD)=true then unl (ls.getD i lnD).2 (ls.getD j lnD).2 else []))
    split
    ·rename_i hm
     exact bI (aW rfl (aW (gj y6) rfl)) (PL (BR wi wj hm) (hw _ (getD_mem lnD hi)))
    ·rfl
   have eg:bV .s (bOf (eOp gGt (aQ bH (aF (aB 6) aI)) (eC (.int 0)))) [A,B,C,s0 (.int i),s0 (aX (ls.getD i lnD)),s0 (.int j),s0 (lN us)]=some (decide (0<us.length)):=cZ (aN (a:=.int us.length) (b:=.int 0) (bI (ds:=[lN us]) rfl (TM us)) rfl (EY _))
   rw[hu]
   generalize us=us at hlen eg
   cases us with
   | nil=>exact lT eg (pD ⟨_,.inl rfl,_,_,rfl⟩)
   | cons c0 r=>
    have hc0:=hlen c0 dF
    exact gH eg (dH (bI (aW rfl (aW rfl (aW rfl (aW rfl (aW (aN (a:=lN (c0::r)) (b:=.int 0) rfl rfl (nH (q:=fun(c:Nat)=>bT c) (xs:=c0::r) (j:=0) rfl)) rfl))))) (MW hi hj hc0.1 hc0.2)) rfl)
  ·intro r hr'
   exact⟨_,rfl,by rw[hr']; rfl⟩
  ·rintro hz _ ⟨x3,x4,x5,x6,rfl⟩
   exact dH (d:=.none) rfl ⟨_,rfl,by rw[hz]; rfl⟩
 obtain⟨d,e,rfl⟩:=this
 exact e
noncomputable abbrev gF (n i:Nat):aA:=.tuple [.str "put",.int n,.int i]
noncomputable def xO (ls:List Ln)(rs:List Rl):Option aA:=(cE ls.length).findSome? fun i=>(cE rs.length).findSome? fun n=>if oM ls (ls.getD i lnD) (rs.getD n rlD)=true then some (gF n i) else none
theorem Fl {wd:aE->Nat}{ls:List Ln}(hl : ∀ l∈ls,iC wd l)(hn:ls.length≤1000){rs:List Rl}(hr : ∀ r∈rs,oE wd r/\rlC r):vF [lsD ls,rsD rs]=some (eM (xO ls rs)):=by
 have : ∃ d,vF [lsD ls,rsD rs]=some d/\d=eM (xO ls rs):=by
  refine iH rfl ?_
  let A:L2.Slot:=s0 (lsD ls)
  let B:L2.Slot:=s0 (rsD rs)
  refine FQ (fun ρ'=>∃ x2 x3 x4 x5:L2.Slot,ρ'=[A,B,x2,x3,x4,x5]) (xO ls rs) (xV (xs:=cE ls.length) (q:=fun i=>lJ i (aX (ls.getD i lnD))) (fun ρ'=>∃ x2 x3 x4 x5:L2.Slot,ρ'=[A,B,x2,x3,x4,x5]) _ (avS (FO aX lnD rfl)) ⟨none,none,none,none,rfl⟩ ?_) ?_ ?_
  ·rintro i mi _ ⟨x2,x3,x4,x5,rfl⟩
   have hi:i<ls.length:=jA.mp mi
   refine⟨[A,B,s0 (.int i),s0 (aX (ls.getD i lnD)),x4,x5],rfl,?_⟩
   refine Goes.mono (xV (xs:=cE rs.length) (q:=fun n=>lJ n (bR (rs.getD n rlD))) (fun ρ'=>∃ x4 x5:L2.Slot,ρ'=[A,B,s0 (.int i),s0 (aX (ls.getD i lnD)),x4,x5]) (fun n=>if oM ls (ls.getD i lnD) (rs.getD n rlD)=true then some (gF n i) else none) (avS (NO bR rlD rfl)) ⟨x4,x5,rfl⟩ ?_) fun o h=>A8q.turn h fun ρ ⟨x4,x5,e⟩=>⟨_,_,x4,x5,e⟩
   rintro n mn _ ⟨y4,y5,rfl⟩
   have hn':n<rs.length:=jA.mp mn
   refine⟨[A,B,s0 (.int i),s0 (aX (ls.getD i lnD)),s0 (.int n),s0 (bR (rs.getD n rlD))],rfl,?_⟩
   have hrr:=hr _ (getD_mem rlD hn')
   have ew:=PK hl hn hrr.1 hrr.2 (hl _ (getD_mem lnD hi))
   have tb:bV .s (bOf (aQ pH (aF (aB 0) (aF (aB 5) (aF (aB 3) aI))))) [A,B,s0 (.int i),s0 (aX (ls.getD i lnD)),s0 (.int n),s0 (bR (rs.getD n rlD))]=some (oM ls (ls.getD i lnD) (rs.getD n rlD)):=cZ (bI (ds:=[lsD ls,bR (rs.getD n rlD),aX (ls.getD i lnD)]) rfl ew)
   cases hp:oM ls (ls.getD i lnD) (rs.getD n rlD) with
   | true=>exact gH (tb.trans (by rw[hp])) (dH (d:=gF n i) rfl rfl)
   | false=>exact lT (tb.trans (by rw[hp])) (pD ⟨_,.inl rfl,_,_,rfl⟩)
  ·intro r hr'
   exact⟨_,rfl,by rw[hr']; rfl⟩
  ·rintro hz _ ⟨x2,x3,x4,x5,rfl⟩
   exact dH (d:=.none) rfl ⟨_,rfl,by rw[hz]; rfl⟩
 obtain⟨d,e,rfl⟩:=this
 exact e
noncomputable def oX (ls:List Ln)(n:Nat):Rl->Option aA
 | .key t c=>sP ls n t c
 | .pts _ _ _ _ _=>none
noncomputable def dY (ls:List Ln)(rs:List Rl):Option aA:=((cE rs.length).findSome? fun n=>oX ls n (rs.getD n rlD)).or (xO ls rs)
theorem Qb (t:Option aA)(h : ∀ d,t=some d -> ∃ ds,d = .tuple ds):oC (eM t) .none=some (.bool t.isSome):=by
 cases t with
 | none=>rfl
 | some d=>
  obtain⟨ds,rfl⟩:=h d rfl
  rfl
theorem Fo {ls:List Ln}{n:Nat}{t:aE}{c:List Nat}{d:aA}(h:sP ls n t c=some d) : ∃ i j k,d=stepK ls n i j k:=by
 unfold sP at h
 obtain⟨i,_,h⟩:=wM h
 obtain⟨j,_,h⟩:=wM h
 unfold uK at h
 split at h
 ·obtain⟨k,_,rfl⟩:=pU.mp h
  exact⟨i,j,k,rfl⟩
 ·cases h
theorem Cv {ls:List Ln}{n:Nat}{r:Rl}{d:aA}(h:oX ls n r=some d) : ∃ i j k,d=stepK ls n i j k:=by
 cases r with
 | key t c=>exact Fo h
 | pts t c o e w=>cases h
theorem Ae {wd:aE->Nat}{ls:List Ln}(hl : ∀ l∈ls,iC wd l)(hw : ∀ l∈ls,l.2.length≤1000)(hn:ls.length≤1000){rs:List Rl}(hr : ∀ r∈rs,oE wd r/\rlC r)(H:aA):lQ [.tuple [H,lsD ls],rsD rs]=some (eM (dY ls rs)):=by
 have : ∃ d,lQ [.tuple [H,lsD ls],rsD rs]=some d/\d=eM (dY ls rs):=by
  refine iH rfl ?_
  let A:L2.Slot:=s0 (.tuple [H,lsD ls])
  let B:L2.Slot:=s0 (rsD rs)
  refine FQ (fun ρ'=>∃ x2 x3 x4:L2.Slot,ρ'=[A,B,x2,x3,x4]) ((cE rs.length).findSome? fun n=>oX ls n (rs.getD n rlD)) (xV (xs:=cE rs.length) (q:=fun n=>lJ n (bR (rs.getD n rlD))) (fun ρ'=>∃ x2 x3 x4:L2.Slot,ρ'=[A,B,x2,x3,x4]) _ (avS (NO bR rlD rfl)) ⟨none,none,none,rfl⟩ ?_) ?_ ?_
  ·rintro n mn _ ⟨x2,x3,x4,rfl⟩
   have hn':n<rs.length:=jA.mp mn
   refine⟨[A,B,s0 (.int n),s0 (bR (rs.getD n rlD)),x4],rfl,?_⟩
   obtain⟨hr1,hr2⟩:=hr _ (getD_mem rlD hn')
   generalize rs.getD n rlD=r at hr1 hr2
   refine eJ (d:=eM (oX ls n r)) ?_ (by simp) ?_
   ·cases r with
    | key t c=>
     have e0:bOf (eOp gEq (eOp gIx (aB 3) (eC (.int 0))) (eC (.str "key"))) (vS [A,B,s0 (.int n),s0 (bR (.key t c)),x4])=some true:=cZ (aN (a:=.str "key") (b:=.str "key") rfl rfl (by rw[iD,decide_eq_true rfl]))
     unfold eIf
     rw[e0,cM,if_pos rfl]
     exact bI (ds:=[lsD ls,.int n,bR (.key t c)]) rfl (Kf hl hw hn hr1 hr2)
    | pts t c o e w=>
     have e0:bOf (eOp gEq (eOp gIx (aB 3) (eC (.int 0))) (eC (.str "key"))) (vS [A,B,s0 (.int n),s0 (bR (.pts t c o e w)),x4])=some false:=cZ (aN (a:=.str "points") (b:=.str "key") rfl rfl (by rw[iD,decide_eq_false (by decide)]))
     unfold eIf
     rw[e0,cM,if_neg (by simp)]
     rfl
   have tb:bV .s (bOf (eOp oC (aB 4) (eC .none))) [A,B,s0 (.int n),s0 (bR r),s0 (eM (oX ls n r))]=some (oX ls n r).isSome:=cZ (aN (a:=eM (oX ls n r)) (b:=.none) rfl rfl (Qb _ fun d h=>by obtain⟨i,j,k,rfl⟩:=Cv h; exact⟨_,rfl⟩))
   cases hd:oX ls n r with
   | none=>
    rw[hd] at tb
    exact lT tb (pD ⟨_,.inl rfl,_,_,_,rfl⟩)
   | some d=>
    rw[hd] at tb
    exact gH tb (dH (d:=d) rfl rfl)
  ·intro r hr'
   exact⟨_,rfl,by unfold dY; rw[hr']; rfl⟩
  ·rintro hz _ ⟨x2,x3,x4,rfl⟩
   refine dH (bI (ds:=[lsD ls,rsD rs]) rfl (Fl hl hn hr)) ⟨_,rfl,?_⟩
   unfold dY
   rw[hz]
   rfl
 obtain⟨d,e,rfl⟩:=this
 exact e
theorem YF (c:Nat)(cs:List Nat):gIn false (.int c) (lN cs)=some (.bool (decide (c∈cs))):=by
 have nd:noDicts (cs.map fun(c:Nat)=>bT c)=true:=qX fun t m=>by
  obtain⟨x,_,rfl⟩:=dP.mp m
  rfl
 show(if (bN (.int c)&&noDicts (cs.map fun(c:Nat)=>bT c))=true then some (fV (false != (cs.map fun(c:Nat)=>bT c).any fun z=>bJ z (.int c))) else none)=_
 rw[nd,show bN (.int c)=true from rfl,nZ,if_pos rfl]
 congr 2
 rw[EE,kQ]
 simp[bJ]
 constructor
 ·rintro⟨x,mx,h⟩
  have:x=c:=by omega
  exact this ▸ mx
 ·exact fun m=>⟨c,m,rfl⟩
theorem ZZ (w w':aE)(n i j c:Nat):gEq (st5 w n i j c) (st5 w' n i j c)=some (.bool (decide (w=w'))):=by
 have e1:=sW (.inr w) (.inr w')
 show(if (bN (st5 w n i j c)&&bN (st5 w' n i j c))=true then some (fV (bJ (st5 w n i j c) (st5 w' n i j c))) else none)=_
 have ok : ∀ w,bN (st5 w n i j c)=true:=fun w=>by simp[bN,noDict,noDicts,cP,bU]
 rw[ok,ok,nZ,if_pos rfl]
 congr 2
 have e1:bJ (.str w) (.str w')=decide (w=w'):=e1.trans (by simp)
 simp[bJ,fQ]
 simpa [bJ] using e1
theorem lt_chain {fa fb fc:EF}{ρ:List (Option aA)}{a b c:Nat}(ha:fa ρ=some (.int a))(hb:fb ρ=some (.int b))(hc:fc ρ=some (.int c)):xQ gLt gLt fa fb fc ρ=some (.bool (decide (a<b)&&decide (b<c))):=by
 unfold xQ
 rw[ha,hb,hc]
 show(if decide ((a:Int)<(b:Int))=true then some (fV (decide ((b:Int)<(c:Int)))) else some (fV false))=_
 by_cases h:a<b
 ·rw[decide_eq_true (by omega),if_pos rfl,decide_eq_true h,LC]
  congr 2
  rw[decide_eq_decide]
  omega
 ·rw[decide_eq_false (by omega),if_neg (by simp),decide_eq_false h,LD]
theorem Ie {wd:aE->Nat}{ls:List Ln}(hl : ∀ l∈ls,iC wd l)(hw : ∀ l∈ls,l.2.length≤1000)(hn:ls.length≤1000){r:Rl}(hr:oE wd r)(hc:rlC r)(w:aE)(n i j c:Nat):zQ [lsD ls,bR r,st5 w n i j c]=some (.bool (sV ls w i j c r)):=by
 refine iV rfl ?_
 let R:bD:=[s0 (lsD ls),s0 (bR r),s0 (st5 w n i j c),s0 (.int i),s0 (.int j)]
 refine cW (ρ':=[s0 (lsD ls),s0 (bR r),s0 (st5 w n i j c),s0 (.int i),none]) (fM (m:=.s) (aN (a:=st5 w n i j c) (b:=.int 2) rfl rfl rfl) (by simp)) ?_
 refine cW (ρ':=R) (fM (m:=.s) (aN (a:=st5 w n i j c) (b:=.int 3) rfl rfl rfl) (by simp)) ?_
 have r0:eOp gIx (aB 1) (eC (.int 0)) (vS R)=some (.str (FC r)):=aN (a:=bR r) (b:=.int 0) rfl rfl (Cz r)
 have t0:bOf (eOp gNe (eOp gIx (aB 1) (eC (.int 0))) (eC (.str "key"))) (vS R)=some (decide (FC r ≠ "key")):=cZ (aN (b:=.str "key") r0 rfl (uV _ _))
 cases r with
 | pts t cs o d wd=>
  have t0:bOf (eOp gNe (eOp gIx (aB 1) (eC (.int 0))) (eC (.str "key"))) (vS R)=some true:=t0.trans (congrArg some (decide_eq_true (show("points" : aE) ≠ "key" by decide +kernel)))
  exact kY (gH (jE (x:=true) (y:=true) t0 fun q=>nomatch q) (dH (d:=.bool false) rfl ⟨_,rfl,rfl⟩))
 | key t cs=>
  have t0:bOf (eOp gNe (eOp gIx (aB 1) (eC (.int 0))) (eC (.str "key"))) (vS R)=some false:=t0.trans (congrArg some (decide_eq_false (show ¬ ("key" : aE) ≠ "key" by simp)))
  have el:aQ bH (aF (aB 0) aI) (vS R)=some (.int ls.length):=bI (ds:=[lsD ls]) rfl (by rw[xW,gM])
  have ch:=lt_chain (ρ:=vS R) (fa:=aB 3) (fb:=aB 4) (a:=i) (b:=j) rfl rfl el
  by_cases hij:i<j/\j<ls.length
  ·have hil:i<ls.length:=by omega
   have ii:eOp gIx (aB 0) (aB 3) (vS R)=some (aX (ls.getD i lnD)):=aN (a:=lsD ls) (b:=.int i) rfl rfl (pF hil)
   have jj:eOp gIx (aB 0) (aB 4) (vS R)=some (aX (ls.getD j lnD)):=aN (a:=lsD ls) (b:=.int j) rfl rfl (pF hij.2)
   have hli:=hl _ (getD_mem lnD hil)
   have hlj:=hl _ (getD_mem lnD hij.2)
   have em:=MX hr hli hlj hc
   rw[decide_eq_true hij.1,decide_eq_true hij.2] at ch
   refine uJ (jE (x:=false) t0 fun _=>jE (x:=false) (jH ch) fun _=>jH (bI (ds:=[bR (.key t cs),aX (ls.getD i lnD),aX (ls.getD j lnD)]) (aW rfl (aW ii (aW jj rfl))) em)) (fun q=>?_) (fun q=>?_)
   ·have:iP t cs (ls.getD i lnD) (ls.getD j lnD)=false:=by simpa using q
    refine dH (d:=.bool false) rfl ⟨_,rfl,?_⟩
    simp only[sV,this,Bool.and_false,LD]
   ·have hm:iP t cs (ls.getD i lnD) (ls.getD j lnD)=true:=by simpa using q
    have hlen:=BR hli hlj hm
    have eu:=PL hlen (hw _ (getD_mem lnD hil))
    have ix4:eOp gIx (aB 2) (eC (.int 4)) (vS R)=some (.int c):=aN (a:=st5 w n i j c) (b:=.int 4) rfl rfl rfl
    have ix1:eOp gIx (aB 2) (eC (.int 1)) (vS R)=some (.int n):=aN (a:=st5 w n i j c) (b:=.int 1) rfl rfl rfl
    refine dH (d:=.bool (decide (c∈unl (ls.getD i lnD).2 (ls.getD j lnD).2)&&decide (w=mI ((ls.getD i lnD).2.getD c (.inl 0)) ((ls.getD j lnD).2.getD c (.inl 0))))) (kX (aN ix4 (bI (ds:=[aX (ls.getD i lnD),aX (ls.getD j lnD)]) (aW ii (aW jj rfl)) eu) (YF c _)) fun hc2=>?_) ?_
    ·have hcm:=of_decide_eq_true hc2
     have h1:=FA hcm
     exact aN (a:=st5 w n i j c) rfl (bI (ds:=[lsD ls,.int n,.int i,.int j,.int c]) (aW rfl (aW ix1 (aW rfl (aW rfl (aW ix4 rfl))))) (MW hil hij.2 h1 (by omega))) (ZZ _ _ _ _ _ _)
    ·simp only[sV,hm,decide_eq_true hij.1,decide_eq_true hij.2,LC]
  ·have cf:(decide (i<j)&&decide (j<ls.length))=false:=by
    cases q:(decide (i<j)&&decide (j<ls.length)) with
    | false=>rfl
    | true=>
     rw[hW] at q
     exact absurd ⟨of_decide_eq_true q.1,of_decide_eq_true q.2⟩ hij
   rw[cf] at ch
   refine kY (gH (jE (x:=false) t0 fun _=>jE (x:=true) (y:=true) (jH ch) fun q=>nomatch q) (dH (d:=.bool false) rfl ⟨_,rfl,?_⟩))
   simp only[sV,cf,LD]
theorem SR (n:Nat):uT (.int n)=true:=by
 show decide ((0:Int)≤(n:Int))=true
 exact decide_eq_true (by omega)
theorem Qi {wd:aE->Nat}{ls:List Ln}(hl : ∀ l∈ls,iC wd l)(hw : ∀ l∈ls,l.2.length≤1000)(hn:ls.length≤1000){rs:List Rl}(hr : ∀ r∈rs,oE wd r/\rlC r){w:aE}(hwd:w = "same" \/ w = "clash")(n i j c:Nat):vM [lsD ls,st5 w n i j c,rsD rs]=some (.bool (kE ls rs w n i j c)):=by
 have hs:=QX w [.int n,.int i,.int j,.int c] (by simp)
 have hp:nB w=some 5:=by rcases hwd with rfl | rfl <;> decide +kernel
 have hs:sY [st5 w n i j c]=some (.bool true):=by
  rw[hs,hp]
  simp[SR]
 have hput:decide (w = "put")=false:=by rcases hwd with rfl | rfl <;> decide +kernel
 refine iV rfl ?_
 let L:L2.Slot:=s0 (lsD ls)
 let ST:L2.Slot:=s0 (st5 w n i j c)
 let RS:L2.Slot:=s0 (rsD rs)
 have i1 : ∀ x3:L2.Slot,eOp gIx (aB 1) (eC (.int 1)) (vS [L,ST,RS,x3])=some (.int n):=fun _=>aN (a:=st5 w n i j c) (b:=.int 1) rfl rfl rfl
 have el:aQ bH (aF (aB 2) aI) (vS [L,ST,RS,none])=some (.int rs.length):=bI (ds:=[rsD rs]) rfl (by simp[bH])
 refine uJ (jE (x:=false) (jH (bI (ds:=[st5 w n i j c]) rfl hs)) fun _=>cZ (aN (i1 none) el (IK _ _))) (fun q=>?_) (fun q=>?_)
 ·have : ¬ n<rs.length:=by
   have:=of_decide_eq_true (show decide (rs.length≤n)=true by simpa using q)
   omega
  refine dH (d:=.bool false) rfl ⟨_,rfl,?_⟩
  simp[kE,this]
 ·have hlt:n<rs.length:=by
   have:=of_decide_eq_false (show decide (rs.length≤n)=false by simpa using q)
   omega
  have hm:=getD_mem rlD hlt
  obtain⟨h1,h2⟩:=hr _ hm
  refine cW (ρ':=[L,ST,RS,s0 (bR (rs.getD n rlD))]) (fM (m:=.s) (aN (a:=rsD rs) (b:=.int n) rfl (i1 none) (nH (q:=bR) (getD_some rlD hlt))) (by simp)) ?_
  refine cW (gZ ((cZ (aN (a:=.str w) (b:=.str "put") (aN (a:=st5 w n i j c) (b:=.int 0) rfl rfl rfl) rfl (iD _ _))).trans (by rw[hput]))) ?_
  refine dH (d:=.bool (kE ls rs w n i j c)) ((bI (ds:=[lsD ls,bR (rs.getD n rlD),st5 w n i j c]) rfl (Ie hl hw hn h1 h2 w n i j c)).trans ?_) rfl
  simp[kE,hlt]
noncomputable def kA (g kp k:aK):aK:=if k=g then kp else k
noncomputable def lM (g kp:aK)(l:Ln):Ln:=(l.1,l.2.map (kA g kp))
noncomputable abbrev aZ (hd:List aK)(ls:List Ln):aA:=.tuple [tK hd,lsD ls]
def jO (k:aK):Prop:=fA (kD k)=true
theorem Ach (k:aK):cR (kD k)=some k:=by cases k <;> rfl
theorem YD (g:aK)(v:aA)(k:aK):dG [(kD g,v)] k=if k=g then some v else none:=by
 unfold dG
 rw[jX,Ach]
 by_cases h:k=g
 ·rw[decide_eq_true (by rw[h]),if_pos h]; rfl
 ·rw[decide_eq_false (fun q=>h (gW q).symm),if_neg h]; rfl
theorem QK {g kp:aK}{ks:List aK}(hl:ks.length≤1000):qR [tK ks,.dict [(kD g,kD kp)]]=some (tK (ks.map (kA g kp))):=by
 refine iV rfl ?_
 have pl:plK [(kD g,kD kp)]=true:=by cases g <;> rfl
 have lc:=lW (cap:=[none,some 1]) (fi:=iIt (aB 0)) (T:=gB 0) (t:=cJ) (f:=dU (aB 1) (aB 0) (aB 0)) (ρ:=vS [s0 (tK ks),s0 (.dict [(kD g,kD kp)])]) (xs:=ks) (q:=kD) (fun _=>true) (fun k=>kD (kA g kp k)) (mM rfl) (by omega) (fun k mk=>⟨[some (kD k),some (.dict [(kD g,kD kp)])],rfl,rfl,fun _=>by
  rw[Nv (kds:=[(kD g,kD kp)]) (kd:=kD k) (key:=k) rfl rfl (Ach k) (x:=kD k) rfl pl,YD]
  unfold kA
  by_cases h:k=g
  ·rw[if_pos h,if_pos h]; rfl
  ·rw[if_neg h,if_neg h]; rfl⟩)
 rw[tV.mpr (by simp)] at lc
 refine dH (d:=tK (ks.map (kA g kp))) (bI (aW lc rfl) ?_) rfl
 show some (gU _)=some (gU _)
 rw[kO]
 rfl
theorem Iz {g kp:aK}{ls:List Ln}(hl:ls.length≤1000)(hw : ∀ l∈ls,l.2.length≤1000):zN [lsD ls,.dict [(kD g,kD kp)]]=some (lsD (ls.map (lM g kp))):=by
 refine iV rfl ?_
 have lc:=lW (cap:=[none,some 1]) (fi:=iIt (aB 0)) (T:=gB 0) (t:=cJ) (f:=cF (aF (eOp gIx (aB 0) (eC (.int 0))) (aF (aQ qR (aF (eOp gIx (aB 0) (eC (.int 1))) (aF (aB 1) aI))) aI))) (ρ:=vS [s0 (lsD ls),s0 (.dict [(kD g,kD kp)])]) (xs:=ls) (q:=aX) (fun _=>true) (fun l=>aX (lM g kp l)) (mM rfl) (by omega) (fun l ml=>⟨[some (aX l),some (.dict [(kD g,kD kp)])],rfl,rfl,fun _=>jF (ds:=[.str l.1,tK (l.2.map (kA g kp))]) (aW (aN (a:=aX l) (b:=.int 0) rfl rfl rfl) (aW (bI (ds:=[tK l.2,.dict [(kD g,kD kp)]]) (aW (aN (a:=aX l) (b:=.int 1) rfl rfl rfl) rfl) (QK (hw l ml))) rfl))⟩)
 rw[tV.mpr (by simp)] at lc
 refine dH (d:=lsD (ls.map (lM g kp))) (bI (aW lc rfl) ?_) rfl
 show some (gU _)=some (gU _)
 rw[kO]
 rfl
noncomputable def toT (l:Ln):List aA:=[.str l.1,tK l.2]
theorem ZJ {a b:aK}(h:kD a=kD b):a=b:=gW ((Ach a).symm.trans ((congrArg cR h).trans (Ach b)))
theorem RB : ∀ {xs ys:List aK},xs.map kD=ys.map kD->xs=ys
 | [],[],_=>rfl
 | [],y::ys,h=>by cases h
 | x::xs,[],h=>by cases h
 | x::xs,y::ys,h=>by
  rw[fS,fS] at h
  injection h with h1 h2
  rw[ZJ h1,RB h2]
theorem Lj {l l':Ln}(h:toT l=toT l'):l=l':=by
 unfold toT at h
 injection h with h1 h2
 injection h1 with h1
 injection h2 with h2
 injection h2 with h2
 exact Prod.ext h1 (RB h2)
theorem OT : ∀ (ls acc:List Ln),(ls.map toT).foldl uC (acc.map toT)=(ls.foldl fT acc).map toT
 | [],acc=>rfl
 | l::ls,acc=>by
  rw[fS,pX,pX,← OT ls]
  congr 1
  unfold uC fT
  by_cases h:l∈acc
  ·rw[if_pos h,if_pos (dP.mpr ⟨l,h,rfl⟩)]
  ·rw[if_neg h,if_neg (fun m=>by
    obtain⟨x,mx,e⟩:=dP.mp m
    exact h (Lj e ▸ mx)),oU]
   rfl
def lO (l:Ln):Prop:=fA (.str l.1)=true /\ ∀ k∈l.2,jO k
theorem Ni {l:Ln}(h:lO l):dC (toT l)=true/\bU (toT l)≤6:=by
 have h1:dC (l.2.map kD)=true:=OC fun t m=>by
  obtain⟨k,mk,rfl⟩:=dP.mp m
  have:=h.2 k mk
  cases k with
  | inl i=>rfl
  | inr z=>simpa [cC,kD,jO] using this
 have h2:=yK l.2
 constructor
 ·have:=h.1
  simp[toT,dC,cC,h1]
  exact this
 ·simp[toT,bU,cP]
  omega
theorem RL {ls:List Ln}(h : ∀ l∈ls,lO l)(hl:ls.length≤1000):pB [lsD ls]=some (lsD (dJ ls)):=by
 have e:=Lp (kss:=ls.map toT) (fun k m=>by
  obtain⟨l,ml,rfl⟩:=dP.mp m
  exact Ni (h l ml)) (by simp; omega)
 have e1:(ls.map toT).map gU=ls.map aX:=by rw[kO]; rfl
 have e2:(qH (ls.map toT)).map gU=(dJ ls).map aX:=by
  have:=OT ls []
  unfold qH dJ
  rw[show([]:List (List aA))=([]:List Ln).map toT from rfl,this,kO]
  rfl
 rw[e1,e2] at e
 exact e
noncomputable def iF (a b:aK):aK:=if isS b=true then b else a
noncomputable def iG (a b:aK):aK:=if isS b=true then a else b
theorem Rj (k:aK) : ∃ v,FJ (kD k)=some v:=by cases k <;> exact⟨_,rfl⟩
theorem MG {fk fv:EF}{ρ:List (Option aA)}{k v:aK}(h1:fk ρ=some (kD k))(h2:fv ρ=some (kD v)):eD1 fk fv ρ=some (.dict [(kD k,kD v)]):=by
 obtain⟨x,e⟩:=Rj v
 unfold eD1
 rw[h1,cM,Ach,cM,h2,cM,e]
 rfl
theorem PB {g kp k:aK}(h1:jO kp)(h2:jO k):jO (kA g kp k):=by
 unfold kA
 split
 ·exact h1
 ·exact h2
theorem Mg {hd:List aK}{ls:List Ln}(hh:hd.length≤1000)(hl:ls.length≤1000)(hw : ∀ l∈ls,l.2.length≤1000)(hy : ∀ l∈ls,lO l){a b:aK}(ha:jO a)(hb:jO b):zJ [aZ hd ls,kD a,kD b]=some (aZ (hd.map (kA (iF a b) (iG a b))) (dJ (ls.map (lM (iF a b) (iG a b))))):=by
 refine iV rfl ?_
 let A:L2.Slot:=s0 (aZ hd ls)
 have hk:jO (iG a b):=by unfold iG; split <;> assumption
 have e0:eIf (bOf (eUn (cT "str") (aB 2))) (eD1 (aB 2) (aB 1)) (eD1 (aB 1) (aB 2)) (vS [A,s0 (kD a),s0 (kD b),none])=some (.dict [(kD (iF a b),kD (iG a b))]):=by
  have et:bOf (eUn (cT "str") (aB 2)) (vS [A,s0 (kD a),s0 (kD b),none])=some (isS b):=cZ (sH (a:=kD b) rfl (Mh b))
  unfold eIf iF iG
  rw[et]
  cases isS b with
  | true=>exact MG (fk:=aB 2) (fv:=aB 1) (ρ:=vS [A,s0 (kD a),s0 (kD b),none]) (k:=b) (v:=a) rfl rfl
  | false=>exact MG (fk:=aB 1) (fv:=aB 2) (ρ:=vS [A,s0 (kD a),s0 (kD b),none]) (k:=a) (v:=b) rfl rfl
 refine cW (ρ':=[A,s0 (kD a),s0 (kD b),s0 (.dict [(kD (iF a b),kD (iG a b))])]) (fM (m:=.s) e0 (by simp)) ?_
 generalize iF a b=g
 generalize iG a b=kp at hk
 have o:=RL (ls:=ls.map (lM g kp)) (fun l m=>by
  obtain⟨x,mx,rfl⟩:=dP.mp m
  refine⟨(hy x mx).1,fun k mk=>?_⟩
  obtain⟨y,my,rfl⟩:=dP.mp mk
  exact PB hk ((hy x mx).2 y my)) (by simpa using hl)
 refine dH (d:=aZ (hd.map (kA g kp)) (dJ (ls.map (lM g kp)))) (jF (ds:=[tK (hd.map (kA g kp)),lsD (dJ (ls.map (lM g kp)))]) (aW (bI (ds:=[tK hd,.dict [(kD g,kD kp)]]) (aW (aN (a:=aZ hd ls) (b:=.int 0) rfl rfl rfl) rfl) (QK hh)) (aW (bI (ds:=[lsD (ls.map (lM g kp))]) (aW (bI (ds:=[lsD ls,.dict [(kD g,kD kp)]]) (aW (aN (a:=aZ hd ls) (b:=.int 1) rfl rfl rfl) rfl) (Iz hl hw)) rfl) o) rfl))) rfl
theorem GX (l l':Ln):bJ (aX l) (aX l')=decide (l=l'):=by
 have e1:=sW (.inr l.1) (.inr l'.1)
 have e1:bJ (.str l.1) (.str l'.1)=decide (l.1=l'.1):=e1.trans (by simp)
 have e2:=yZ l.2 l'.2
 have:bJ (aX l) (aX l')=(bJ (.str l.1) (.str l'.1)&&fQ (l.2.map kD) (l'.2.map kD)):=by
  simp[aX,bJ,fQ]
 rw[this,e1,e2,kQ]
 simp[Prod.ext_iff]
theorem xT (l:Ln):noDict (aX l)=true/\(aX l).depth≤5:=by
 have h1:=HP l.2
 have h2:=yK l.2
 constructor
 ·simp[aX,noDict,noDicts,h1]
 ·simp[aX,cP,bU]
  omega
noncomputable instance memLn (a:Ln)(xs:List Ln):Decidable (a∈xs):=Sz _
theorem Gj (neg:Bool)(l:Ln)(ls:List Ln):gIn neg (aX l) (.list (ls.map aX))=some (.bool (neg != decide (l∈ls))):=by
 have nd:noDicts (ls.map aX)=true:=qX fun t m=>by
  obtain⟨x,_,rfl⟩:=dP.mp m
  exact(xT x).1
 have eo:bN (aX l)=true:=by
  have:=xT l
  simp[bN,this.1]
  omega
 show(if (bN (aX l)&&noDicts (ls.map aX))=true then some (fV (neg != (ls.map aX).any fun z=>bJ z (aX l))) else none)=_
 rw[nd,eo,nZ,if_pos rfl]
 congr 3
 rw[EE,kQ,pY,decide_eq_true_eq]
 constructor
 ·rintro⟨x,mx,h⟩
  have h:bJ (aX x) (aX l)=true:=h
  rw[GX] at h
  exact of_decide_eq_true h ▸ mx
 ·intro m
  refine⟨l,m,?_⟩
  show bJ (aX l) (aX l)=true
  rw[GX]
  simp
noncomputable def nS (i:Nat):aE:=("n" : aE)++(toString (i:Int):aE)
theorem OR : ∀ i:Fin 200,(toString ((i.val:Nat):Int):aE).length≤4/\(nS i).length≤5/\fA (.str (toString ((i.val:Nat):Int)))=true/\fA (.str (nS i))=true/\((i.val:Nat):Int).natAbs.log2<1920:=by decide +kernel
theorem Oz:((cE 200).map nS).Nodup:=by decide +kernel
theorem QH {α β:Type}{f:α->β} : ∀ {xs:List α},(xs.map f).Nodup -> ∀ a∈xs,∀ b∈xs,f a=f b->a=b
 | [],_,a,ma,_,_,_=>by simp at ma
 | x::xs,h,a,ma,b,mb,e=>by
  rw[fS,mE] at h
  rcases fG.mp ma with ea | ma1
  ·rcases fG.mp mb with eb | mb1
   ·rw[ea,eb]
   ·exact absurd (dP.mpr ⟨b,mb1,by rw[← e,ea]⟩) h.1
  ·rcases fG.mp mb with eb | mb1
   ·exact absurd (dP.mpr ⟨a,ma1,by rw[e,eb]⟩) h.1
   ·exact QH h.2 a ma1 b mb1 e
theorem Ak {i j:Nat}(hi:i<200)(hj:j<200)(h:nS i=nS j):i=j:=QH Oz i (jA.mpr hi) j (jA.mpr hj) h
theorem Ep {P:Nat->Prop}[DecidablePred P]{ks:List aK}(h : ∀ i,¬ P i->iX (nS i)∈ks){n:Nat}(hn:ks.length+n<200):n≤((lF 1 (ks.length+n)).filter fun i=>decide (P i)).length:=by
 have h1:((lF 1 (ks.length+n)).filter fun i=>!decide (P i)).length≤ks.length:=by
  have:=VN (l₁:=((lF 1 (ks.length+n)).filter fun i=>!decide (P i)).map fun i=>(iX (nS i):aK)) (l₂:=ks) ?_ ?_
  ·simpa using this
  ·have nd:((lF 1 (ks.length+n)).filter fun i=>!decide (P i)).Nodup:=List.Pairwise.filter _ List.nodup_range'
   have hlt : ∀ i∈(lF 1 (ks.length+n)).filter fun i=>!decide (P i),i<200:=fun i m=>by
    have:=VD.mp (pV.mp m).1
    omega
   generalize((lF 1 (ks.length+n)).filter fun i=>!decide (P i))=L at nd hlt
   clear h hn
   induction L with
   | nil=>exact EB
   | cons x L ih=>
    rw[mE] at nd
    rw[fS,mE]
    refine⟨fun m=>?_,ih nd.2 fun i m=>hlt i (eR _ m)⟩
    obtain⟨y,my,e⟩:=dP.mp m
    have:=Ak (hlt y (eR _ my)) (hlt x dF) (JP e)
    exact nd.1 (this ▸ my)
  ·intro k m
   obtain⟨i,mi,rfl⟩:=dP.mp m
   have:=(pV.mp mi).2
   exact h i (by simpa using this)
 have h2 : ∀ L:List Nat,(L.filter fun i=>decide (P i)).length+(L.filter fun i=>!decide (P i)).length=L.length:=fun L=>by
  induction L with
  | nil=>rfl
  | cons x L ih=>
   rw[List.filter_cons,List.filter_cons]
   by_cases q:P x <;> simp[q] <;> omega
 have:=h2 (lF 1 (ks.length+n))
 rw[VE] at this
 omega
noncomputable def iU:List (Option aK)->List Nat->List aK
 | [],_=>[]
 | some k::r,ns=>k::iU r ns
 | none::r,n::ns=>.inr (nS n)::iU r ns
 | none::r,[]=>.inl 0::iU r []
noncomputable def mergeF {β:Type}(ps:List (Nat×β))(f:Nat->Option β):Nat->Option β:=ps.foldl (fun f p=>fun x=>if x=p.1 then some p.2 else f x) f
theorem HE {β:Type} : ∀ {ps:List (Nat×β)} {f:Nat->Option β} {x:Nat},(∀ p∈ps,p.1≠x)->mergeF ps f x=f x
 | [],_,_,_=>rfl
 | p::ps,f,x,h=>by
  show mergeF ps (fun x=>if x=p.1 then some p.2 else f x) x=_
  rw[HE fun q m=>h q (eR _ m),if_neg fun e=>h p dF e.symm]
noncomputable abbrev Ad2 (f:Nat->Option aK)(cs:List Nat):List Nat:=cs.filter fun c=>(f c).isNone
noncomputable abbrev nmK (ns:List Nat):List aK:=ns.map fun n=>.inr (nS n)
theorem HD : ∀ {cs:List Nat} {f:Nat->Option aK} {ns:List Nat},cs.Nodup->(Ad2 f cs).length≤ns.length->cs.map (mergeF ((Ad2 f cs).zip (nmK ns)) f)=(iU (cs.map f) ns).map some
 | [],_,_,_,_=>rfl
 | c::cs,f,ns,nd,h=>by
  rw[mE] at nd
  cases hf:f c with
  | some k=>
   have e:Ad2 f (c::cs)=Ad2 f cs:=by simp[Ad2,hf]
   rw[e] at h ⊢
   rw[fS,fS,hf,HD nd.2 h,HE,hf]
   ·rfl
   ·intro p m e
    have:=(pV.mp (AA m).1).1
    exact nd.1 (e ▸ this)
  | none=>
   have e:Ad2 f (c::cs)=c::Ad2 f cs:=by simp[Ad2,hf]
   rw[e] at h ⊢
   cases ns with
   | nil=>simp at h
   | cons n ns=>
    let g:Nat->Option aK:=fun x=>if x=c then some (.inr (nS n)) else f x
    have gf : ∀ x∈cs,g x=f x:=fun x m=>if_neg fun(e:x=c)=>nd.1 (e ▸ m)
    have e1:Ad2 g cs=Ad2 f cs:=List.filter_congr fun x m=>by rw[gf x m]
    have e2:cs.map g=cs.map f:=KA gf
    have ih:=HD (cs:=cs) (f:=g) (ns:=ns) nd.2 (by rw[e1]; simp at h; omega)
    rw[e1,e2] at ih
    have e3:mergeF ((c::Ad2 f cs).zip (nmK (n::ns))) f=mergeF ((Ad2 f cs).zip (nmK ns)) g:=rfl
    rw[e3,fS,fS,hf,ih,HE]
    ·simp[g,iU]
    ·intro p m e
     have:=(pV.mp (AA m).1).1
     exact nd.1 (e ▸ this)
theorem vG : ∀ (r:List (Option aK)) (ns:List Nat),(iU r ns).length=r.length
 | [],_=>rfl
 | some k::r,ns=>by simp[iU,vG r ns]
 | none::r,n::ns=>by simp[iU,vG r ns]
 | none::r,[]=>by simp[iU,vG r []]
noncomputable abbrev KB (ks:List aK):List (aA×aA):=ks.map fun k=>(kD k,fV true)
noncomputable abbrev KP (ks:List aK):List (aK×aA):=ks.map fun k=>(k,fV true)
theorem TZ (ks:List aK)(k:aK):((KB ks).any fun kd=>decide (cR kd.1=some k))=decide (k∈ks):=by
 rw[EE,kQ,pY,decide_eq_true_eq]
 constructor
 ·rintro⟨x,m,h⟩
  have h:cR (kD x)=some k:=by simpa using h
  rw[L2.Ach] at h
  exact gW h ▸ m
 ·exact fun m=>⟨k,m,by simp[L2.Ach]⟩
theorem Lw (ks:List aK)(k:aK):(dG (KB ks) k).isSome=decide (k∈ks):=by
 rw[← TZ]
 unfold dG
 rw[JS,kQ,List.find?_isSome,pY]
theorem Bp (ks:List aK)(k:aK):putD (KB ks) k (.bool true)=KB (fT ks k):=by
 unfold putD fT
 rw[TZ]
 by_cases h:k∈ks
 ·rw[if_pos (decide_eq_true h),if_pos h,kO]
  refine KA fun x m=>?_
  show(if cR (kD x)=some k then(kD x,fV true) else(kD x,fV true))=_
  split <;> rfl
 ·rw[if_neg (by simp[h]),if_neg h]
  exact(oU (f:=fun k=>(kD k,fV true)) (l₁:=ks) (l₂:=[k])).symm
theorem GE : ∀ (xs acc:List aK),gA (KP xs) (KB acc)=KB (xs.foldl fT acc)
 | [],_=>rfl
 | x::xs,acc=>by
  show gA (KP xs) (putD (KB acc) x (.bool true))=_
  rw[Bp,GE xs]
  rfl
theorem MN : ∀ xs:List aK,rW (xs.map fun k=>.tuple [kD k,.bool true])=some (KP xs)
 | []=>rfl
 | x::xs=>by
  show((cR (kD x)).bind fun k=>(rW (xs.map fun k=>.tuple [kD k,.bool true])).bind fun ps=>some ((k,fV true)::ps))=_
  rw[L2.Ach,MN xs]
  rfl
theorem MT : ∀ xs:List aK,mW (KB xs)=some (KP xs)
 | []=>rfl
 | x::xs=>by
  show((cR (kD x)).bind fun k=>(mW (KB xs)).bind fun ps=>some ((k,fV true)::ps))=_
  rw[L2.Ach,MT xs]
  rfl
theorem EZ (ks:List aK):plK (KB ks)=true:=by
 cases ks with
 | nil=>rfl
 | cons k ks=>cases k <;> rfl
theorem ML {xs:List aK}{fi:AF}{ρ:List (Option aA)}(h:fi ρ=some (xs.map kD))(hl:xs.length≤1000) :
  aQ xP (aF (eLC [none] fi (gB 0) cJ (cF (aF (aB 0) (aF (eC (.bool true)) aI)))) aI) ρ=some (.dict (KB (dJ xs))):=by
 have lc:=lW (cap:=[none]) (fi:=fi) (T:=gB 0) (t:=cJ) (f:=cF (aF (aB 0) (aF (eC (.bool true)) aI))) (ρ:=ρ) (xs:=xs) (q:=kD) (fun _=>true) (fun k=>.tuple [kD k,.bool true]) h (by omega) (fun k m=>⟨[some (kD k)],rfl,rfl,fun _=>jF (ds:=[kD k,.bool true]) rfl⟩)
 rw[tV.mpr (by simp)] at lc
 refine bI (aW lc rfl) ?_
 show((rW (xs.map fun k=>.tuple [kD k,.bool true])).bind fun ps=>some (PyData.dict (gA ps [])))=_
 rw[MN,cM,show([]:List (aA×aA))=KB [] from rfl,GE]
 rfl
theorem Bk {ρ:bD}{P:Out->Prop}{i:Nat}{f:EF}{ks acc:List aK}(h:f (vS ρ)=some (.dict (KB ks)))(hg:dQ i ρ=some (KB acc))(hl:acc.length+ks.length≤1000)(k:P (.nx (ρ.set i (some (1,.dict (KB (ks.foldl fT acc))))))):Goes (uH i .s f) ρ P:=⟨_,by
 unfold uH
 rw[show eV 0 .s f ρ=f (vS ρ) from rfl,h,cM,hg,cM]
 show((mW (KB ks)).bind fun ps=>if plK (KB ks)=true/\(KB acc).length+(KB ks).length≤sizeLine then some (Out.nx (ρ.set i (some (1,.dict (gA ps (KB acc)))))) else none)=_
 rw[MT,cM,if_pos ⟨EZ ks,by rw[gM,gM]; exact jT (by omega)⟩,GE],k⟩
theorem WY {f:EF}{ρ:List (Option aA)}{i:Nat}(h:f ρ=some (.int i))(hi:i<200):eFs "n" f ρ=some (.str (nS i)):=by
 obtain⟨h1,h2,h3,h4,h5⟩:=OR ⟨i,hi⟩
 unfold eFs
 rw[h,cM]
 show(if ((i:Nat):Int).natAbs.log2<1920/\(("n" : aE)++(toString ((i:Nat):Int):aE)).length≤1000/\fA (.str (("n" : aE)++(toString ((i:Nat):Int):aE)))=true then some (kM (("n" : aE)++(toString ((i:Nat):Int):aE))) else none)=_
 have h2':(nS i).length≤5:=h2
 rw[if_pos ⟨h5,by show(nS i).length≤1000; omega,h4⟩]
 rfl
noncomputable def frees (tk:List aK)(n:Nat):List Nat:=(lF 1 (tk.length+n)).filter fun i=>decide (¬ iX (nS i)∈tk)
noncomputable abbrev lK (ks:List aK):aA:=.list (ks.map kD)
theorem QL (ks:List aK)(m:Nat):cutD (ks.map kD) none (some (m:Int))=(ks.take m).map kD:=by rw[YY,JZ]
theorem Je {hd:List aK}{ls:List Ln}(hh:hd.length≤4)(h6 : ∀ l∈ls,l.2.length≤3)(h10:ls.length≤24) : ∃ tk:List aK,(∀ k,k∈tk↔k∈hd \/ ∃ l∈ls,k∈l.2)/\tk.length≤76 /\ ∀ n:Nat,n≤6->rA [aZ hd ls,.int n]=some (lK (nmK ((frees tk n).take n))):=by
 let st:List aK->Ln->List aK:=fun acc l=>(dJ l.2).foldl fT acc
 have hmem : ∀ (xs:List Ln) (acc:List aK) (k:aK),k∈xs.foldl st acc↔k∈acc \/ ∃ l∈xs,k∈l.2:=fun xs=>by
  induction xs with
  | nil=>intro acc k; simp
  | cons x xs ih=>
   intro acc k
   rw[pX,ih]
   show k∈(dJ x.2).foldl fT acc \/ _↔_
   rw[GS,Ad6]
   simp[or_assoc]
 have hlen : ∀ (xs:List Ln) (acc:List aK),(∀ l∈xs,l.2.length≤3)->(xs.foldl st acc).length≤acc.length+3*xs.length:=fun xs=>by
  induction xs with
  | nil=>intro acc _; simp
  | cons x xs ih=>
   intro acc hx
   rw[pX]
   have h1:=ih (st acc x) fun l m=>hx l (eR _ m)
   have h2:=oH (dJ x.2) acc
   have h3:=oH x.2 []
   have h4:=hx x dF
   have h5:(st acc x).length=((dJ x.2).foldl fT acc).length:=rfl
   have h6:(dJ x.2).length=(x.2.foldl fT []).length:=rfl
   rw[mF]
   simp at h3
   omega
 have h0:(dJ hd).length≤4:=by
  have:=oH hd []
  have e:(dJ hd).length=(hd.foldl fT []).length:=rfl
  simp at this
  omega
 refine⟨ls.foldl st (dJ hd),fun k=>by rw[hmem,Ad6],by have:=hlen ls (dJ hd) h6; omega,fun n hn=>?_⟩
 have hK:=hlen ls (dJ hd) h6
 have goal : ∀ tk,tk=ls.foldl st (dJ hd)->Goes SB [s0 (aZ hd ls),s0 (.int n),none,none,none] fun o=>o = .rt (lK (nmK ((frees tk n).take n))):=fun tk htk=>by
  let A:L2.Slot:=s0 (aZ hd ls)
  let M:L2.Slot:=s0 (.int n)
  refine eJ (n:=1) (ML (xs:=hd) (ρ:=vS [A,M,none,none,none]) (mM (aN (a:=aZ hd ls) (b:=.int 0) rfl rfl rfl)) (by omega)) (by simp) ?_
  refine hG (fun ρ'=>∃ x3:L2.Slot,ρ'=[A,M,some (1,.dict (KB tk)),x3,none]) ?_ ?_
  ·refine UE (xs:=ls) (q:=aX) (b0:=dJ hd) st (fun m acc ρ'=>∃ x3:L2.Slot,acc.length≤4+3*m/\ρ'=[A,M,some (1,.dict (KB acc)),x3,none]) (avS (mM (aN (a:=aZ hd ls) (b:=.int 1) rfl rfl rfl))) ⟨none,by omega,rfl⟩ ?_ ?_
   ·rintro m l acc _ hx ⟨x3,hacc,rfl⟩
    have hm:m<ls.length:=(gE.mp hx).1
    have ml:=mU hx
    refine⟨[A,M,some (1,.dict (KB acc)),s0 (aX l),none],rfl,?_⟩
    have hl6:=h6 l ml
    have hl:(dJ l.2).length≤3:=by
     have h3:=oH l.2 []
     have e:(dJ l.2).length=(l.2.foldl fT []).length:=rfl
     simp at h3
     omega
    have h2:=oH (dJ l.2) acc
    have h5:(st acc l).length=((dJ l.2).foldl fT acc).length:=rfl
    exact Bk (ML (xs:=l.2) (ρ:=vS [A,M,some (1,.dict (KB acc)),s0 (aX l),none]) (mM (aN (a:=aX l) (b:=.int 1) rfl rfl rfl)) (by omega)) rfl (by omega) ⟨_,.inl rfl,s0 (aX l),by omega,rfl⟩
   ·rintro _ ⟨x3,_,rfl⟩
    exact⟨_,rfl,x3,by rw[htk]⟩
  rintro _ ⟨x3,rfl⟩
  refine jQ ?_
  have hk64:tk.length≤76:=by rw[htk]; omega
  let D:L2.Slot:=s0 (.dict (KB tk))
  have up:qK 1 (tk.length+n+1)=lF 1 (tk.length+n):=by
   unfold qK
   rw[List.range'_eq_map_range,Nat.add_sub_cancel]
  have ir:=TQ (fa:=aF (eC (.int 1)) (aF (eOp bQ (eOp bQ (aQ bH (aF (aB 2) aI)) (aB 1)) (eC (.int 1))) aI)) (ρ:=vS [A,M,D,x3,none]) (lo:=1) (n:=tk.length+n+1) (aW (d:=.int ((1:Nat):Int)) rfl (aW (aN (a:=.int ((tk.length+n:Nat):Int)) (b:=.int 1) (aN (a:=.int tk.length) (b:=.int n) (bI (ds:=[.dict (KB tk)]) rfl (by simp[bH,EZ])) rfl rfl) rfl rfl) rfl)) (by omega) (by omega)
  rw[up] at ir
  have lc1:=lW (cap:=[none]) (fi:=iR2 (aF (eC (.int 1)) (aF (eOp bQ (eOp bQ (aQ bH (aF (aB 2) aI)) (aB 1)) (eC (.int 1))) aI))) (T:=gB 0) (t:=cJ) (f:=eFs "n" (aB 0)) (ρ:=vS [A,M,D,x3,none]) (xs:=lF 1 (tk.length+n)) (q:=fun(k:Nat)=>bT k) (fun _=>true) (fun i=>.str (nS i)) ir (by rw[VE]; omega) (fun i m=>⟨[some (.int i)],rfl,rfl,fun _=>WY (i:=i) rfl (by have:=VD.mp m; omega)⟩)
  rw[show(lF 1 (tk.length+n)).filter (fun _=>true)=lF 1 (tk.length+n) from tV.mpr (fun _ _=>rfl)] at lc1
  let NM:L2.Slot:=s0 (.list ((lF 1 (tk.length+n)).map fun i=>.str (nS i)))
  refine eJ (ρ:=[A,M,D,x3,none]) (n:=1) lc1 (by simp) (jQ ?_)
  have lc2:=lW (cap:=[none,some 2]) (fi:=iIt (aB 4)) (T:=gB 0) (t:=bOf (eOp (gIn true) (aB 0) (aB 1))) (f:=aB 0) (ρ:=vS [A,M,D,x3,NM]) (xs:=lF 1 (tk.length+n)) (q:=fun i=>.str (nS i)) (fun i=>decide (¬ iX (nS i)∈tk)) (fun i=>kD (.inr (nS i))) (BP rfl) (by rw[VE]; omega) (fun i m=>⟨[some (.str (nS i)),some (.dict (KB tk))],rfl,cZ (aN (a:=.str (nS i)) (b:=.dict (KB tk)) rfl rfl (by
   rw[BQ,if_pos (EZ tk)]
   show some (fV (true != (dG (KB tk) (.inr (nS i))).isSome))=_
   rw[Lw]
   simp)),fun _=>rfl⟩)
  have e3:((lF 1 (tk.length+n)).filter fun i=>decide (¬ iX (nS i)∈tk)).map (fun i=>kD (.inr (nS i)))=(nmK (frees tk n)).map kD:=by
   rw[kO]
   rfl
  rw[e3] at lc2
  have sl:=AZ lc2 (lo:=oN) (hi:=oS (aB 1)) (l:=none) rfl (IJ (i:=(n:Int)) rfl)
  rw[QL] at sl
  refine dH sl ?_
  rw[← JZ]
 have:=goal _ rfl
 exact iV rfl this
theorem Ou (kds:List (aA×aA))(k k':aK)(v:aA):dG (putD kds k v) k'=if k'=k then some v else dG kds k':=by
 unfold putD
 by_cases h:(kds.any fun kd=>decide (cR kd.1=some k))=true
 ·rw[if_pos h]
  unfold dG
  rw[List.find?_map]
  have hp:((fun kd:aA×aA=>decide (cR kd.1=some k'))∘fun kd=>if cR kd.1=some k then(kd.1,v) else kd)=fun kd=>decide (cR kd.1=some k'):=by
   funext kd
   show decide (cR (if cR kd.1=some k then(kd.1,v) else kd).1=some k')=_
   split <;> rfl
  rw[hp]
  by_cases e:k'=k
  ·subst e
   rw[if_pos rfl]
   obtain⟨kd,m,hk⟩:=pY.mp h
   cases hf:kds.find? fun kd=>decide (cR kd.1=some k') with
   | none=>exact absurd hk (by simpa using VI.mp hf kd m)
   | some q=>
    have:=List.find?_some hf
    have:=of_decide_eq_true this
    simp[this]
  ·rw[if_neg e]
   cases hf:kds.find? fun kd=>decide (cR kd.1=some k') with
   | none=>rfl
   | some q=>
    have:=List.find?_some hf
    have:=of_decide_eq_true this
    simp[this,e]
 ·rw[if_neg h]
  unfold dG
  rw[List.find?_append]
  by_cases e:k'=k
  ·subst e
   have hf:(kds.find? fun kd=>decide (cR kd.1=some k'))=none:=VI.mpr fun kd m q=>h (pY.mpr ⟨kd,m,q⟩)
   rw[hf,if_pos rfl]
   simp[L2.Ach]
  ·rw[if_neg e]
   cases hf:kds.find? fun kd=>decide (cR kd.1=some k') with
   | none=>simp[L2.Ach,mR e]
   | some q=>rfl
noncomputable abbrev iK (x:Nat):aK:=.inl (x:Int)
noncomputable abbrev kz (d:List Nat)(vs:List aA):List (aK×aA):=(d.map iK).zip vs
theorem FW : ∀ (d:List Nat) (vs:List aA) (kds:List (aA×aA)) (x:Nat),dG (gA (kz d vs) kds) (iK x)=mergeF (d.zip vs) (fun y=>dG kds (iK y)) x
 | [],_,_,_=>rfl
 | _::_,[],_,_=>rfl
 | c::d,v::vs,kds,x=>by
  show dG (gA (kz d vs) (putD kds (iK c) v)) (iK x)=mergeF (d.zip vs) (fun y=>if y=c then some v else dG kds (iK y)) x
  rw[FW d vs]
  congr 1
  funext y
  rw[Ou]
  have:iK y=iK c↔y=c:=⟨fun e=>by have:=Sum.inl.inj e; omega,fun e=>by rw[e]⟩
  simp only[this]
theorem HL {α β:Type}(g:α->β) : ∀ (ps:List Nat) (vs:List α) (f:Nat->Option α) (x:Nat),mergeF (ps.zip (vs.map g)) (fun y=>(f y).map g) x=(mergeF (ps.zip vs) f x).map g
 | [],_,_,_=>rfl
 | _::_,[],_,_=>rfl
 | c::d,v::vs,f,x=>by
  show mergeF (d.zip (vs.map g)) (fun y=>if y=c then some (g v) else(f y).map g) x=(mergeF (d.zip vs) (fun y=>if y=c then some v else f y) x).map g
  rw[← HL g d vs]
  congr 1
  funext y
  split <;> rfl
theorem Br {kds:List (aA×aA)}(h : ∀ kd∈kds,kd.1 ≠ .none)(k:aK)(v:aA) : ∀ kd∈putD kds k v,kd.1 ≠ .none:=by
 unfold putD
 split
 ·intro kd m
  obtain⟨q,mq,rfl⟩:=dP.mp m
  split
  ·exact h q mq
  ·exact h q mq
 ·intro kd m
  rcases jB.mp m with m | m
  ·exact h kd m
  ·rw[fL.mp m]
   cases k <;> simp[kD]
theorem GJ : ∀ (ps:List (aK×aA)) {kds:List (aA×aA)},(∀ kd∈kds,kd.1 ≠ .none) -> ∀ kd∈gA ps kds,kd.1 ≠ .none
 | [],_,h=>h
 | p::ps,_,h=>GJ ps (Br h p.1 p.2)
theorem MJ {kds:List (aA×aA)}(h : ∀ kd∈kds,kd.1 ≠ .none):plK kds=true:=by
 cases kds with
 | nil=>rfl
 | cons p r=>
  obtain⟨k,v⟩:=p
  have:=h _ dF
  cases k <;> simp_all[plK]
theorem RX : ∀ (ps:List (aK×aA)) (acc:List (aA×aA)),(ps.map (·.1)).Nodup->(∀ p∈ps,∀ kd∈acc,cR kd.1≠some p.1)->gA ps acc=acc++ps.map fun p=>(kD p.1,p.2)
 | [],acc,_,_=>by simp[gA]
 | p::ps,acc,nd,h=>by
  rw[fS,mE] at nd
  have e:putD acc p.1 p.2=acc++[(kD p.1,p.2)]:=by
   unfold putD
   rw[if_neg]
   intro q
   obtain⟨kd,m,hk⟩:=pY.mp q
   exact h p dF kd m (of_decide_eq_true hk)
  show gA ps (putD acc p.1 p.2)=_
  rw[e,RX ps _ nd.2]
  ·simp
  ·intro q mq kd m
   rcases jB.mp m with m | m
   ·exact h q (eR _ mq) kd m
   ·rw[fL.mp m]
    show cR (kD p.1)≠_
    rw[L2.Ach]
    exact fun e=>nd.1 (dP.mpr ⟨q,mq,(gW e).symm⟩)
theorem OD : ∀ ps:List (aK×aA),mW (ps.map fun p=>(kD p.1,p.2))=some ps
 | []=>rfl
 | p::ps=>by
  show((cR (kD p.1)).bind fun k=>(mW (ps.map fun p=>(kD p.1,p.2))).bind fun qs=>some ((k,p.2)::qs))=_
  rw[L2.Ach,OD ps]
  rfl
theorem OE : ∀ d:List Nat,tL (d.map fun(c:Nat)=>bT c)=some (d.map iK)
 | []=>rfl
 | c::d=>by
  show((cR (.int c)).bind fun k=>(tL (d.map fun(c:Nat)=>bT c)).bind fun ks=>some (k::ks))=_
  rw[OE d]
  rfl
theorem PH {x y:aA}{d:List Nat}{vs:List aA}(hx:oY x=some (d.map fun(c:Nat)=>bT c))(hy:oY y=some vs)(hl:d.length≤1000):sJ [x,y]=some (.dict (gA (kz d vs) [])):=by
 show((oY x).bind fun xs=>(oY y).bind fun ys=>(tL xs).bind fun ks=>if xs.length≤sizeLine then some (PyData.dict (gA (ks.zip ys) [])) else none)=_
 rw[hx,hy,cM,cM,OE,cM,if_pos (jT (by simp; omega))]
theorem Gd (ps:List (aK×aA)) : ∀ kds:List (aA×aA),(gA ps kds).length≤kds.length+ps.length:=by
 induction ps with
 | nil=>exact fun kds=>dA _
 | cons p ps ih=>
  intro kds
  have h1:=ih (putD kds p.1 p.2)
  have h2:(putD kds p.1 p.2).length≤kds.length+1:=by
   unfold putD
   split <;> simp
  show(gA ps (putD kds p.1 p.2)).length≤_
  rw[mF]
  omega
noncomputable abbrev rF (ks:List aK)(c d:List Nat):Nat->Option aK:=mergeF (d.zip (pick ks c)) fun _=>none
theorem map_getD {α:Type}(z:α) : ∀ R:List α,(cE R.length).map (fun x=>R.getD x z)=R:=fun R=>by
 refine List.ext_getElem? fun i=>?_
 rw[gN]
 by_cases h:i<R.length
 ·rw[wL h,iO h]
  simp[h]
 ·rw[List.getElem?_eq_none (by simp; omega),List.getElem?_eq_none (by omega)]
  rfl
theorem Jr {hd:List aK}{ls:List Ln}{t o:aE}{c d:List Nat}{w:Nat}{l:Ln}{tk:List aK}{nums:List Nat}(hc : ∀ x∈c,x<l.2.length)(hcl:c.length≤1000)(hdl:d.length≤1000)(hw:w≤6)(h10:ls.length≤24)
  (hn:nums.length=(Ad2 (rF l.2 c d) (cE w)).length) (hN:rA [aZ hd ls,.int (Ad2 (rF l.2 c d) (cE w)).length]=some (lK (nmK nums))) :
  yY [aZ hd ls,bR (.pts t c o d w),aX l]=some (aZ hd (ls++[(o,iU ((cE w).map (rF l.2 c d)) nums)])):=by
 refine iV rfl ?_
 generalize hfr:Ad2 (rF l.2 c d) (cE w)=fr at hn hN
 generalize hf:rF l.2 c d=f at hfr
 let A:L2.Slot:=s0 (aZ hd ls)
 let R:L2.Slot:=s0 (bR (.pts t c o d w))
 let L:L2.Slot:=s0 (aX l)
 let DD:List (aA×aA):=gA (kz d ((pick l.2 c).map kD)) []
 have lookDD : ∀ x:Nat,dG DD (iK x)=(f x).map kD:=fun x=>by
  rw[← hf]
  show dG (gA (kz d ((pick l.2 c).map kD)) []) (iK x)=_
  rw[FW]
  exact HL kD d (pick l.2 c) (fun _=>none) x
 have plDD:plK DD=true:=MJ (GJ _ fun _ m=>by simp at m)
 have lenDD:DD.length≤1000:=by
  show(gA (kz d ((pick l.2 c).map kD)) []).length≤1000
  have:=Gd (kz d ((pick l.2 c).map kD)) []
  have h2:(kz d ((pick l.2 c).map kD)).length≤d.length:=by
   rw[List.length_zip,gM]
   exact Nat.min_le_left _ _
  simp only[VF,Nat.zero_add] at this
  omega
 refine eJ (n:=1) (d:=.dict DD) (bI (ds:=[tN d,tK (pick l.2 c)]) (aW (aN (a:=bR (.pts t c o d w)) (b:=.int 4) rfl rfl rfl) (aW (bI (ds:=[tK l.2,tN c]) rfl (yF hc hcl)) rfl)) (PH rfl rfl hdl)) (by simp) ?_
 let ρ1:bD:=[A,R,L,some (1,.dict DD),none,none]
 have iw : ∀ σ:List (Option aA),σ[1]?=some (some (bR (.pts t c o d w)))->iR1 (aF (eOp gIx (aB 1) (eC (.int 5))) aI) σ=some ((cE w).map fun(k:Nat)=>bT k):=fun σ h=>oF (aW (aN (a:=bR (.pts t c o d w)) (b:=.int 5) (by unfold aB; rw[h]; rfl) rfl rfl) rfl) (by omega)
 have lc:=lW (cap:=[none,some 3]) (fi:=iR1 (aF (eOp gIx (aB 1) (eC (.int 5))) aI)) (T:=gB 0) (t:=bOf (eOp (gIn true) (aB 0) (aB 1))) (f:=aB 0) (ρ:=vA ρ1) (xs:=cE w) (q:=fun(k:Nat)=>bT k) (fun x=>(f x).isNone) (fun(x:Nat)=>bT x) (iw _ rfl) (by simp; omega) (fun x m=>⟨[some (.int x),some (.dict DD)],rfl,cZ (aN (a:=.int x) (b:=.dict DD) rfl rfl (by
  rw[BQ,if_pos plDD]
  show some (fV (true != (dG DD (iK x)).isSome))=_
  rw[lookDD]
  cases f x <;> rfl)),fun _=>rfl⟩)
 have efr:(cE w).filter (fun x=>(f x).isNone)=fr:=hfr
 rw[efr] at lc
 have hfl:cS 1 (lN fr)=true:=by
  show(fr.map fun(c:Nat)=>bT c).all (cS 0)=true
  rw[AD]
  exact oV.mpr fun _ _=>rfl
 refine cW (ρ':=[A,R,L,some (1,.dict DD),some (1,lN fr),none]) (fM (m:=.a) (n:=1) (evA lc hfl) (by simp)) ?_
 refine jQ ?_
 let ρ2:bD:=[A,R,L,some (1,.dict DD),s0 (lN fr),none]
 show Goes _ ρ2 _
 have hfrl:fr.length≤6:=by
  rw[← hfr]
  exact jW (VG _ _) (by simpa using hw)
 have nd:(fr.map iK).Nodup:=by
  have h1:fr.Nodup:=by rw[← hfr]; exact List.Pairwise.filter _ List.nodup_range
  refine(List.pairwise_map).mpr (h1.imp fun h e=>h ?_)
  have:=Sum.inl.inj e
  omega
 have hm:(kz fr ((nmK nums).map kD)).map (·.1)=fr.map iK:=List.map_fst_zip (by simp; omega)
 have eE:gA (kz fr ((nmK nums).map kD)) []=(kz fr ((nmK nums).map kD)).map fun p=>(kD p.1,p.2):=by
  rw[RX _ [] (by rw[hm]; exact nd) fun _ _ _ m=>by simp at m]
  simp
 have u1:aQ sJ (aF (aB 4) (aF (aQ rA (aF (aB 0) (aF (aQ bH (aF (aB 4) aI)) aI))) aI)) (vS ρ2)=some (.dict ((kz fr ((nmK nums).map kD)).map fun p=>(kD p.1,p.2))):=by
  rw[← eE]
  exact bI (ds:=[lN fr,lK (nmK nums)]) (aW rfl (aW (bI (ds:=[aZ hd ls,.int fr.length]) (aW rfl (aW (bI (ds:=[lN fr]) rfl (by simp[bH])) rfl)) hN) rfl)) (PH rfl rfl (by omega))
 let D2:List (aA×aA):=gA (kz fr ((nmK nums).map kD)) DD
 refine cW (ρ':=[A,R,L,some (1,.dict D2),s0 (lN fr),none]) (by
  unfold uH
  rw[show eV 0 .s (aQ sJ (aF (aB 4) (aF (aQ rA (aF (aB 0) (aF (aQ bH (aF (aB 4) aI)) aI))) aI))) ρ2=some (.dict ((kz fr ((nmK nums).map kD)).map fun p=>(kD p.1,p.2))) from u1,cM,show dQ 3 ρ2=some DD from rfl,cM]
  show((mW ((kz fr ((nmK nums).map kD)).map fun p=>(kD p.1,p.2))).bind fun ps=>if plK ((kz fr ((nmK nums).map kD)).map fun p=>(kD p.1,p.2))=true/\DD.length+((kz fr ((nmK nums).map kD)).map fun p=>(kD p.1,p.2)).length≤sizeLine then some (Out.nx (ρ2.set 3 (some (1,.dict (gA ps DD))))) else none)=_
  rw[OD,cM,if_pos ⟨by rw[← eE]; exact MJ (GJ _ fun _ m=>by simp at m),by
   rw[gM,List.length_zip,gM]
   exact jT (by have:=Nat.min_le_left fr.length ((nmK nums).map kD).length; omega)⟩]
  rfl) ?_
 refine jQ ?_
 let ρ3:bD:=[A,R,L,s0 (.dict D2),s0 (lN fr),none]
 show Goes _ ρ3 _
 have look2 : ∀ x:Nat,dG D2 (iK x)=(mergeF (fr.zip (nmK nums)) f x).map kD:=fun x=>by
  show dG (gA (kz fr ((nmK nums).map kD)) DD) (iK x)=_
  rw[FW,show(fun y=>dG DD (iK y))=fun y=>(f y).map kD from funext lookDD]
  exact HL kD fr (nmK nums) f x
 let Rw:List aK:=iU ((cE w).map f) nums
 have hRl:Rw.length=w:=by
  show(iU ((cE w).map f) nums).length=w
  rw[vG]
  simp
 have hfm:=HD (cs:=cE w) (f:=f) (ns:=nums) List.nodup_range (by rw[show Ad2 f (cE w)=fr from hfr,hn]; exact dA _)
 rw[show Ad2 f (cE w)=fr from hfr] at hfm
 have lc3:=lW (cap:=[none,some 3]) (fi:=iR1 (aF (eOp gIx (aB 1) (eC (.int 5))) aI)) (T:=gB 0) (t:=cJ) (f:=eOp gIx (aB 1) (aB 0)) (ρ:=vS ρ3) (xs:=cE w) (q:=fun(k:Nat)=>bT k) (fun _=>true) (fun x=>kD (Rw.getD x (.inl 0))) (iw _ rfl) (by simp; omega) (fun x m=>⟨[some (.int x),some (.dict D2)],rfl,rfl,fun _=>aN (a:=.dict D2) (b:=.int x) rfl rfl (by
  show dG D2 (iK x)=_
  have hx:x<w:=jA.mp m
  have h1:=congrArg (fun L=>L[x]?) hfm
  simp only[gN,wL hx,rP] at h1
  have h2:Rw[x]?=some (Rw.getD x (.inl 0)):=getD_some _ (by omega)
  rw[show iU ((cE w).map f) nums=Rw from rfl,h2] at h1
  rw[look2,gW h1]
  rfl)⟩)
 rw[show(cE w).filter (fun _=>true)=cE w from tV.mpr (fun _ _=>rfl)] at lc3
 have e5:(cE w).map (fun x=>kD (Rw.getD x (.inl 0)))=Rw.map kD:=by
  have:=congrArg (List.map kD) (map_getD (.inl 0:aK) Rw)
  rw[hRl,kO] at this
  exact this
 rw[e5] at lc3
 refine eJ (d:=aX (o,Rw)) (jF (ds:=[.str o,tK Rw]) (aW (aN (a:=bR (.pts t c o d w)) (b:=.int 3) rfl rfl rfl) (aW (bI (aW lc3 rfl) rfl) rfl))) (by simp[ρ3]) ?_
 refine dH (d:=aZ hd (ls++[(o,Rw)])) ?_ rfl
 refine(jF (ds:=[tK hd,.tuple (ls.map aX++[aX (o,Rw)])]) (aW (aN (a:=aZ hd ls) (b:=.int 0) rfl rfl rfl) (aW (aN (a:=lsD ls) (b:=.tuple [aX (o,Rw)]) (aN (a:=aZ hd ls) (b:=.int 1) rfl rfl rfl) (jF (ds:=[aX (o,Rw)]) rfl) (Nu (by simp; omega))) rfl))).trans ?_
 show _=some (gU [tK hd,.tuple ((ls++[(o,Rw)]).map aX)])
 rw[oU]
 rfl
noncomputable abbrev gY (ls:List Ln)(i c:Nat):aK:=(ls.getD i lnD).2.getD c (.inl 0)
noncomputable abbrev LU (hd:List aK)(a b:aK):List aK:=hd.map (kA (iF a b) (iG a b))
noncomputable abbrev MK (ls:List Ln)(a b:aK):List Ln:=dJ (ls.map (lM (iF a b) (iG a b)))
noncomputable def uI (hd:List aK)(ls:List Ln)(w:aE)(i j c:Nat):aA:=if w = "clash" then aZ hd ls else aZ (LU hd (gY ls i c) (gY ls j c)) (MK ls (gY ls i c) (gY ls j c))
structure Now (wd:aE->Nat)(hd:List aK)(ls:List Ln):Prop where
 lw : ∀ l∈ls,iC wd l
 six : ∀ l∈ls,l.2.length≤3
 few:ls.length≤24
 lay : ∀ l∈ls,lO l
 hd4:hd.length≤4
def WW (wd:aE->Nat):Rl->Prop
 | .key _ _=>True
 | .pts _ _ o _ w=>w=wd o/\w≤3/\fA (.str o)=true
def RlK (wd:aE->Nat)(r:Rl):Prop:=oE wd r/\rlC r/\WW wd r
noncomputable def lU (ls:List Ln)(rs:List Rl)(n i:Nat):Bool:=decide (n<rs.length)&&(decide (i<ls.length)&&oM ls (ls.getD i lnD) (rs.getD n rlD))
theorem HS {wd:aE->Nat}{hd:List aK}{ls:List Ln}(W:Now wd hd ls){rs:List Rl}{w:aE}{n i j c:Nat}(h:kE ls rs w n i j c=true):i<j/\j<ls.length/\c<(ls.getD i lnD).2.length/\c<(ls.getD j lnD).2.length/\w=mI (gY ls i c) (gY ls j c):=by
 unfold kE at h
 rw[hW] at h
 generalize rs.getD n rlD=r at h
 cases r with
 | pts t cs o d wd=>cases h.2
 | key t cs=>
  have h2:(decide (i<j)&&decide (j<ls.length)&&iP t cs (ls.getD i lnD) (ls.getD j lnD)&&decide (c∈unl (ls.getD i lnD).2 (ls.getD j lnD).2)&&decide (w=mI (gY ls i c) (gY ls j c)))=true:=h.2
  rw[hW,hW,hW,hW] at h2
  obtain⟨⟨⟨⟨h1,h3⟩,h4⟩,h5⟩,h6⟩:=h2
  have h1:=of_decide_eq_true h1
  have h3:=of_decide_eq_true h3
  have h5:=of_decide_eq_true h5
  have hlen:=BR (W.lw _ (getD_mem lnD (show i<ls.length by omega))) (W.lw _ (getD_mem lnD h3)) h4
  have hc:=FA h5
  exact⟨h1,h3,hc,by omega,of_decide_eq_true h6⟩
theorem xI {wd:aE->Nat}{hd:List aK}{ls:List Ln}(W:Now wd hd ls){i c:Nat}(hi:i<ls.length)(hc:c<(ls.getD i lnD).2.length):jO (gY ls i c):=(W.lay _ (getD_mem lnD hi)).2 _ (getD_mem _ hc)
theorem Fq {wd:aE->Nat}{hd:List aK}{ls:List Ln}(W:Now wd hd ls){rs:List Rl}(hr : ∀ r∈rs,oE wd r/\rlC r){w:aE}{n i j c:Nat}(h:kE ls rs w n i j c=true):kZ [aZ hd ls,st5 w n i j c,rsD rs]=some (uI hd ls w i j c):=by
 obtain⟨h1,h2,h3,h4,h5⟩:=HS W h
 have hwd:w = "same" \/ w = "clash":=by
  rw[h5]
  unfold mI
  split
  ·exact .inl rfl
  ·exact .inr rfl
 have hright:=Qi W.lw (fun l m=>by have:=W.six l m; omega) (by have:=W.few; omega) hr hwd n i j c
 rw[h] at hright
 refine iV rfl ?_
 let A:L2.Slot:=s0 (aZ hd ls)
 let ST:L2.Slot:=s0 (st5 w n i j c)
 let RS:L2.Slot:=s0 (rsD rs)
 let R:bD:=[A,ST,RS,s0 (lsD ls)]
 refine cW (ρ':=R) (fM (m:=.s) (aN (a:=aZ hd ls) (b:=.int 1) rfl rfl rfl) (by simp)) ?_
 refine cW (ρ':=R) (gZ (jH (x:=true) (bI (ds:=[lsD ls,st5 w n i j c,rsD rs]) rfl hright))) ?_
 have i0:eOp gIx (aB 1) (eC (.int 0)) (vS R)=some (.str w):=aN (a:=st5 w n i j c) (b:=.int 0) rfl rfl rfl
 refine uJ (cZ (aN (b:=.str "clash") i0 rfl (iD _ _))) (fun q=>?_) (fun q=>?_)
 ·refine dH (d:=aZ hd ls) rfl ⟨_,rfl,?_⟩
  unfold uI
  rw[if_pos (of_decide_eq_true q)]
 ·have hnc:=of_decide_eq_false q
  have hp:decide (w = "put")=false:=by rcases hwd with rfl | rfl <;> decide +kernel
  refine cW (ρ':=R) (gZ ((cZ (aN (b:=.str "put") i0 rfl (iD _ _))).trans (by rw[hp]))) ?_
  have hil:i<ls.length:=by omega
  have i4:eOp gIx (aB 1) (eC (.int 4)) (vS R)=some (.int c):=aN (a:=st5 w n i j c) (b:=.int 4) rfl rfl rfl
  have ea:eOp gIx (eOp gIx (eOp gIx (aB 3) (eOp gIx (aB 1) (eC (.int 2)))) (eC (.int 1))) (eOp gIx (aB 1) (eC (.int 4))) (vS R)=some (kD (gY ls i c)):=aN (a:=tK (ls.getD i lnD).2) (aN (a:=aX (ls.getD i lnD)) (b:=.int 1) (aN (a:=lsD ls) (b:=.int i) rfl (aN (a:=st5 w n i j c) (b:=.int 2) rfl rfl rfl) (pF hil)) rfl rfl) i4 (uO h3)
  have eb:eOp gIx (eOp gIx (eOp gIx (aB 3) (eOp gIx (aB 1) (eC (.int 3)))) (eC (.int 1))) (eOp gIx (aB 1) (eC (.int 4))) (vS R)=some (kD (gY ls j c)):=aN (a:=tK (ls.getD j lnD).2) (aN (a:=aX (ls.getD j lnD)) (b:=.int 1) (aN (a:=lsD ls) (b:=.int j) rfl (aN (a:=st5 w n i j c) (b:=.int 3) rfl rfl rfl) (pF h2)) rfl rfl) i4 (uO h4)
  have es:=Mg (hd:=hd) (ls:=ls) (by have:=W.hd4; omega) (by have:=W.few; omega) (fun l m=>by have:=W.six l m; omega) W.lay (xI W hil h3) (xI W h2 h4)
  refine dH (d:=uI hd ls w i j c) ((bI (ds:=[aZ hd ls,kD (gY ls i c),kD (gY ls j c)]) (aW rfl (aW ea (aW eb rfl))) es).trans ?_) rfl
  unfold uI
  rw[if_neg hnc]
section
variable {wd:aE->Nat}{hd:List aK}{ls:List Ln}{rs:List Rl}
theorem Pl (n i:Nat):sY [gF n i]=some (.bool true):=by
 rw[QX "put" [.int n,.int i] (by simp),show nB "put" = some 3 by decide +kernel]
 simp[SR]
theorem Gi (W:Now wd hd ls)(hr : ∀ r∈rs,RlK wd r)(n i:Nat):vM [lsD ls,gF n i,rsD rs]=some (.bool (lU ls rs n i)):=by
 have h10:=W.few
 refine iV rfl ?_
 let L:L2.Slot:=s0 (lsD ls)
 let ST:L2.Slot:=s0 (gF n i)
 let RS:L2.Slot:=s0 (rsD rs)
 have i1 : ∀ x3:L2.Slot,eOp gIx (aB 1) (eC (.int 1)) (vS [L,ST,RS,x3])=some (.int n):=fun _=>aN (a:=gF n i) (b:=.int 1) rfl rfl rfl
 have el:aQ bH (aF (aB 2) aI) (vS [L,ST,RS,none])=some (.int rs.length):=bI (ds:=[rsD rs]) rfl (by simp[bH])
 refine uJ (jE (x:=false) (jH (bI (ds:=[gF n i]) rfl (Pl n i))) fun _=>cZ (aN (i1 none) el (IK _ _))) (fun q=>?_) (fun q=>?_)
 ·have : ¬ n<rs.length:=by
   have:=of_decide_eq_true (show decide (rs.length≤n)=true by simpa using q)
   omega
  refine dH (d:=.bool false) rfl ⟨_,rfl,?_⟩
  simp[lU,this]
 ·have hlt:n<rs.length:=by
   have:=of_decide_eq_false (show decide (rs.length≤n)=false by simpa using q)
   omega
  obtain⟨h1,h2,_⟩:=hr _ (getD_mem rlD hlt)
  let R:bD:=[L,ST,RS,s0 (bR (rs.getD n rlD))]
  refine cW (ρ':=R) (fM (m:=.s) (aN (a:=rsD rs) (b:=.int n) rfl (i1 none) (nH (q:=bR) (getD_some rlD hlt))) (by simp)) ?_
  refine kY (gH ((cZ (aN (a:=.str "put") (b:=.str "put") (aN (a:=gF n i) (b:=.int 0) rfl rfl rfl) rfl (iD _ _))).trans (by simp)) ?_)
  have ei:eOp gIx (aB 1) (eC (.int 2)) (vS R)=some (.int i):=aN (a:=gF n i) (b:=.int 2) rfl rfl rfl
  have e0:eOp gLt (eOp gIx (aB 1) (eC (.int 2))) (aQ bH (aF (aB 0) aI)) (vS R)=some (.bool (decide (i<ls.length))):=aN (b:=.int ls.length) ei (bI (ds:=[lsD ls]) rfl (by rw[xW,gM])) (by
   show some (fV (decide ((i:Int)<(ls.length:Int))))=_
   congr 2
   rw[decide_eq_decide]
   omega)
  refine dH (d:=.bool (decide (i<ls.length)&&oM ls (ls.getD i lnD) (rs.getD n rlD))) (kX e0 fun hi=>?_) ⟨_,rfl,by simp[lU,hlt]⟩
  have hi:=of_decide_eq_true hi
  exact bI (ds:=[lsD ls,bR (rs.getD n rlD),aX (ls.getD i lnD)]) (aW rfl (aW rfl (aW (aN (a:=lsD ls) rfl ei (pF hi)) rfl))) (PK W.lw (by omega) h1 h2 (W.lw _ (getD_mem lnD hi)))
theorem CD {n i:Nat}(hr : ∀ r∈rs,RlK wd r)(h:lU ls rs n i=true):n<rs.length/\i<ls.length /\ ∃ t c o d w,rs.getD n rlD = .pts t c o d w/\t=(ls.getD i lnD).1/\(∀ x∈c,x<wd t)/\(∀ x∈d,x<w)/\c.length≤1000/\d.length≤1000/\w=wd o/\w≤3/\fA (.str o)=true:=by
 unfold lU at h
 simp only[hW,decide_eq_true_iff] at h
 obtain⟨h1,h2,h3⟩:=h
 obtain⟨k1,k2,k3⟩:=hr _ (getD_mem rlD h1)
 refine⟨h1,h2,?_⟩
 generalize rs.getD n rlD=r at *
 cases r with
 | key t c=>cases h3
 | pts t c o d w=>
  simp only[oM,hW,decide_eq_true_iff] at h3
  refine⟨t,c,o,d,w,rfl,h3.1,k1.1,fun x m=>?_,k2.1,k2.2,k3.1,k3.2⟩
  rw[k3.1]
  exact k1.2 x m
noncomputable def pN:List (Option aK)->Nat
 | []=>0
 | some _::r=>pN r
 | none::r=>pN r+1
theorem GU : ∀ {r:List (Option aK)} {ns:List Nat} {k:aK},pN r≤ns.length->k∈iU r ns->some k∈r \/ ∃ n∈ns,k = .inr (nS n)
 | [],_,_,_,m=>by cases m
 | some x::r,ns,k,h,m=>by
  rcases fG.mp m with rfl | m
  ·exact .inl dF
  ·exact(GU (by simpa [pN] using h) m).imp (eR _) id
 | none::r,n::ns,k,h,m=>by
  rcases fG.mp m with rfl | m
  ·exact .inr ⟨n,dF,rfl⟩
  ·exact(GU (by simp[pN] at h; omega) m).imp (eR _) fun⟨x,mx,e⟩=>⟨x,eR _ mx,e⟩
 | none::r,[],k,h,m=>by simp[pN] at h
theorem HA (f:Nat->Option aK) : ∀ cs:List Nat,pN (cs.map f)=(Ad2 f cs).length
 | []=>rfl
 | c::cs=>by
  rw[fS]
  cases hf:f c with
  | some k=>simp[pN,Ad2,hf,HA f cs]
  | none=>simp[pN,Ad2,hf,HA f cs]
theorem QV {β:Type} : ∀ {ps:List (Nat×β)} {f:Nat->Option β} {x:Nat} {b:β},mergeF ps f x=some b->f x=some b \/ ∃ p∈ps,p.2=b
 | [],_,_,_,h=>.inl h
 | p::ps,f,x,b,h=>by
  rcases QV (ps:=ps) (f:=fun x=>if x=p.1 then some p.2 else f x) (x:=x) h with h | ⟨q,mq,e⟩
  ·by_cases hx:x=p.1
   ·rw[if_pos hx] at h
    exact .inr ⟨p,dF,gW h⟩
   ·rw[if_neg hx] at h
    exact .inl h
  ·exact .inr ⟨q,eR _ mq,e⟩
theorem Fy (W:Now wd hd ls)(hr : ∀ r∈rs,RlK wd r){n i:Nat}(h:lU ls rs n i=true) : ∃ l':Ln,kZ [aZ hd ls,gF n i,rsD rs]=some (aZ hd (ls++[l']))/\iC wd l'/\l'.2.length≤3/\lO l':=by
 obtain⟨hn,hi,t,c,o,d,w,er,et,hc,hd',hcl,hdl,hwo,hw,hlo⟩:=CD hr h
 have hlw:(ls.getD i lnD).2.length=wd (ls.getD i lnD).1:=W.lw _ (getD_mem lnD hi)
 have hc' : ∀ x∈c,x<(ls.getD i lnD).2.length:=fun x m=>by rw[hlw,← et]; exact hc x m
 obtain⟨tk,htk,ht64,hN⟩:=Je (hd:=hd) W.hd4 W.six W.few
 generalize hm:(Ad2 (rF (ls.getD i lnD).2 c d) (cE w)).length=m
 have hm6:m≤3:=by
  rw[← hm]
  exact jW (VG _ _) (by simpa using hw)
 have hmany:=Ep (P:=fun x=>¬ (iX (nS x):aK)∈tk) (ks:=tk) (fun x q=>Classical.byContradiction q) (n:=m) (by omega)
 let nums:List Nat:=(frees tk m).take m
 have hnl:nums.length=m:=by
  show((frees tk m).take m).length=m
  rw[wK]
  exact JU hmany
 have hlt : ∀ x∈nums,x<190:=fun x mx=>by
  have:=VD.mp (pV.mp (JY mx)).1
  omega
 refine⟨(o,iU ((cE w).map (rF (ls.getD i lnD).2 c d)) nums),?_,?_,?_,hlo,fun k mk=>?_⟩
 ·refine iV rfl ?_
  let A:L2.Slot:=s0 (aZ hd ls)
  let ST:L2.Slot:=s0 (gF n i)
  let RS:L2.Slot:=s0 (rsD rs)
  let R:bD:=[A,ST,RS,s0 (lsD ls)]
  refine cW (ρ':=R) (fM (m:=.s) (aN (a:=aZ hd ls) (b:=.int 1) rfl rfl rfl) (by simp)) ?_
  refine cW (gZ (jH (x:=true) (bI (ds:=[lsD ls,gF n i,rsD rs]) rfl ((Gi W hr n i).trans (by rw[h]))))) ?_
  have i0:eOp gIx (aB 1) (eC (.int 0)) (vS R)=some (.str "put"):=aN (a:=gF n i) (b:=.int 0) rfl rfl rfl
  refine cW (gZ ((cZ (aN (b:=.str "clash") i0 rfl (iD _ _))).trans (congrArg some (decide_eq_false (by decide +kernel))))) ?_
  refine kY (gH ((cZ (aN (b:=.str "put") i0 rfl (iD _ _))).trans (congrArg some (decide_eq_true rfl))) ?_)
  have bp:=Jr (hd:=hd) (ls:=ls) (t:=t) (o:=o) (c:=c) (d:=d) (w:=w) (l:=ls.getD i lnD) (tk:=tk) (nums:=nums) hc' hcl hdl (by omega) W.few (by rw[hnl,hm]) (by rw[hm]; exact hN m (by omega))
  refine dH (d:=aZ hd (ls++[(o,iU ((cE w).map (rF (ls.getD i lnD).2 c d)) nums)])) (bI (ds:=[aZ hd ls,bR (.pts t c o d w),aX (ls.getD i lnD)]) (aW rfl (aW ((aN (a:=rsD rs) (b:=.int n) rfl (aN (a:=gF n i) (b:=.int 1) rfl rfl rfl) (nH (q:=bR) (getD_some rlD hn))).trans (by rw[er])) (aW (aN (a:=lsD ls) (b:=.int i) rfl (aN (a:=gF n i) (b:=.int 2) rfl rfl rfl) (pF hi)) rfl))) bp) ⟨_,rfl,rfl⟩
 ·show(iU _ nums).length=wd o
  rw[vG]
  simp[hwo]
 ·show(iU _ nums).length≤3
  rw[vG]
  simpa using hw
 ·rcases GU (by rw[HA,hm,hnl]; exact dA _) mk with mk | ⟨x,mx,rfl⟩
  ·obtain⟨x,_,e⟩:=dP.mp mk
   rcases QV e with e | ⟨p,mp,rfl⟩
   ·cases e
   ·obtain⟨y,my,e⟩:=dP.mp (AA mp).2
    rw[← e]
    exact xI W hi (hc' y my)
  ·exact(OR ⟨x,by have:=hlt x mx; omega⟩).2.2.2.1
end
inductive Sk
 | five (w:aE) (n i j c:Nat)
 | put (n i:Nat)
noncomputable def spD:Sk->aA
 | .five w n i j c=>st5 w n i j c
 | .put n i=>gF n i
noncomputable def rX:Sk->Bool
 | .put _ _=>true
 | .five _ _ _ _ _=>false
noncomputable def spW:Sk->aE
 | .put _ _=>"put"
 | .five w _ _ _ _=>w
def rE (ls:List Ln)(rs:List Rl):Sk->Prop
 | .five w n i j c=>kE ls rs w n i j c=true
 | .put n i=>lU ls rs n i=true
theorem Dp (ls:List Ln)(rs:List Rl):dY ls rs=none \/ ∃ s,dY ls rs=some (spD s)/\rE ls rs s:=by
 unfold dY
 cases e:(cE rs.length).findSome? fun n=>oX ls n (rs.getD n rlD) with
 | some d=>
  right
  obtain⟨n,mn,e⟩:=wM e
  have hn:=jA.mp mn
  cases hr:rs.getD n rlD with
  | pts t c o d w=>rw[hr] at e; cases e
  | key t c=>
   rw[hr] at e
   have e:sP ls n t c=some d:=e
   obtain⟨i,mi,e⟩:=wM e
   obtain⟨j,mj,e⟩:=wM e
   unfold uK at e
   split at e
   ·rename_i hm
    obtain⟨k,ek,rfl⟩:=pU.mp e
    have mk:=List.mem_of_head? ek
    have hj:=Ar5.mp mj
    refine⟨.five (mI (gY ls i k) (gY ls j k)) n i j k,rfl,?_⟩
    show kE ls rs _ n i j k=true
    unfold kE
    rw[hr]
    simp only[sV,hW,decide_eq_true_iff]
    exact⟨hn,⟨⟨⟨by omega,hj.2⟩,hm⟩,mk⟩,trivial⟩
   ·cases e
 | none=>
  cases e:xO ls rs with
  | none=>exact .inl rfl
  | some d=>
   right
   obtain⟨i,mi,e⟩:=wM e
   obtain⟨n,mn,e⟩:=wM e
   split at e
   ·rename_i hp
    cases e
    refine⟨.put n i,rfl,?_⟩
    show lU ls rs n i=true
    simp only[lU,hW,decide_eq_true_iff]
    exact⟨jA.mp mn,jA.mp mi,hp⟩
   ·cases e
noncomputable def nms (ls:List Ln):List aK:=dJ ((ls.flatMap (·.2)).filter isS)
theorem Akm {ls:List Ln}{k:aK}:k∈nms ls↔isS k=true /\ ∃ l∈ls,k∈l.2:=by
 unfold nms
 rw[Ad6,pV,List.mem_flatMap]
 exact⟨fun h=>⟨h.2,h.1⟩,fun h=>⟨h.2,h.1⟩⟩
theorem OI {α:Type}[DecidableEq α] : ∀ (zs acc:List α),acc.Nodup->(zs.foldl fT acc).Nodup
 | [],_,h=>h
 | z::zs,acc,h=>OI zs _ (by
  unfold fT
  split
  ·exact h
  ·rename_i n
   exact List.nodup_append.mpr ⟨h,by simp,fun a ma b mb e=>n (by rw[fL.mp mb] at e; exact e ▸ ma)⟩)
theorem SV (ls:List Ln):(nms ls).Nodup:=OI _ _ EB
theorem Au {ls ls':List Ln}{g:aK}(hg:g∈nms ls)(h : ∀ k∈nms ls',k∈nms ls/\k≠g):(nms ls').length<(nms ls).length:=by
 have:=VN (l₁:=g::nms ls') (l₂:=nms ls) (mE.mpr ⟨fun m=>(h g m).2 rfl,SV ls'⟩) fun k m=>by
  rcases fG.mp m with rfl | m
  ·exact hg
  ·exact(h k m).1
 rw[mF] at this
 omega
theorem Lr (ls:List Ln)(l:Ln):(nms (ls++[l])).length≤(nms ls).length+l.2.length:=by
 have:=VN (l₁:=nms (ls++[l])) (l₂:=nms ls++l.2) (SV _) fun k m=>by
  obtain⟨h1,x,mx,h2⟩:=Akm.mp m
  rcases jB.mp mx with mx | mx
  ·exact jB.mpr (.inl (Akm.mpr ⟨h1,x,mx,h2⟩))
  ·rw[fL.mp mx] at h2
   exact jB.mpr (.inr h2)
 simpa using this
theorem Nk {ls:List Ln}(h : ∀ l∈ls,l.2.length≤3):(nms ls).length≤3*ls.length:=by
 have h1:(nms ls).length≤(ls.flatMap (·.2)).length:=by
  have:=oH ((ls.flatMap (·.2)).filter isS) []
  have h2:=VG isS (ls.flatMap (·.2))
  unfold nms dJ
  simp at this ⊢
  simp at h2
  omega
 have h2 : ∀ xs:List Ln,(∀ l∈xs,l.2.length≤3)->(xs.flatMap (·.2)).length≤3*xs.length:=fun xs=>by
  induction xs with
  | nil=>intro _; simp
  | cons x xs ih=>
   intro hx
   have a:=hx x dF
   have b:=ih fun l m=>hx l (eR _ m)
   rw[List.flatMap_cons,pW,mF]
   omega
 exact jW h1 (h2 ls h)
section
variable {wd:aE->Nat}{hd:List aK}{ls:List Ln}{rs:List Rl}
theorem RT (W:Now wd hd ls)(hr : ∀ r∈rs,RlK wd r){w:aE}{n i j c:Nat}(h:kE ls rs w n i j c=true):(w = "clash" /\ kZ [aZ hd ls,st5 w n i j c,rsD rs]=some (aZ hd ls)) \/
  (w = "same" /\ ∃ hd' ls',kZ [aZ hd ls,st5 w n i j c,rsD rs]=some (aZ hd' ls')/\Now wd hd' ls'/\ls'.length≤ls.length/\(nms ls').length<(nms ls).length):=by
 have hb:=Fq W (fun r m=>⟨(hr r m).1,(hr r m).2.1⟩) h
 obtain⟨h1,h2,h3,h4,h5⟩:=HS W h
 have hil:i<ls.length:=by omega
 by_cases hc:w = "clash"
 ·left
  refine⟨hc,hb.trans ?_⟩
  unfold uI
  rw[if_pos hc]
 ·right
  have hs:w = "same" /\ (isS (gY ls i c)||isS (gY ls j c))=true:=by
   rw[h5] at hc ⊢
   unfold mI at hc ⊢
   split at hc
   ·rename_i q
    rw[if_pos q]
    exact⟨rfl,q⟩
   ·exact absurd rfl hc
  have hne:gY ls i c≠gY ls j c:=by
   unfold kE at h
   rw[hW] at h
   generalize rs.getD n rlD=r at h
   cases r with
   | pts t cs o d wd=>cases h.2
   | key t cs=>
    have h2:=h.2
    simp only[sV,hW,decide_eq_true_iff] at h2
    have:=(pV.mp h2.1.2).2
    simpa using this
  have ma:gY ls i c∈(ls.getD i lnD).2:=getD_mem _ h3
  have mb:gY ls j c∈(ls.getD j lnD).2:=getD_mem _ h4
  have la:=xI W hil h3
  have lb:=xI W h2 h4
  generalize ea:gY ls i c=a at *
  generalize eb:gY ls j c=b at *
  have hg:isS (iF a b)=true /\ ∃ l∈ls,iF a b∈l.2:=by
   unfold iF
   split
   ·rename_i q
    exact⟨q,_,getD_mem lnD h2,mb⟩
   ·rename_i q
    exact⟨by simpa [q] using hs.2,_,getD_mem lnD hil,ma⟩
  have hk:iG a b≠iF a b/\(∃ l∈ls,iG a b∈l.2)/\jO (iG a b):=by
   unfold iG iF
   split
   ·exact⟨hne,⟨_,getD_mem lnD hil,ma⟩,la⟩
   ·exact⟨fun e=>hne e.symm,⟨_,getD_mem lnD h2,mb⟩,lb⟩
  refine⟨hs.1,LU hd a b,MK ls a b,hb.trans ?_,⟨fun l m=>?_,fun l m=>?_,?_,fun l m=>?_,?_⟩,?_,?_⟩
  ·unfold uI
   rw[if_neg hc,ea,eb]
  ·obtain⟨x,mx,rfl⟩:=dP.mp (Ad6.mp m)
   have:=W.lw x mx
   show(x.2.map _).length=wd x.1
   rw[gM]
   exact this
  ·obtain⟨x,mx,rfl⟩:=dP.mp (Ad6.mp m)
   show(x.2.map _).length≤3
   rw[gM]
   exact W.six x mx
  ·have:=oH (ls.map (lM (iF a b) (iG a b))) []
   have h:=W.few
   show((ls.map (lM (iF a b) (iG a b))).foldl fT []).length≤24
   simp at this
   omega
  ·obtain⟨x,mx,rfl⟩:=dP.mp (Ad6.mp m)
   refine⟨(W.lay x mx).1,fun k mk=>?_⟩
   obtain⟨y,my,rfl⟩:=dP.mp (show k∈x.2.map (kA (iF a b) (iG a b)) from mk)
   exact PB hk.2.2 ((W.lay x mx).2 y my)
  ·show(hd.map _).length≤4
   rw[gM]
   exact W.hd4
  ·have:=oH (ls.map (lM (iF a b) (iG a b))) []
   show((ls.map (lM (iF a b) (iG a b))).foldl fT []).length≤ls.length
   simpa using this
  ·refine Au (g:=iF a b) (Akm.mpr hg) fun k m=>?_
   obtain⟨q1,l,ml,q2⟩:=Akm.mp m
   obtain⟨x,mx,rfl⟩:=dP.mp (Ad6.mp ml)
   obtain⟨y,my,rfl⟩:=dP.mp (show k∈x.2.map (kA (iF a b) (iG a b)) from q2)
   unfold kA at q1 ⊢
   split
   ·rename_i e
    rw[if_pos e] at q1
    exact⟨Akm.mpr ⟨q1,hk.2.1⟩,hk.1⟩
   ·rename_i e
    rw[if_neg e] at q1
    exact⟨Akm.mpr ⟨q1,x,mx,my⟩,e⟩
end
theorem SX {a b:EF}{ρ:List (Option aA)}{x y:Bool}(h:a ρ=some (.bool x))(h2:x=false->b ρ=some (.bool y)):eOr a b ρ=some (.bool (x||y)):=by
 unfold eOr
 rw[h]
 cases x with
 | true=>rfl
 | false=>exact h2 rfl
noncomputable def pc (ss:List Sk):Nat:=(ss.filter rX).length
noncomputable abbrev ssD (ss:List Sk):aA:=.list (ss.map spD)
noncomputable def sO (ls:List Ln)(o:aE):Nat:=(ls.filter fun l=>decide (l.1=o)).length
noncomputable def DL (ls:List Ln)(p:Nat):Rl->Bool
 | .pts _ _ o _ _=>decide (5≤sO ls o)||decide (16≤p)
 | .key _ _=>false
noncomputable abbrev qF (ls:List Ln)(rs:List Rl)(n p:Nat):Bool:=DL ls p (rs.getD n rlD)
theorem xX (s:Sk):gIx (spD s) (.int 0)=some (.str (spW s)):=by cases s <;> rfl
theorem OA {ls:List Ln}{o:aE}{cap:List (Option Nat)}{fo:EF}{ρ:List (Option aA)}{r:List (Option aA)}{fi:AF}(hi:fi ρ=some (ls.map aX))(hl:ls.length≤1000)(hc : ∀ d,gB 0 d (jM cap ρ)=some (some d::r))(ho : ∀ d,fo (some d::r)=some (.str o)) :
  ∃ xs:List aA,eLC cap fi (gB 0) (bOf (eOp gEq (eOp gIx (aB 0) (eC (.int 0))) fo)) (aB 0) ρ=some (.list xs)/\xs.length=sO ls o:=by
 have:=lW (cap:=cap) (fi:=fi) (T:=gB 0) (t:=bOf (eOp gEq (eOp gIx (aB 0) (eC (.int 0))) fo)) (f:=aB 0) (ρ:=ρ) (xs:=ls) (q:=aX) (fun l=>decide (l.1=o)) aX hi (by omega) (fun l m=>⟨some (aX l)::r,hc _,cZ (aN (a:=.str l.1) (b:=.str o) (aN (a:=aX l) (b:=.int 0) rfl rfl rfl) (ho _) (iD _ _)),fun _=>rfl⟩)
 exact⟨_,this,by simp[sO]⟩
theorem Oa {ss:List Sk}{fi:AF}{ρ:List (Option aA)}(hi:fi ρ=some (ss.map spD))(hl:ss.length≤1000)(hw : ∀ s∈ss,spW s = "put" ↔ rX s=true) :
  ∃ xs:List aA,eLC [none] fi (gB 0) (bOf (eOp gEq (eOp gIx (aB 0) (eC (.int 0))) (eC (.str "put")))) (aB 0) ρ=some (.list xs)/\xs.length=pc ss:=by
 have:=lW (cap:=[none]) (fi:=fi) (T:=gB 0) (t:=bOf (eOp gEq (eOp gIx (aB 0) (eC (.int 0))) (eC (.str "put")))) (f:=aB 0) (ρ:=ρ) (xs:=ss) (q:=spD) rX spD hi (by omega) (fun s m=>⟨[some (spD s)],rfl,(cZ (aN (a:=.str (spW s)) (b:=.str "put") (aN (a:=spD s) (b:=.int 0) rfl rfl (xX s)) rfl (iD _ _))).trans (by
  congr 1
  rw[kQ,decide_eq_true_iff]
  exact hw s m),fun _=>rfl⟩)
 exact⟨_,this,by simp[pc]⟩
theorem FE (a b:Nat){f:EF}{ρ:List (Option aA)}{xs:List aA}(h:f ρ=some (.list xs))(hl:xs.length=a):eOp gGe (aQ bH (aF f aI)) (eC (.int b)) ρ=some (.bool (decide (b≤a))):=
 aN (a:=.int a) (b:=.int b) (bI (ds:=[.list xs]) (aW h rfl) (by simp[bH,hl])) rfl (IK a b)
section
variable {wd:aE->Nat}{hd:List aK}{ls:List Ln}{rs:List Rl}
def okW (s:Sk):Prop:=spW s = "put" ↔ rX s=true
theorem Mo (n i:Nat):okW (.put n i):=⟨fun _=>rfl,fun _=>rfl⟩
theorem Pt {w:aE}{n i j c:Nat}(h:w = "same" \/ w = "clash"):okW (.five w n i j c):=by
 refine⟨fun e=>?_,fun e=>nomatch e⟩
 rcases h with rfl | rfl
 ·exact absurd (show("same" : aE) = "put" from e) (by decide +kernel)
 ·exact absurd (show("clash" : aE) = "put" from e) (by decide +kernel)
theorem Os (W:Now wd hd ls)(hr : ∀ r∈rs,RlK wd r){n i:Nat}(h:lU ls rs n i=true){ss:List Sk}(hl:ss.length≤1000)(hw : ∀ s∈ss,okW s):pG [aZ hd ls,ssD ss,gF n i,rsD rs]=some (.bool (qF ls rs n (pc ss))):=by
 obtain⟨hn,hi,t,c,o,d,w,er,_⟩:=CD hr h
 refine iV rfl ?_
 let A:L2.Slot:=s0 (aZ hd ls)
 let SS:L2.Slot:=s0 (ssD ss)
 let ST:L2.Slot:=s0 (gF n i)
 let RS:L2.Slot:=s0 (rsD rs)
 refine cW (gZ ((cZ (aN (a:=.str "put") (b:=.str "put") (aN (a:=gF n i) (b:=.int 0) rfl rfl rfl) rfl (uV _ _))).trans (by simp))) ?_
 refine eJ (d:=.str o) (aN (a:=bR (.pts t c o d w)) (b:=.int 3) ((aN (a:=rsD rs) (b:=.int n) rfl (aN (a:=gF n i) (b:=.int 1) rfl rfl rfl) (nH (q:=bR) (getD_some rlD hn))).trans (by rw[er])) rfl rfl) (by simp) ?_
 obtain⟨xs,e1,h1⟩:=OA (ls:=ls) (o:=o) (cap:=[none,some 4]) (fo:=aB 1) (ρ:=vS [A,SS,ST,RS,s0 (.str o),none,none]) (r:=[some (.str o)]) (fi:=iIt (eOp gIx (aB 0) (eC (.int 1)))) (mM (aN (a:=aZ hd ls) (b:=.int 1) rfl rfl rfl)) (by have:=W.few; omega) (fun _=>rfl) (fun _=>rfl)
 refine eJ (n:=1) e1 (by simp) (jQ ?_)
 obtain⟨ys,e2,h2⟩:=Oa (ss:=ss) (fi:=iIt (aB 1)) (ρ:=vS [A,SS,ST,RS,s0 (.str o),s0 (.list xs),none]) (BP rfl) hl hw
 refine eJ (ρ:=[A,SS,ST,RS,s0 (.str o),s0 (.list xs),none]) (n:=1) e2 (by simp) (jQ ?_)
 refine dH (ρ:=[A,SS,ST,RS,s0 (.str o),s0 (.list xs),s0 (.list ys)]) (SX (FE (sO ls o) 5 rfl h1) fun _=>FE (pc ss) 16 rfl h2) ?_
 show Out.rt _=Out.rt (.bool (DL ls (pc ss) (rs.getD n rlD)))
 rw[er]
 rfl
theorem Si {A SS R:aA}{w:aE}{n i j c:Nat}(h:w = "same" \/ w = "clash"):pG [A,SS,st5 w n i j c,R]=some (.bool false):=by
 have hw:w ≠ "put":=by rcases h with rfl | rfl <;> decide +kernel
 refine iV rfl ?_
 exact kY (gH ((cZ (aN (a:=.str w) (b:=.str "put") (aN (a:=st5 w n i j c) (b:=.int 0) rfl rfl rfl) rfl (uV _ _))).trans (by rw[decide_eq_true hw])) (dH (d:=.bool false) rfl ⟨_,rfl,rfl⟩))
theorem QP (W:Now wd hd ls)(hr : ∀ r∈rs,RlK wd r){n i:Nat}(h:lU ls rs n i=true){p:Nat}(hp:p≤16):tD [aZ hd ls,gF n i,rsD rs,.int p]=some (.bool (qF ls rs n p)):=by
 obtain⟨hn,hi,t,c,o,d,w,er,_⟩:=CD hr h
 refine iV rfl ?_
 let A:L2.Slot:=s0 (aZ hd ls)
 let ST:L2.Slot:=s0 (gF n i)
 let RS:L2.Slot:=s0 (rsD rs)
 obtain⟨xs,e1,h1⟩:=OA (ls:=ls) (o:=o) (cap:=[none,some 2,some 1]) (fo:=eOp gIx (eOp gIx (aB 1) (eOp gIx (aB 2) (eC (.int 1)))) (eC (.int 3))) (ρ:=vS [A,ST,RS,s0 (.int p),none]) (r:=[some (rsD rs),some (gF n i)]) (fi:=iIt (eOp gIx (aB 0) (eC (.int 1)))) (mM (aN (a:=aZ hd ls) (b:=.int 1) rfl rfl rfl)) (by have:=W.few; omega) (fun _=>rfl)
  (fun _=>aN (a:=bR (.pts t c o d w)) (b:=.int 3) ((aN (a:=rsD rs) (b:=.int n) rfl (aN (a:=gF n i) (b:=.int 1) rfl rfl rfl) (nH (q:=bR) (getD_some rlD hn))).trans (by rw[er])) rfl rfl)
 refine eJ (n:=1) e1 (by simp) (jQ ?_)
 have e0:eOp gEq (aB 3) (eC (.int 16)) (vS [A,ST,RS,s0 (.int p),s0 (.list xs)])=some (.bool (decide (p=16))):=aN (a:=.int p) (b:=.int 16) rfl rfl ((qN _ _).trans (by
  congr 2
  rw[kQ]
  simp
  omega))
 refine dH (ρ:=[A,ST,RS,s0 (.int p),s0 (.list xs)]) (SX e0 fun _=>FE (sO ls o) 5 rfl h1) ?_
 show Out.rt _=Out.rt (.bool (DL ls p (rs.getD n rlD)))
 rw[er]
 show _=Out.rt (.bool (decide (5≤sO ls o)||decide (16≤p)))
 rw[Bool.or_comm]
 congr 3
 rw[decide_eq_decide]
 omega
end
abbrev Cf:=List aK×List Ln
section
variable {wd:aE->Nat}{hd:List aK}{ls:List Ln}{rs:List Rl}
structure Stp (wd:aE->Nat)(rs:List Rl)(c:Cf)(p:Nat)(s:Sk)(c':Cf):Prop where
 now:Now wd c.1 c.2
 due:dY c.2 rs=some (spD s)
 ok:rE c.2 rs s
 few:p≤16
 past : ∀ n i,s = .put n i->qF c.2 rs n p=false
 bh:kZ [aZ c.1 c.2,spD s,rsD rs]=some (aZ c'.1 c'.2)
def Path (wd:aE->Nat)(rs:List Rl)(ss:List Sk)(c0 c:Cf):Prop:=∃ f:Nat->Cf,f 0=c0/\f ss.length=c /\ ∀ m s,ss[m]?=some s->Stp wd rs (f m) (pc (ss.take m)) s (f (m+1))
theorem Path.nil {c:Cf}:Path wd rs [] c c:=⟨fun _=>c,rfl,rfl,fun m s h=>by simp at h⟩
theorem Path.snoc {ss:List Sk}{c0 c c':Cf}{s:Sk}(P:Path wd rs ss c0 c)(h:Stp wd rs c (pc ss) s c'):Path wd rs (ss++[s]) c0 c':=by
 obtain⟨f,f0,fl,fs⟩:=P
 refine⟨fun m=>if m≤ss.length then f m else c',by simpa using f0,by simp; omega,fun m x hx=>?_⟩
 rcases Nat.lt_or_ge m ss.length with hm | hm
 ·rw[KD hm] at hx
  have e:(ss++[s]).take m=ss.take m:=by rw[List.take_append_of_le_length (by omega)]
  simp only[e,if_pos (show m≤ss.length by omega),if_pos (show m+1≤ss.length by omega)]
  exact fs m x hx
 ·rw[VH hm] at hx
  have hm':m=ss.length:=by
   have:=(gE.mp hx).1
   simp at this
   omega
  subst hm'
  simp at hx
  subst hx
  simp only[dA,if_true,if_neg (show ¬ ss.length+1≤ss.length by omega),List.take_left]
  rw[fl]
  exact h
theorem BK (ss:List Sk)(s:Sk):pc (ss++[s])=pc ss+if rX s=true then 1 else 0:=by
 unfold pc
 rw[List.filter_append,pW]
 cases h:rX s <;> simp[h]
theorem QF (W:Now wd hd ls){w:aE}{n i j c:Nat}(h:kE ls rs w n i j c=true):w = "same" \/ w = "clash":=by
 obtain⟨_,_,_,_,e⟩:=HS W h
 rw[e]
 unfold mI
 split
 ·exact .inl rfl
 ·exact .inr rfl
theorem SM (W:Now wd hd ls){s:Sk}(h:rE ls rs s):okW s:=by
 cases s with
 | put n i=>exact Mo n i
 | five w n i j c=>exact Pt (QF W h)
structure At (wd:aE->Nat)(rs:List Rl)(c0:Cf)(hd:List aK)(ls:List Ln)(ss:List Sk):Prop where
 path:Path wd rs ss c0 (hd,ls)
 now:Now wd hd ls
 puts:pc ss≤16
 few:ls.length≤5+pc ss
 words : ∀ s∈ss,okW s
 noClash : ∀ s∈ss,spW s ≠ "clash"
 len:ss.length≤100
def ZG (ls:List Ln)(rs:List Rl)(ss:List Sk):Prop:=
 dY ls rs=none \/ (∃ n i j c,dY ls rs=some (spD (.five "clash" n i j c))/\rE ls rs (.five "clash" n i j c)) \/ ∃ n i,dY ls rs=some (spD (.put n i))/\rE ls rs (.put n i)/\qF ls rs n (pc ss)=true
theorem Eg {ls:List Ln}{p:Nat}{r:Rl}(h:DL ls p r=false)(hp : ∃ t c o d w,r = .pts t c o d w):p<16:=by
 obtain⟨t,c,o,d,w,rfl⟩:=hp
 have h:(decide (5≤sO ls o)||decide (16≤p))=false:=h
 rw[Bool.or_eq_false_iff] at h
 have:=of_decide_eq_false h.2
 omega
theorem At.go {c0:Cf}{ss:List Sk}(A:At wd rs c0 hd ls ss)(hr : ∀ r∈rs,RlK wd r){N:Nat}(hN:(nms ls).length+4*(16 - pc ss)≤N)(hM:ss.length+N≤100){s:Sk}(hd':dY ls rs=some (spD s))(ok:rE ls rs s)(hc:spW s ≠ "clash")(hp : ∀ n i,s = .put n i->qF ls rs n (pc ss)=false) :
  ∃ hd' ls',kZ [aZ hd ls,spD s,rsD rs]=some (aZ hd' ls')/\At wd rs c0 hd' ls' (ss++[s]) /\ ∃ N',N'<N/\(nms ls').length+4*(16 - pc (ss++[s]))≤N'/\(ss++[s]).length+N'≤100:=by
 have key : ∀ hd2 ls2 N',kZ [aZ hd ls,spD s,rsD rs]=some (aZ hd2 ls2)->Now wd hd2 ls2->pc (ss++[s])≤16->ls2.length≤5+pc (ss++[s])->N'<N->(nms ls2).length+4*(16 - pc (ss++[s]))≤N' -> ∃ hd' ls',kZ [aZ hd ls,spD s,rsD rs]=some (aZ hd' ls')/\At wd rs c0 hd' ls' (ss++[s]) /\ ∃ N',N'<N/\(nms ls').length+4*(16 - pc (ss++[s]))≤N'/\(ss++[s]).length+N'≤100:=by
  intro hd2 ls2 N' hb hn h16 hf hlt hle
  refine⟨hd2,ls2,hb,⟨A.path.snoc ⟨A.now,hd',ok,A.puts,hp,hb⟩,hn,h16,hf,fun x m=>?_,fun x m=>?_,?_⟩,N',hlt,hle,?_⟩
  ·rcases jB.mp m with m | m
   ·exact A.words x m
   ·rw[fL.mp m]
    exact SM A.now ok
  ·rcases jB.mp m with m | m
   ·exact A.noClash x m
   ·rw[fL.mp m]
    exact hc
  ·simp
   omega
  ·simp
   omega
 have a1:=A.puts
 have a2:=A.few
 cases s with
 | put n i=>
  obtain⟨l',hb,h1,h2,h3⟩:=Fy A.now hr (show lU ls rs n i=true from ok)
  obtain⟨_,_,t,c,o,d,w,er,_⟩:=CD hr (show lU ls rs n i=true from ok)
  have hlt:=Eg (hp n i rfl) ⟨t,c,o,d,w,er⟩
  have hpc:pc (ss++[.put n i])=pc ss+1:=BK ss _
  have hn:=Lr ls l'
  refine key hd (ls++[l']) (N - 1) hb ⟨fun l m=>?_,fun l m=>?_,?_,fun l m=>?_,A.now.hd4⟩ ?_ ?_ ?_ ?_
  ·rcases jB.mp m with m | m
   ·exact A.now.lw l m
   ·rw[fL.mp m]; exact h1
  ·rcases jB.mp m with m | m
   ·exact A.now.six l m
   ·rw[fL.mp m]; exact h2
  ·simp
   omega
  ·rcases jB.mp m with m | m
   ·exact A.now.lay l m
   ·rw[fL.mp m]; exact h3
  ·rw[hpc]; omega
  ·rw[hpc]; simp; omega
  ·omega
  ·rw[hpc]; omega
 | five w n i j c=>
  rcases RT A.now hr (show kE ls rs w n i j c=true from ok) with⟨e,_⟩ | ⟨e,hd2,ls2,hb,hn,hl,hlt⟩
  ·exact absurd e hc
  ·have hpc:pc (ss++[.five w n i j c])=pc ss:=BK ss _
   refine key hd2 ls2 (N - 1) hb hn (by rw[hpc]; exact a1) (by rw[hpc]; omega) ?_ ?_
   ·omega
   ·rw[hpc]; omega
theorem Et (k:aK):bS (kD k)=true:=by cases k <;> rfl
theorem FV (ks:List aK):bS (tK ks)=true:=by
 show nC (ks.map kD)=true
 rw[CG,AD]
 exact oV.mpr fun k _=>Et k
theorem BX (hd:List aK)(ls:List Ln):bS (aZ hd ls)=true:=by
 show nC [tK hd,lsD ls]=true
 have h2:bS (lsD ls)=true:=by
  show nC (ls.map aX)=true
  rw[CG,AD]
  refine oV.mpr fun l _=>?_
  show(true&&(bS (tK l.2)&&true))=true
  rw[FV]
  rfl
 rw[CG]
 simp[FV,h2]
theorem Lv (s:Sk):bS (spD s)=true:=by cases s <;> rfl
theorem MS (ss:List Sk):cS 1 (ssD ss)=true:=by
 show(ss.map spD).all (cS 0)=true
 rw[AD]
 exact oV.mpr fun s _=>Lv s
theorem BH {t:Option aA}{s:Sk}(h:t=some (spD s)):eM t=spD s:=by rw[h]; rfl
theorem NF (s:Sk):oC (spD s) .none=some (.bool true):=by cases s <;> rfl
theorem TX (s:Sk):uG (spD s) .none=some (.bool false):=by cases s <;> rfl
end
theorem MB {m:Md}{t:BF}{F:SF}{P:Out->Prop}(I:Nat->bD->Prop)(step : ∀ n ρ,I n ρ->(bV m t ρ=some false/\P (.nx ρ)) \/ (bV m t ρ=some true/\Goes F ρ fun o=>∃ ρ' n',o = .nx ρ'/\n'<n/\I n' ρ')) : ∀ (fuel n:Nat) (ρ:bD),n<fuel->I n ρ->Goes (whD m t F fuel) ρ P
 | 0,n,ρ,h,_=>by omega
 | fuel+1,n,ρ,h,i=>by
  rcases step n ρ i with⟨e,p⟩ | ⟨e,o,eo,ρ',n',rfl,hn,i'⟩
  ·exact⟨_,by
    show((bV m t ρ).bind fun b=>if b=true then(F ρ).bind fun o=>match o with
     | .nx ρ'=>whD m t F fuel ρ'
     | .ct ρ'=>whD m t F fuel ρ'
     | .bk ρ'=>some (.nx ρ')
     | .rt d=>some (.rt d)
    else some (.nx ρ))=_
    rw[e]
    rfl,p⟩
  ·obtain⟨o2,e2,p2⟩:=MB I step fuel n' ρ' (by omega) i'
   refine⟨o2,?_,p2⟩
   show((bV m t ρ).bind fun b=>if b=true then(F ρ).bind fun o=>match o with
     | .nx ρ'=>whD m t F fuel ρ'
     | .ct ρ'=>whD m t F fuel ρ'
     | .bk ρ'=>some (.nx ρ')
     | .rt d=>some (.rt d)
    else some (.nx ρ))=_
   rw[e,cM,if_pos rfl,eo]
   exact e2
theorem NA {f0 f1:EF}{i:Nat}{ρ:bD}{P:Out->Prop}{d0 d1:aA}{a:List aA}(h0:f0 (vS ρ)=some d0)(h1:f1 (vS ρ)=some d1)(hg:getL i ρ=some a)(q0:bS d0=true)(q1:bS d1=true)(k:P (.rt (.tuple [d0,d1,.list a]))):Goes (xB .s f0 .s f1 i) ρ P:=⟨_,by
 unfold xB eV
 simp only[h0,h1,hg,cM,q0,q1,nZ,if_true],k⟩
theorem Ck {f0 f1 f:EF}{ρ:bD}{P:Out->Prop}{d0 d1:aA}{a:List aA}(h0:f0 (vS ρ)=some d0)(h1:f1 (vS ρ)=some d1)(h2:eV 1 .a f ρ=some (.list a))(q0:bS d0=true)(q1:bS d1=true)(k:P (.rt (.tuple [d0,d1,.list a]))):Goes (CW .s f0 .s f1 .a f) ρ P:=⟨_,by
 unfold CW
 rw[h2]
 unfold eV
 simp only[h0,h1,cM,q0,q1,nZ,if_true],k⟩
section
variable {wd:aE->Nat}{hd:List aK}{ls:List Ln}{rs:List Rl}
def wW (wd:aE->Nat)(rs:List Rl)(c0:Cf)(word:aE)(hd:List aK)(ls:List Ln)(ss:List Sk):Prop:=∃ ss0,At wd rs c0 hd ls ss0 /\
 ((word = "still" /\ ss=ss0/\dY ls rs=none) \/ (word = "clash" /\ ∃ n i j c,ss=ss0++[.five "clash" n i j c]/\dY ls rs=some (spD (.five "clash" n i j c))/\rE ls rs (.five "clash" n i j c)) \/
  (word = "past" /\ ss=ss0 /\ ∃ n i,dY ls rs=some (spD (.put n i))/\rE ls rs (.put n i)/\qF ls rs n (pc ss0)=true))
theorem AX (W:Now wd hd ls)(hr : ∀ r∈rs,RlK wd r):lQ [aZ hd ls,rsD rs]=some (eM (dY ls rs)):=Ae W.lw (fun l m=>by have:=W.six l m; omega) (by have:=W.few; omega) (fun r m=>⟨(hr r m).1,(hr r m).2.1⟩) (tK hd)
theorem PJ {hd0:List aK}{ls0:List Ln}(W0:Now wd hd0 (dJ ls0))(h5:(dJ ls0).length≤5)(hy : ∀ l∈ls0,lO l)(hl0:ls0.length≤1000)(hr : ∀ r∈rs,RlK wd r) :
  ∃ word hd ls ss,qO [aZ hd0 ls0,rsD rs]=some (.tuple [.str word,aZ hd ls,ssD ss])/\wW wd rs (hd0,dJ ls0) word hd ls ss:=by
 have main : ∃ d,qO [aZ hd0 ls0,rsD rs]=some d /\ ∃ word hd ls ss,d = .tuple [.str word,aZ hd ls,ssD ss]/\wW wd rs (hd0,dJ ls0) word hd ls ss:=by
  refine iH rfl ?_
  let A0:L2.Slot:=s0 (aZ hd0 ls0)
  let R:L2.Slot:=s0 (rsD rs)
  refine eJ (d:=aZ hd0 (dJ ls0)) (jF (ds:=[tK hd0,lsD (dJ ls0)]) (aW (aN (a:=aZ hd0 ls0) (b:=.int 0) rfl rfl rfl) (aW (bI (ds:=[lsD ls0]) (aW (aN (a:=aZ hd0 ls0) (b:=.int 1) rfl rfl rfl) rfl) (RL hy hl0)) rfl))) (by simp) ?_
  refine eJ (n:=1) (d:=.list []) (sN (ds:=[]) rfl) (by simp) ?_
  refine cW (ρ':=[A0,R,s0 (aZ hd0 (dJ ls0)),some (1,ssD []),s0 (eM (dY (dJ ls0) rs))]) (fM (m:=.s) (bI (ds:=[aZ hd0 (dJ ls0),rsD rs]) rfl (AX W0 hr)) (by simp)) ?_
  refine hG (fun ρ'=>∃ hd ls ss,ρ'=[A0,R,s0 (aZ hd ls),some (1,ssD ss),s0 (eM (dY ls rs))]/\At wd rs (hd0,dJ ls0) hd ls ss/\ZG ls rs ss) ?_ ?_
  ·refine MB (fun N ρ=>∃ hd ls ss,ρ=[A0,R,s0 (aZ hd ls),some (1,ssD ss),s0 (eM (dY ls rs))]/\At wd rs (hd0,dJ ls0) hd ls ss/\(nms ls).length+4*(16 - pc ss)≤N/\ss.length+N≤100) ?_ 200 79 _ (by omega) ⟨hd0,dJ ls0,[],rfl,⟨Path.nil,W0,by simp[pc],by simp[pc]; exact h5,fun s m=>by simp at m,fun s m=>by simp at m,by simp⟩,by have:=Nk W0.six; simp[pc]; omega,by simp⟩
   rintro N _ ⟨hd,ls,ss,rfl,A,hN,hM⟩
   let ρ:bD:=[A0,R,s0 (aZ hd ls),some (1,ssD ss),s0 (eM (dY ls rs))]
   rcases Dp ls rs with e | ⟨s,e,ok⟩
   ·left
    refine⟨?_,_,rfl,hd,ls,ss,rfl,A,.inl e⟩
    exact uW (x:=false) (y:=true) (cZ (aN (a:=eM (dY ls rs)) (b:=.none) rfl rfl (by rw[e]; rfl))) fun q=>nomatch q
   ·have eo:=BH e
    have t0:bOf (eOp oC (aB 4) (eC .none)) (vA ρ)=some true:=cZ (aN (a:=eM (dY ls rs)) (b:=.none) rfl rfl (by rw[eo]; exact NF s))
    have t1:bOf (eOp gNe (eOp gIx (aB 4) (eC (.int 0))) (eC (.str "clash"))) (vA ρ)=some (decide (spW s ≠ "clash")):=cZ (aN (a:=.str (spW s)) (b:=.str "clash") (aN (a:=eM (dY ls rs)) (b:=.int 0) rfl rfl (by rw[eo]; exact xX s)) rfl (uV _ _))
    by_cases hc:spW s = "clash"
    ·left
     rw[decide_eq_false (by simpa using hc)] at t1
     refine⟨uW (x:=true) t0 fun _=>uW (x:=false) (y:=true) t1 (fun q=>nomatch q),_,rfl,hd,ls,ss,rfl,A,.inr (.inl ?_)⟩
     cases s with
     | put n i=>exact absurd (show("put" : aE) = "clash" from hc) (by decide +kernel)
     | five w n i j c=>
      have hc:w = "clash":=hc
      subst hc
      exact⟨n,i,j,c,e,ok⟩
    ·rw[decide_eq_true hc] at t1
     have hpast : ∃ pb,pG [aZ hd ls,ssD ss,spD s,rsD rs]=some (.bool pb)/\(pb=true -> ∃ n i,s = .put n i/\qF ls rs n (pc ss)=true)/\(pb=false -> ∀ n i,s = .put n i->qF ls rs n (pc ss)=false):=by
      cases s with
      | put n i=>exact⟨_,Os A.now hr ok (by have:=A.len; omega) A.words,fun q=>⟨n,i,rfl,q⟩,fun q n' i' z=>by cases z; exact q⟩
      | five w n i j c=>exact⟨_,Si (QF A.now ok),(fun q=>nomatch q),(fun _ n' i' z=>nomatch z)⟩
     obtain⟨pb,ep,hT,hF⟩:=hpast
     have t2:cQ (bOf (aQ pG (aF (aB 2) (aF (aB 3) (aF (aB 4) (aF (aB 1) aI)))))) (vA ρ)=some (!pb):=jH (bI (ds:=[aZ hd ls,ssD ss,eM (dY ls rs),rsD rs]) rfl (by rw[eo]; exact ep))
     have tt:bV .a (dI (bOf (eOp oC (aB 4) (eC .none))) (dI (bOf (eOp gNe (eOp gIx (aB 4) (eC (.int 0))) (eC (.str "clash")))) (cQ (bOf (aQ pG (aF (aB 2) (aF (aB 3) (aF (aB 4) (aF (aB 1) aI))))))))) ρ=some (!pb):=uW (x:=true) t0 fun _=>uW (x:=true) t1 fun _=>t2
     cases pb with
     | true=>
      left
      obtain⟨n,i,rfl,hp⟩:=hT rfl
      exact⟨tt,_,rfl,hd,ls,ss,rfl,A,.inr (.inr ⟨n,i,e,ok,hp⟩)⟩
     | false=>
      right
      obtain⟨hd',ls',hb,A',N',hlt,hN',hM'⟩:=A.go hr hN hM e ok hc (hF rfl)
      refine⟨tt,?_⟩
      refine hG (fun ρ'=>ρ'=[A0,R,s0 (aZ hd ls),some (1,ssD (ss++[s])),s0 (eM (dY ls rs))]) (qM (d:=eM (dY ls rs)) (ds:=ss.map spD) rfl rfl (by have:=A.len; simp; omega) ⟨_,rfl,by
       show [A0,R,s0 (aZ hd ls),some (1,lE (ss.map spD++[eM (dY ls rs)])),s0 (eM (dY ls rs))]=_
       rw[eo]
       show _=[A0,R,s0 (aZ hd ls),some (1,lE ((ss++[s]).map spD)),s0 (spD s)]
       rw[oU]
       rfl⟩) ?_
      rintro _ rfl
      refine cW (ρ':=[A0,R,s0 (aZ hd' ls'),some (1,ssD (ss++[s])),s0 (eM (dY ls rs))]) (fM (m:=.s) (bI (ds:=[aZ hd ls,eM (dY ls rs),rsD rs]) rfl (by rw[eo]; exact hb)) (by simp)) ?_
      exact pC (bI (ds:=[aZ hd' ls',rsD rs]) rfl (AX A'.now hr)) (by simp) ⟨_,N',rfl,hlt,hd',ls',ss++[s],rfl,A',hN',hM'⟩
  ·rintro _ ⟨hd,ls,ss,rfl,A,E⟩
   let ρ:bD:=[A0,R,s0 (aZ hd ls),some (1,ssD ss),s0 (eM (dY ls rs))]
   rcases E with e | ⟨n,i,j,c,e,ok⟩ | ⟨n,i,e,ok,hp⟩
   ·refine kY (gH (cZ (aN (a:=eM (dY ls rs)) (b:=.none) rfl rfl (by rw[e]; rfl))) (NA (ρ:=ρ) (d0:=.str "still") (d1:=aZ hd ls) rfl rfl rfl rfl (BX hd ls) ⟨_,rfl,_,rfl,"still",hd,ls,ss,rfl,ss,A,.inl ⟨rfl,rfl,e⟩⟩))
   ·have eo:=BH e
    refine cW (ρ':=ρ) (gZ (cZ (aN (a:=eM (dY ls rs)) (b:=.none) rfl rfl (by rw[eo]; exact TX _)))) ?_
    refine cW (ρ':=ρ) (gZ ((cZ (aN (a:=.str "clash") (b:=.str "put") (aN (a:=eM (dY ls rs)) (b:=.int 0) rfl rfl (by rw[eo]; rfl)) rfl (iD _ _))).trans (congrArg some (decide_eq_false (by decide +kernel))))) ?_
    refine Ck (ρ:=ρ) (d0:=.str "clash") (d1:=aZ hd ls) (a:=(ss++[Sk.five "clash" n i j c]).map spD) rfl rfl (evA ?_ (MS _)) rfl (BX hd ls) ⟨_,rfl,"clash",hd,ls,ss++[.five "clash" n i j c],rfl,ss,A,.inr (.inl ⟨rfl,n,i,j,c,rfl,e,ok⟩)⟩
    refine(aN (a:=ssD ss) (b:=.list [eM (dY ls rs)]) rfl (sN (ds:=[eM (dY ls rs)]) rfl) (Oc (by have:=A.len; simp; omega))).trans ?_
    rw[eo,oU]
    rfl
   ·have eo:=BH e
    refine cW (ρ':=ρ) (gZ (cZ (aN (a:=eM (dY ls rs)) (b:=.none) rfl rfl (by rw[eo]; exact TX _)))) ?_
    refine kY (gH ((cZ (aN (a:=.str "put") (b:=.str "put") (aN (a:=eM (dY ls rs)) (b:=.int 0) rfl rfl (by rw[eo]; rfl)) rfl (iD _ _))).trans (congrArg some (decide_eq_true rfl))) (NA (ρ:=ρ) (d0:=.str "past") (d1:=aZ hd ls) rfl rfl rfl rfl (BX hd ls) ⟨_,rfl,_,rfl,"past",hd,ls,ss,rfl,ss,A,.inr (.inr ⟨rfl,rfl,n,i,e,ok,hp⟩)⟩))
 obtain⟨d,e,word,hd,ls,ss,rfl,F⟩:=main
 exact⟨word,hd,ls,ss,e,F⟩
end
theorem DC (s:Sk):bN (spD s)=true/\bJ (spD s) (spD s)=true:=by
 cases s with
 | five w n i j c=>
  have e1:bJ (.str w) (.str w)=true:=(sW (.inr w) (.inr w)).trans (by simp)
  refine⟨by simp[spD,bN,noDict,noDicts,cP,bU],?_⟩
  simp[spD,bJ,fQ]
 | put n i=>
  refine⟨by simp[spD,bN,noDict,noDicts,cP,bU],?_⟩
  simp[spD,bJ,fQ]
theorem YH (s:Sk):gNe (spD s) (spD s)=some (.bool false):=by
 unfold gNe
 rw[(DC s).1,(DC s).2]
 rfl
theorem YW (s:Sk):cT "tuple" (spD s)=some (.bool true):=by cases s <;> rfl
theorem Pc {α:Type}(q:α->aA)(xs:List α):cutD (xs.map q) none (some (-1))=(xs.take (xs.length - 1)).map q:=by
 unfold cutD
 have e1:HT.sIx (xs.map q).length 0 none=0:=rfl
 have e2:HT.sIx (xs.map q).length (xs.map q).length (some (-1))=xs.length - 1:=by
  show(if (-1:Int)<0 then((-1:Int)+((xs.map q).length:Int)).toNat else min (-1:Int).toNat (xs.map q).length)=_
  rw[if_pos (by decide),gM]
  omega
 rw[e1,e2,VL,Nat.sub_zero,JZ]
section
variable {wd:aE->Nat}{rs:List Rl}{hd0 hd:List aK}{ls0 ls:List Ln}
theorem Pd {s:Sk}(h:okW s){f:EF}{ρ:List (Option aA)}(hf:f ρ=some (spD s)):bOf (eOp gEq (eOp gIx f (eC (.int 0))) (eC (.str "put"))) ρ=some (rX s):=(cZ (aN (a:=.str (spW s)) (b:=.str "put") (aN (a:=spD s) (b:=.int 0) hf rfl (xX s)) rfl (iD _ _))).trans (by
 congr 1
 rw[kQ,decide_eq_true_iff]
 exact h)
theorem Do (hl0:ls0.length≤1000)(hr : ∀ r∈rs,RlK wd r){ss:List Sk}(hss:ss.length≤1000)(P:Path wd rs ss (hd0,dJ ls0) (hd,ls)):zL [aZ hd0 ls0,rsD rs,ssD ss]=some (.list [aZ hd ls,.int (pc ss)]):=by
 obtain⟨f,f0,fl,fs⟩:=P
 refine iV rfl ?_
 let A:L2.Slot:=s0 (aZ hd0 ls0)
 let R:L2.Slot:=s0 (rsD rs)
 let S:L2.Slot:=s0 (ssD ss)
 refine eJ (n:=1) (d:=.list []) (sN (ds:=[]) rfl) (by simp) ?_
 refine hG (fun ρ'=>∃ x4:L2.Slot,ρ'=[A,R,S,some (1,.list ((dJ ls0).map aX)),x4,none,none,none]) ?_ ?_
 ·refine UE (xs:=ls0) (q:=aX) (b0:=([]:List Ln)) fT (fun k acc ρ'=>∃ x4:L2.Slot,acc.length≤k/\ρ'=[A,R,S,some (1,.list (acc.map aX)),x4,none,none,none]) (avS (mM (aN (a:=aZ hd0 ls0) (b:=.int 1) rfl rfl rfl))) ⟨none,by simp,rfl⟩ ?_ ?_
  ·rintro m l acc _ hx ⟨x4,hacc,rfl⟩
   have hm:m<ls0.length:=(gE.mp hx).1
   refine⟨[A,R,S,some (1,.list (acc.map aX)),s0 (aX l),none,none,none],rfl,?_⟩
   have t:bV .a (bOf (eOp (gIn true) (aB 4) (aB 3))) [A,R,S,some (1,.list (acc.map aX)),s0 (aX l),none,none,none]=some (true != decide (l∈acc)):=cZ (aN (a:=aX l) (b:=.list (acc.map aX)) rfl rfl (Gj true l acc))
   by_cases hin:l∈acc
   ·rw[decide_eq_true hin] at t
    refine lT t ⟨_,rfl,_,.inl rfl,s0 (aX l),?_,?_⟩
    ·unfold fT; rw[if_pos hin]; omega
    ·unfold fT; rw[if_pos hin]
   ·rw[decide_eq_false hin] at t
    refine gH t (qM (d:=aX l) (ds:=acc.map aX) rfl rfl (by simp; omega) ⟨_,.inl rfl,s0 (aX l),?_,?_⟩)
    ·unfold fT; rw[if_neg hin]; simp; omega
    ·unfold fT
     rw[if_neg hin,oU]
     rfl
  ·rintro _ ⟨x4,_,rfl⟩
   exact⟨_,rfl,x4,rfl⟩
 rintro _ ⟨x4,rfl⟩
 refine jQ ?_
 let L:L2.Slot:=s0 (.list ((dJ ls0).map aX))
 refine eJ (ρ:=[A,R,S,L,x4,none,none,none]) (d:=aZ hd0 (dJ ls0)) (jF (ds:=[tK hd0,lsD (dJ ls0)]) (aW (aN (a:=aZ hd0 ls0) (b:=.int 0) rfl rfl rfl) (aW (bI (ds:=[.list ((dJ ls0).map aX)]) rfl rfl) rfl))) (by simp) ?_
 refine eJ (d:=.int ((0:Nat):Int)) rfl (by simp) ?_
 refine hG (fun ρ'=>∃ x7:L2.Slot,ρ'=[A,R,S,L,x4,s0 (aZ hd ls),s0 (.int (pc ss)),x7]) ?_ ?_
 ·refine xK (ds:=ss.map spD) (fun m ρ'=>∃ x7:L2.Slot,ρ'=[A,R,S,L,x4,s0 (aZ (f m).1 (f m).2),s0 (.int (pc (ss.take m))),x7]) (avS (BP rfl)) ⟨none,by rw[f0]; rfl⟩ ?_ ?_
  ·rintro m d _ hx ⟨x7,rfl⟩
   rw[gN] at hx
   obtain⟨s,hs,rfl⟩:=pU.mp hx
   have T:=fs m s hs
   have W:=T.now
   have hok:=SM W T.ok
   have htk:ss.take (m+1)=ss.take m++[s]:=by rw[EA,hs]; rfl
   let ρ1:bD:=[A,R,S,L,x4,s0 (aZ (f m).1 (f m).2),s0 (.int (pc (ss.take m))),s0 (spD s)]
   refine⟨ρ1,rfl,?_⟩
   have hdu:aQ lQ (aF (aB 5) (aF (aB 1) aI)) (vS ρ1)=some (spD s):=bI (ds:=[aZ (f m).1 (f m).2,rsD rs]) rfl ((AX W hr).trans (by rw[T.due]; rfl))
   refine cW (ρ':=ρ1) (gZ (jE (x:=false) (jH (sH (a:=spD s) rfl (YW s))) fun _=>cZ (aN hdu rfl (YH s)))) ?_
   have wp:=Pd hok (f:=aB 7) (ρ:=vS ρ1) rfl
   refine hG (fun ρ'=>ρ'=[A,R,S,L,x4,s0 (aZ (f m).1 (f m).2),s0 (.int (pc (ss.take (m+1)))),s0 (spD s)]) ?_ ?_
   ·cases s with
    | put n i=>
     refine gH wp (cW (ρ':=ρ1) (gZ (cZ (bI (ds:=[aZ (f m).1 (f m).2,gF n i,rsD rs,.int (pc (ss.take m))]) rfl ((QP W hr T.ok T.few).trans (by rw[T.past n i rfl]))))) (pC (d:=.int ((pc (ss.take m)+1:Nat):Int)) (aN (a:=.int (pc (ss.take m))) (b:=.int 1) rfl rfl rfl) (by simp[ρ1]) ⟨_,rfl,?_⟩))
     rw[htk,BK]
     rfl
    | five w n i j c=>
     refine lT wp ⟨_,rfl,_,rfl,?_⟩
     rw[htk,BK]
     rfl
   ·rintro _ rfl
    exact pC (bI (ds:=[aZ (f m).1 (f m).2,spD s,rsD rs]) rfl T.bh) (by simp) ⟨_,.inl rfl,s0 (spD s),rfl⟩
  ·rintro _ ⟨x7,rfl⟩
   refine⟨_,rfl,x7,?_⟩
   rw[gM,fl,JX]
 rintro _ ⟨x7,rfl⟩
 exact dH (sN (ds:=[aZ hd ls,.int (pc ss)]) rfl) rfl
end
theorem RA : ∀ ls:List Ln,fQ (ls.map aX) (ls.map aX)=true
 | []=>by simp[fQ]
 | l::ls=>by
  rw[fS]
  have h1:=GX l l
  have h2:=RA ls
  simp only[fQ,h1,h2]
  simp
theorem GG (hd:List aK)(ls:List Ln):bN (aZ hd ls)=true/\bJ (aZ hd ls) (aZ hd ls)=true:=by
 have k1:=yK hd
 have k2:=HP hd
 have k3:=yZ hd hd
 have l1:noDicts (ls.map aX)=true:=qX fun t m=>by
  obtain⟨x,_,rfl⟩:=dP.mp m
  exact(xT x).1
 have l2:bU (ls.map aX)≤5:=sZ fun t m=>by
  obtain⟨x,_,rfl⟩:=dP.mp m
  exact(xT x).2
 have l3:=RA ls
 constructor
 ·simp[bN,noDict,noDicts,k2,l1,cP,bU]
  omega
 ·simp[bJ,fQ,k3,l3]
theorem Ab (hd:List aK)(ls:List Ln):gEq (aZ hd ls) (aZ hd ls)=some (.bool true):=by
 unfold gEq
 rw[(GG hd ls).1,(GG hd ls).2]
 rfl
theorem Nz {ss:List Sk}{f:EF}{ρ:List (Option aA)}(h:f ρ=some (ssD ss)) : ∃ b,cN (eOp gGt (aQ bH (aF f aI)) (eC (.int 0))) (eOp gEq (eOp gIx (eOp gIx f (eOp dE (aQ bH (aF f aI)) (eC (.int 1)))) (eC (.int 0))) (eC (.str "clash"))) ρ=some (.bool b) /\ ∀ ss0 s,ss=ss0++[s]->b=decide (spW s = "clash"):=by
 have el:aQ bH (aF f aI) ρ=some (.int ss.length):=bI (ds:=[ssD ss]) (aW h rfl) (by simp[bH])
 have e0:eOp gGt (aQ bH (aF f aI)) (eC (.int 0)) ρ=some (.bool (decide (0<ss.length))):=aN (a:=.int ss.length) (b:=.int 0) el rfl (EY _)
 by_cases hl:0<ss.length
 ·have hx:ss[ss.length - 1]?=some (ss[ss.length - 1]):=iO (by omega)
  have e1:eOp dE (aQ bH (aF f aI)) (eC (.int 1)) ρ=some (.int ((ss.length - 1:Nat):Int)):=aN (a:=.int ss.length) (b:=.int 1) el rfl (by
   show some (bT ((ss.length:Int) - 1))=_
   congr 2
   omega)
  have e2:eOp gEq (eOp gIx (eOp gIx f (eOp dE (aQ bH (aF f aI)) (eC (.int 1)))) (eC (.int 0))) (eC (.str "clash")) ρ=some (.bool (decide (spW ss[ss.length - 1] = "clash"))):=aN (a:=.str (spW ss[ss.length - 1])) (b:=.str "clash") (aN (b:=.int 0) (aN (a:=ssD ss) h e1 (nH (q:=spD) hx)) rfl (xX _)) rfl (iD _ _)
  refine⟨_,kX e0 fun _=>e2,fun ss0 s e=>?_⟩
  rw[decide_eq_true hl,LC]
  subst e
  congr 2
  simp
 ·rw[decide_eq_false hl] at e0
  refine⟨_,kX (y:=true) e0 (fun q=>nomatch q),fun ss0 s e=>?_⟩
  subst e
  simp at hl
section
variable {wd:aE->Nat}{rs:List Rl}{c0:Cf}{hd:List aK}{ls:List Ln}
theorem Rb (hr : ∀ r∈rs,RlK wd r){word:aE}{ss:List Sk}(F:wW wd rs c0 word hd ls ss):yT [.str word,aZ hd ls,rsD rs,ssD ss,.int (pc ss)]=some (.bool true):=by
 obtain⟨ss0,A,F⟩:=F
 refine iV rfl ?_
 let R:L2.Slot:=s0 (rsD rs)
 refine cW (ρ':=[s0 (.str word),s0 (aZ hd ls),R,s0 (ssD ss),s0 (.int (pc ss)),s0 (eM (dY ls rs)),none]) (fM (m:=.s) (bI (ds:=[aZ hd ls,rsD rs]) rfl (AX A.now hr)) (by simp)) ?_
 obtain⟨b,eb,hb⟩:=Nz (ss:=ss) (f:=aB 3) (ρ:=vS [s0 (.str word),s0 (aZ hd ls),R,s0 (ssD ss),s0 (.int (pc ss)),s0 (eM (dY ls rs)),none]) rfl
 refine eJ eb (by simp) ?_
 let ρ:bD:=[s0 (.str word),s0 (aZ hd ls),R,s0 (ssD ss),s0 (.int (pc ss)),s0 (eM (dY ls rs)),s0 (.bool b)]
 show Goes _ ρ _
 have wt : ∀ w:aE,eOp gEq (aB 0) (eC (.str w)) (vS ρ)=some (.bool (decide (word=w))):=fun w=>aN (a:=.str word) (b:=.str w) rfl rfl (iD _ _)
 rcases F with⟨hw,hs,e⟩ | ⟨hw,n,i,j,c,hs,e,ok⟩ | ⟨hw,hs,n,i,e,ok,hp⟩
 ·have w1:decide (word = "clash")=false:=by rw[hw]; decide +kernel
  have w2:decide (word = "still")=true:=by rw[hw]; decide +kernel
  refine cW (ρ':=ρ) (gZ ((cZ (wt _)).trans (by rw[w1]))) ?_
  refine kY (gH ((cZ (wt _)).trans (by rw[w2])) (dH (d:=.bool true) (aN (a:=eM (dY ls rs)) (b:=.none) rfl rfl (by rw[e]; rfl)) ⟨_,rfl,rfl⟩))
 ·have w1:decide (word = "clash")=true:=by rw[hw]; decide +kernel
  refine kY (gH ((cZ (wt _)).trans (by rw[w1])) (dH (d:=.bool b) rfl ⟨_,rfl,?_⟩))
  rw[hb ss0 _ hs,decide_eq_true (show spW (.five "clash" n i j c) = "clash" from rfl)]
 ·have w1:decide (word = "clash")=false:=by rw[hw]; decide +kernel
  have w2:decide (word = "still")=false:=by rw[hw]; decide +kernel
  have w3:decide (word = "past")=true:=by rw[hw]; decide +kernel
  have eo:=BH e
  refine cW (ρ':=ρ) (gZ ((cZ (wt _)).trans (by rw[w1]))) ?_
  refine cW (ρ':=ρ) (gZ ((cZ (wt _)).trans (by rw[w2]))) ?_
  have e3:=wt "past"
  rw[w3] at e3
  refine dH (d:=.bool true) ?_ rfl
  refine kX (x:=true) (y:=true) e3 fun _=>kX (x:=true) (y:=true) (aN (a:=eM (dY ls rs)) (b:=.none) rfl rfl (by rw[eo]; exact NF _)) fun _=>kX (x:=true) (y:=true) ((aN (a:=.str "put") (b:=.str "put") (aN (a:=eM (dY ls rs)) (b:=.int 0) rfl rfl (by rw[eo]; rfl)) rfl (iD _ _)).trans (by rw[decide_eq_true rfl])) fun _=>?_
  refine bI (ds:=[aZ hd ls,eM (dY ls rs),rsD rs,.int (pc ss)]) rfl ?_
  rw[eo,hs]
  exact(QP A.now hr ok A.puts).trans (by rw[hp])
theorem OY (hr : ∀ r∈rs,RlK wd r){word:aE}{ss:List Sk}(F:wW wd rs c0 word hd ls ss):Path wd rs ss c0 (hd,ls)/\ss.length≤101 /\ ∀ s∈ss.take (ss.length - 1),spW s ≠ "clash":=by
 obtain⟨ss0,A,F⟩:=F
 have key:ss=ss0->Path wd rs ss c0 (hd,ls)/\ss.length≤101 /\ ∀ s∈ss.take (ss.length - 1),spW s ≠ "clash":=by
  rintro rfl
  exact⟨A.path,by have:=A.len; omega,fun s m=>A.noClash s (JY m)⟩
 rcases F with⟨_,hs,_⟩ | ⟨_,n,i,j,c,hs,e,ok⟩ | ⟨_,hs,_⟩
 ·exact key hs
 ·subst hs
  refine⟨A.path.snoc ⟨A.now,e,ok,A.puts,(fun n i z=>nomatch z),?_⟩,by have:=A.len; simp; omega,fun s m=>?_⟩
  ·rcases RT A.now hr (show kE ls rs "clash" n i j c=true from ok) with⟨_,hb⟩ | ⟨e,_⟩
   ·exact hb
   ·exact absurd e (by decide +kernel)
  ·rw[pW,List.length_singleton,Nat.add_sub_cancel,List.take_left] at m
   exact A.noClash s m
 ·exact key hs
theorem RZ {hd0:List aK}{ls0:List Ln}(hl0:ls0.length≤1000)(hr : ∀ r∈rs,RlK wd r){word:aE}{ss:List Sk}(F:wW wd rs (hd0,dJ ls0) word hd ls ss):vN [.tuple [.str word,aZ hd ls,ssD ss],aZ hd0 ls0,rsD rs]=some (.bool true):=by
 obtain⟨P,hlen,hno⟩:=OY hr F
 refine iV rfl ?_
 let D:aA:=.tuple [.str word,aZ hd ls,ssD ss]
 let A:L2.Slot:=s0 (aZ hd0 ls0)
 let R:L2.Slot:=s0 (rsD rs)
 refine cW (ρ':=[s0 D,A,R,none,none,none]) (gZ (jE (x:=false) (jH (x:=true) (sH (a:=D) rfl rfl)) fun _=>jE (x:=false) (y:=false) (cZ (aN (a:=.int 3) (b:=.int 3) (bI (ds:=[D]) rfl rfl) rfl rfl)) fun _=>jH (x:=true) (sH (a:=ssD ss) (aN (a:=D) (b:=.int 2) rfl rfl rfl) rfl))) ?_
 refine eJ (d:=ssD ss) (aN (a:=D) (b:=.int 2) rfl rfl rfl) (by simp) ?_
 let WK:aA:=.list [aZ hd ls,.int (pc ss)]
 refine cW (ρ':=[s0 D,A,R,s0 (ssD ss),s0 WK,none]) (fM (m:=.s) (bI (ds:=[aZ hd0 ls0,rsD rs,ssD ss]) rfl (Do hl0 hr (by omega) P)) (by simp)) ?_
 refine cW (ρ':=[s0 D,A,R,s0 (ssD ss),s0 WK,none]) (gZ (jE (x:=false) (cZ (aN (a:=WK) (b:=.none) rfl rfl rfl)) fun _=>jE (x:=false) (y:=false) (jH (x:=true) (sH (a:=.str word) (aN (a:=D) (b:=.int 0) rfl rfl rfl) rfl)) fun _=>jH (x:=true) (sH (a:=aZ hd ls) (aN (a:=D) (b:=.int 1) rfl rfl rfl) rfl))) ?_
 refine hG (fun ρ'=>∃ x5:L2.Slot,ρ'=[s0 D,A,R,s0 (ssD ss),s0 WK,x5]) ?_ ?_
 ·have sl:=AZ (f:=aB 3) (lo:=oN) (hi:=oS (eUn AU (eC (.int 1)))) (ρ:=vS [s0 D,A,R,s0 (ssD ss),s0 WK,none]) (ds:=ss.map spD) (l:=none) (u:=some (-1)) rfl rfl (IJ (i:=-1) rfl)
  rw[Pc] at sl
  refine xK (ds:=(ss.take (ss.length - 1)).map spD) (fun m ρ'=>∃ x5:L2.Slot,ρ'=[s0 D,A,R,s0 (ssD ss),s0 WK,x5]) (avS (BP sl)) ⟨none,rfl⟩ ?_ ?_
  ·rintro m d _ hx ⟨x5,rfl⟩
   rw[gN] at hx
   obtain⟨s,hs,rfl⟩:=pU.mp hx
   have hn:=hno s (mU hs)
   refine⟨[s0 D,A,R,s0 (ssD ss),s0 WK,s0 (spD s)],rfl,?_⟩
   exact lT ((cZ (aN (a:=.str (spW s)) (b:=.str "clash") (aN (a:=spD s) (b:=.int 0) rfl rfl (xX s)) rfl (iD _ _))).trans (by rw[decide_eq_false hn])) ⟨_,rfl,_,.inl rfl,s0 (spD s),rfl⟩
  ·rintro _ ⟨x5,rfl⟩
   exact⟨_,rfl,x5,rfl⟩
 rintro _ ⟨x5,rfl⟩
 refine dH (d:=.bool true) (kX (x:=true) (y:=true) (aN (a:=aZ hd ls) (b:=aZ hd ls) (aN (a:=D) (b:=.int 1) rfl rfl rfl) (aN (a:=WK) (b:=.int 0) rfl rfl rfl) (Ab hd ls)) fun _=>?_) rfl
 exact bI (ds:=[.str word,aZ hd ls,rsD rs,ssD ss,.int (pc ss)]) (aW (aN (a:=D) (b:=.int 0) rfl rfl rfl) (aW (aN (a:=WK) (b:=.int 0) rfl rfl rfl) (aW rfl (aW rfl (aW (aN (a:=WK) (b:=.int 1) rfl rfl rfl) rfl))))) (Rb hr F)
end
theorem nK {ns:List Int}(hb:sL ns){k:Int}(h0:0≤k)(h1:k≤1000) : ∃ c,iW [lI ns,.int k]=some (.int c):=by
 have : ∃ d,iW [lI ns,.int k]=some d /\ ∃ c,d = .int c:=by
  refine iH rfl ?_
  have hlen:bH [lI ns]=some (.int ns.length):=by simp[bH]
  have at_ : ∀ i:Int,0≤i->i<ns.length -> ∃ c,gIx (lI ns) (.int i)=some (.int c)/\c∈ns:=fun i a b=>by
   obtain⟨j,rfl⟩:=jL a
   have hj:j<ns.length:=by omega
   exact⟨ns[j],nH (iO hj),KC hj⟩
  by_cases hl:k<(ns.length:Int)
  ·obtain⟨c,e,_⟩:=at_ k h0 hl
   exact kY (gH (by simp[fnD,aS,bB,bK,eB,sIf,dD,eK,eO,eN,cV,frz,bY,eV,bV,aV,vS,vA,eOp,eUn,aB,eC,aQ,cF,cU,aF,aI,bOf,cQ,dI,bOr,asB,cN,eOr,dS,dU,eG,eIf,gNm,getL,dQ,outD,iIt,itemsOf,bQ,dE,cO,bM,cB,dR,g2I,g2C,gLt,gLe,gGt,gGe,bH,cT,dM,isK,dB,dZ,dX,gEq,gNe,bN,noDict,noDicts,cP,bU,bJ,cS,bS,cJ,gB,hl]) (dH (d:=.int c) (aN (a:=lI ns) (b:=.int k) rfl rfl e) ⟨_,rfl,_,rfl,c,rfl⟩))
  ·refine cW (gZ (by simp[fnD,aS,bB,bK,eB,sIf,dD,eK,eO,eN,cV,frz,bY,eV,bV,aV,vS,vA,eOp,eUn,aB,eC,aQ,cF,cU,aF,aI,bOf,cQ,dI,bOr,asB,cN,eOr,dS,dU,eG,eIf,gNm,getL,dQ,outD,iIt,itemsOf,bQ,dE,cO,bM,cB,dR,g2I,g2C,gLt,gLe,gGt,gGe,bH,cT,dM,isK,dB,dZ,dX,gEq,gNe,bN,noDict,noDicts,cP,bU,bJ,cS,bS,cJ,gB,hl])) ?_
   have hk:k.natAbs<18446744073709551616:=by omega
   refine eJ (d:=.int (k*k*7919+11*k+5)) (by simp[fnD,aS,bB,bK,eB,sIf,dD,eK,eO,eN,cV,frz,bY,eV,bV,aV,vS,vA,eOp,eUn,aB,eC,aQ,cF,cU,aF,aI,bOf,cQ,dI,bOr,asB,cN,eOr,dS,dU,eG,eIf,gNm,getL,dQ,outD,iIt,itemsOf,bQ,dE,cO,bM,cB,dR,g2I,g2C,gLt,gLe,gGt,gGe,bH,cT,dM,isK,dB,dZ,dX,gEq,gNe,bN,noDict,noDicts,cP,bU,bJ,cS,bS,cJ,gB,mY,hk]) (by simp) ?_
   have b0:(k*k*7919+11*k+5).natAbs<2 ^ 64:=by
    have h2:k*k≤1000*1000:=KI h1 h1 h0 (by omega)
    have h3:0≤k*k:=KH h0 h0
    generalize k*k=q at *
    omega
   generalize k*k*7919+11*k+5=n0 at b0
   refine hG (fun ρ'=>∃ N,jC N+jC N≤134217728/\ρ'=[s0 (lI ns),s0 (.int k),s0 (.int N)]) ?_ ?_
   ·by_cases hz:0<ns.length
    ·have hz':(0:Int)<ns.length:=by omega
     obtain⟨v,e,mv⟩:=at_ (k*7%(ns.length:Int)) (eF _ hz').1 (eF _ hz').2
     have hv:=Re (n0:=n0) (by omega) b0 (hb v mv)
     refine gH (by simp[fnD,aS,bB,bK,eB,sIf,dD,eK,eO,eN,cV,frz,bY,eV,bV,aV,vS,vA,eOp,eUn,aB,eC,aQ,cF,cU,aF,aI,bOf,cQ,dI,bOr,asB,cN,eOr,dS,dU,eG,eIf,gNm,getL,dQ,outD,iIt,itemsOf,bQ,dE,cO,bM,cB,dR,g2I,g2C,gLt,gLe,gGt,gGe,bH,cT,dM,isK,dB,dZ,dX,gEq,gNe,bN,noDict,noDicts,cP,bU,bJ,cS,bS,cJ,gB,hz]) (pC (d:=.int (n0+v*48271)) (aN (a:=.int n0) (b:=.int (v*48271)) rfl (aN (a:=.int v) (b:=.int 48271) (aN (a:=lI ns) (b:=.int (k*7%(ns.length:Int))) rfl (aN (a:=.int (k*7)) (b:=.int ns.length) (by simp[fnD,aS,bB,bK,eB,sIf,dD,eK,eO,eN,cV,frz,bY,eV,bV,aV,vS,vA,eOp,eUn,aB,eC,aQ,cF,cU,aF,aI,bOf,cQ,dI,bOr,asB,cN,eOr,dS,dU,eG,eIf,gNm,getL,dQ,outD,iIt,itemsOf,bQ,dE,cO,bM,cB,dR,g2I,g2C,gLt,gLe,gGt,gGe,bH,cT,dM,isK,dB,dZ,dX,gEq,gNe,bN,noDict,noDicts,cP,bU,bJ,cS,bS,cJ,gB,mY]) (bI (ds:=[lI ns]) rfl hlen) (by simp[fnD,aS,bB,bK,eB,sIf,dD,eK,eO,eN,cV,frz,bY,eV,bV,aV,vS,vA,eOp,eUn,aB,eC,aQ,cF,cU,aF,aI,bOf,cQ,dI,bOr,asB,cN,eOr,dS,dU,eG,eIf,gNm,getL,dQ,outD,iIt,itemsOf,bQ,dE,cO,bM,cB,dR,g2I,g2C,gLt,gLe,gGt,gGe,bH,cT,dM,isK,dB,dZ,dX,gEq,gNe,bN,noDict,noDicts,cP,bU,bJ,cS,bS,cJ,gB,hz])) e) rfl (by simp[fnD,aS,bB,bK,eB,sIf,dD,eK,eO,eN,cV,frz,bY,eV,bV,aV,vS,vA,eOp,eUn,aB,eC,aQ,cF,cU,aF,aI,bOf,cQ,dI,bOr,asB,cN,eOr,dS,dU,eG,eIf,gNm,getL,dQ,outD,iIt,itemsOf,bQ,dE,cO,bM,cB,dR,g2I,g2C,gLt,gLe,gGt,gGe,bH,cT,dM,isK,dB,dZ,dX,gEq,gNe,bN,noDict,noDicts,cP,bU,bJ,cS,bS,cJ,gB,mY])) rfl) (by simp) ⟨_,rfl,_,?_,rfl⟩)
     omega
    ·have hz':ns=[]:=by
      cases ns with
      | nil=>rfl
      | cons a r=>exact absurd (by simp) hz
     subst hz'
     have:=bits_le (n:=64) b0
     exact lT (by simp[fnD,aS,bB,bK,eB,sIf,dD,eK,eO,eN,cV,frz,bY,eV,bV,aV,vS,vA,eOp,eUn,aB,eC,aQ,cF,cU,aF,aI,bOf,cQ,dI,bOr,asB,cN,eOr,dS,dU,eG,eIf,gNm,getL,dQ,outD,iIt,itemsOf,bQ,dE,cO,bM,cB,dR,g2I,g2C,gLt,gLe,gGt,gGe,bH,cT,dM,isK,dB,dZ,dX,gEq,gNe,bN,noDict,noDicts,cP,bU,bJ,cS,bS,cJ,gB]) (pD ⟨_,rfl,n0,by omega,rfl⟩)
   ·rintro _ ⟨N,hN,rfl⟩
    refine dH (d:=.int (N*N%2147483629)) (aN (a:=.int (N*N)) (b:=.int 2147483629) (aN (a:=.int N) (b:=.int N) rfl rfl (Mt hN)) rfl (by simp[fnD,aS,bB,bK,eB,sIf,dD,eK,eO,eN,cV,frz,bY,eV,bV,aV,vS,vA,eOp,eUn,aB,eC,aQ,cF,cU,aF,aI,bOf,cQ,dI,bOr,asB,cN,eOr,dS,dU,eG,eIf,gNm,getL,dQ,outD,iIt,itemsOf,bQ,dE,cO,bM,cB,dR,g2I,g2C,gLt,gLe,gGt,gGe,bH,cT,dM,isK,dB,dZ,dX,gEq,gNe,bN,noDict,noDicts,cP,bU,bJ,cS,bS,cJ,gB])) ⟨_,rfl,_,rfl⟩
 obtain⟨d,e,c,rfl⟩:=this
 exact⟨c,e⟩
noncomputable def sg (f:Int)(at':Nat)(k j:Nat):Nat:=97+((f+((j:Int)*j+(if j=at' then 1 else 0)*((k:Int)+1)))%26).toNat
noncomputable def iB (f:Int)(at' k j:Nat):aE:=⟨((cE j).map (sg f at' k)).toArray⟩
theorem Fh (f:Int)(at' k j:Nat):iB f at' k j++(⟨#[sg f at' k j]⟩:aE)=iB f at' k (j+1):=by
 show(⟨(iB f at' k j).cps ++ #[sg f at' k j]⟩:aE)=_
 unfold iB
 rw[List.range_succ,oU]
 simp
theorem Ra {f:Int}{at' k k' L:Nat}(ha:at'<L)(hk:k<26)(hk':k'<26)(h:iB f at' k L=iB f at' k' L):k=k':=by
 have h1:((cE L).map (sg f at' k))=((cE L).map (sg f at' k')):=by
  have:(iB f at' k L).cps=(iB f at' k' L).cps:=by rw[h]
  unfold iB at this
  simpa using congrArg Array.toList this
 have h2:=congrArg (fun l=>l[at']?) h1
 simp only[gN,wL ha,rP] at h2
 have h3:=gW h2
 unfold sg at h3
 rw[if_pos rfl,Int.one_mul,Int.one_mul] at h3
 generalize f+(at':Int)*at'=g at *
 have e1:f+((at':Int)*at'+((k:Int)+1))=(f+(at':Int)*at')+(k+1):=by omega
 have e2:f+((at':Int)*at'+((k':Int)+1))=(f+(at':Int)*at')+(k'+1):=by omega
 rw[e1,e2] at h3
 generalize f+(at':Int)*at'=g at *
 omega
theorem Qo:("abcdefghijklmnopqrstuvwxyz" : aE).cps.toList=(cE 26).map (97 + ·):=by decide +kernel
theorem Bd {A:aE}(hA:A.cps.toList=(cE 26).map (97 + ·))(hl:A.length=26){i:Nat}(h:i<26):gIx (.str A) (.int i)=some (.str ⟨#[97+i]⟩):=by
 show(if A.length≤sizeLine then(atI A.cps.toList (i:Int)).bind fun c=>some (kM ⟨#[c]⟩) else none)=_
 rw[if_pos (jT (by omega)),sS (v:=97+i) (by rw[hA,gN,wL h]; rfl)]
 rfl
theorem Pr (f:Int)(at' k j:Nat):(iB f at' k j).length=j:=by simp[iB,Str.length]
noncomputable def nmL (c:Int):Nat:=(1+c%12).toNat
noncomputable def nmA (c:Int):Nat:=(c / 12%(1+c%12)).toNat
noncomputable def nm (c:Int)(k:Nat):aE:=iB (c / 144%26) (nmA c) k (nmL c)
theorem Bs {c:Int}{k k':Nat}(hk:k<26)(hk':k'<26)(h:nm c k=nm c k'):k=k':=by
 have b:=eF c (show(0:Int)<12 by decide)
 have b2:=eF (c / 12) (show(0:Int)<1+c%12 by omega)
 exact Ra (L:=nmL c) (by unfold nmA nmL; omega) hk hk' h
theorem NV (c:Int){n:Nat}(hn:n≤20):rC [.int c,.int n]=some (.list (((cE n).map (nm c)).map kM)):=by
 have : ∃ d,rC [.int c,.int n]=some d/\d = .list (((cE n).map (nm c)).map kM):=by
  refine iH rfl ?_
  obtain⟨A,hA,al,as⟩ : ∃ A:aE,A = "abcdefghijklmnopqrstuvwxyz" /\ A.length=26/\A.cps.toList=(cE 26).map (97 + ·):=⟨_,rfl,Bg,Qo⟩
  refine eJ (d:=.str A) (by rw[hA]; rfl) (by simp) ?_
  clear hA
  have b:=eF c (show(0:Int)<12 by decide)
  have b2:=eF (c / 12) (show(0:Int)<1+c%12 by omega)
  have eL:(1+c%12:Int)=(nmL c:Nat):=by unfold nmL; omega
  have eA:(c / 12%(1+c%12):Int)=(nmA c:Nat):=by unfold nmA; omega
  have hL:nmL c≤12:=by unfold nmL; omega
  have hLp:0<nmL c:=by unfold nmL; omega
  refine eJ (d:=.int (nmL c)) (by rw[← eL]; simp[fnD,aS,bB,bK,eB,sIf,dD,eK,eO,eN,cV,frz,bY,eV,bV,aV,vS,vA,eOp,eUn,aB,eC,aQ,cF,cU,aF,aI,bOf,cQ,dI,bOr,asB,cN,eOr,dS,dU,eG,eIf,gNm,getL,dQ,outD,iIt,itemsOf,bQ,dE,cO,bM,cB,dR,g2I,g2C,gLt,gLe,gGt,gGe,bH,cT,dM,isK,dB,dZ,dX,gEq,gNe,bN,noDict,noDicts,cP,bU,bJ,cS,bS,cJ,gB]) (by simp) ?_
  refine eJ (d:=.int (nmA c)) (aN (a:=.int (c / 12)) (b:=.int (nmL c)) (by simp[fnD,aS,bB,bK,eB,sIf,dD,eK,eO,eN,cV,frz,bY,eV,bV,aV,vS,vA,eOp,eUn,aB,eC,aQ,cF,cU,aF,aI,bOf,cQ,dI,bOr,asB,cN,eOr,dS,dU,eG,eIf,gNm,getL,dQ,outD,iIt,itemsOf,bQ,dE,cO,bM,cB,dR,g2I,g2C,gLt,gLe,gGt,gGe,bH,cT,dM,isK,dB,dZ,dX,gEq,gNe,bN,noDict,noDicts,cP,bU,bJ,cS,bS,cJ,gB]) rfl (by
   show(if 0<((nmL c:Nat):Int) then some (bT (c / 12%(nmL c:Nat))) else none)=_
   rw[if_pos (by omega),← eL,eA])) (by simp) ?_
  refine eJ (d:=.int (c / 144%26)) (by simp[fnD,aS,bB,bK,eB,sIf,dD,eK,eO,eN,cV,frz,bY,eV,bV,aV,vS,vA,eOp,eUn,aB,eC,aQ,cF,cU,aF,aI,bOf,cQ,dI,bOr,asB,cN,eOr,dS,dU,eG,eIf,gNm,getL,dQ,outD,iIt,itemsOf,bQ,dE,cO,bM,cB,dR,g2I,g2C,gLt,gLe,gGt,gGe,bH,cT,dM,isK,dB,dZ,dX,gEq,gNe,bN,noDict,noDicts,cP,bU,bJ,cS,bS,cJ,gB]) (by simp) ?_
  have bf:=eF (c / 144) (show(0:Int)<26 by decide)
  have hnm : ∀ k,nm c k=iB (c / 144%26) (nmA c) k (nmL c):=fun _=>rfl
  generalize c / 144%26=f at bf hnm
  generalize nmA c=at' at hnm
  generalize nmL c=L at hL hLp hnm
  clear eL eA
  refine eJ (d:=.list []) rfl (by simp) ?_
  refine hG (fun ρ'=>∃ x7 x8 x9 x10:L2.Slot,ρ'=[s0 (.int c),s0 (.int n),s0 (.str A),s0 (.int L),s0 (.int at'),s0 (.int f),some (1,.list (((cE n).map (nm c)).map kM)),x7,x8,x9,x10]) ?_ ?_
  ·refine sR (n:=n) (fun k ρ'=>∃ x7 x8 x9 x10:L2.Slot,ρ'=[s0 (.int c),s0 (.int n),s0 (.str A),s0 (.int L),s0 (.int at'),s0 (.int f),some (1,.list (((cE k).map (nm c)).map kM)),x7,x8,x9,x10]) (avS (oF rfl (by omega))) ⟨none,none,none,none,rfl⟩ ?_ ?_
   ·rintro k _ hk ⟨x7,x8,x9,x10,rfl⟩
    refine⟨[s0 (.int c),s0 (.int n),s0 (.str A),s0 (.int L),s0 (.int at'),s0 (.int f),some (1,.list (((cE k).map (nm c)).map kM)),s0 (.int k),x8,x9,x10],rfl,?_⟩
    refine eJ (d:=.str (iB f at' k 0)) rfl (by simp) ?_
    refine hG (fun ρ'=>∃ x9 x10:L2.Slot,ρ'=[s0 (.int c),s0 (.int n),s0 (.str A),s0 (.int L),s0 (.int at'),s0 (.int f),some (1,.list (((cE k).map (nm c)).map kM)),s0 (.int k),s0 (.str (nm c k)),x9,x10]) ?_ ?_
    ·refine sR (n:=L) (fun j ρ'=>∃ x9 x10:L2.Slot,ρ'=[s0 (.int c),s0 (.int n),s0 (.str A),s0 (.int L),s0 (.int at'),s0 (.int f),some (1,.list (((cE k).map (nm c)).map kM)),s0 (.int k),s0 (.str (iB f at' k j)),x9,x10]) (avS (oF rfl (by omega))) ⟨x9,x10,rfl⟩ ?_ ?_
     ·rintro j _ hj ⟨y9,y10,rfl⟩
      refine⟨[s0 (.int c),s0 (.int n),s0 (.str A),s0 (.int L),s0 (.int at'),s0 (.int f),some (1,.list (((cE k).map (nm c)).map kM)),s0 (.int k),s0 (.str (iB f at' k j)),s0 (.int j),y10],rfl,?_⟩
      let w:Int:=(j:Int)*j+(if j=at' then 1 else 0)*((k:Int)+1)
      refine eJ (d:=.int w) ?_ (by simp) ?_
      ·refine aN (a:=.int ((j:Int)*j)) (b:=.int ((if j=at' then 1 else 0)*((k:Int)+1))) ?_ (aN (a:=.int (if j=at' then 1 else 0)) (b:=.int ((k:Int)+1)) (bI (ds:=[.bool (decide (j=at'))]) (aW (aN (a:=.int j) (b:=.int at') rfl rfl (by rw[qN]; simp; omega)) rfl) ?_) (by simp[fnD,aS,bB,bK,eB,sIf,dD,eK,eO,eN,cV,frz,bY,eV,bV,aV,vS,vA,eOp,eUn,aB,eC,aQ,cF,cU,aF,aI,bOf,cQ,dI,bOr,asB,cN,eOr,dS,dU,eG,eIf,gNm,getL,dQ,outD,iIt,itemsOf,bQ,dE,cO,bM,cB,dR,g2I,g2C,gLt,gLe,gGt,gGe,bH,cT,dM,isK,dB,dZ,dX,gEq,gNe,bN,noDict,noDicts,cP,bU,bJ,cS,bS,cJ,gB]) ?_) rfl
       ·have:(j:Int).natAbs<18446744073709551616:=by omega
        simp[fnD,aS,bB,bK,eB,sIf,dD,eK,eO,eN,cV,frz,bY,eV,bV,aV,vS,vA,eOp,eUn,aB,eC,aQ,cF,cU,aF,aI,bOf,cQ,dI,bOr,asB,cN,eOr,dS,dU,eG,eIf,gNm,getL,dQ,outD,iIt,itemsOf,bQ,dE,cO,bM,cB,dR,g2I,g2C,gLt,gLe,gGt,gGe,bH,cT,dM,isK,dB,dZ,dX,gEq,gNe,bN,noDict,noDicts,cP,bU,bJ,cS,bS,cJ,gB]
        try omega
       ·by_cases q:j=at' <;> simp[q,dX]
       ·by_cases q:j=at' <;> simp[q,fnD,aS,bB,bK,eB,sIf,dD,eK,eO,eN,cV,frz,bY,eV,bV,aV,vS,vA,eOp,eUn,aB,eC,aQ,cF,cU,aF,aI,bOf,cQ,dI,bOr,asB,cN,eOr,dS,dU,eG,eIf,gNm,getL,dQ,outD,iIt,itemsOf,bQ,dE,cO,bM,cB,dR,g2I,g2C,gLt,gLe,gGt,gGe,bH,cT,dM,isK,dB,dZ,dX,gEq,gNe,bN,noDict,noDicts,cP,bU,bJ,cS,bS,cJ,gB]
      have bw:=eF (f+w) (show(0:Int)<26 by decide)
      obtain⟨i,ei⟩:=jL bw.1
      have hi:i<26:=by omega
      refine pC (d:=.str (iB f at' k (j+1))) (aN (a:=.str (iB f at' k j)) (b:=.str ⟨#[97+i]⟩) rfl (aN (a:=.str A) (b:=.int i) rfl (aN (a:=.int (f+w)) (b:=.int 26) (by simp[fnD,aS,bB,bK,eB,sIf,dD,eK,eO,eN,cV,frz,bY,eV,bV,aV,vS,vA,eOp,eUn,aB,eC,aQ,cF,cU,aF,aI,bOf,cQ,dI,bOr,asB,cN,eOr,dS,dU,eG,eIf,gNm,getL,dQ,outD,iIt,itemsOf,bQ,dE,cO,bM,cB,dR,g2I,g2C,gLt,gLe,gGt,gGe,bH,cT,dM,isK,dB,dZ,dX,gEq,gNe,bN,noDict,noDicts,cP,bU,bJ,cS,bS,cJ,gB]) rfl (by rw[← ei]; simp[fnD,aS,bB,bK,eB,sIf,dD,eK,eO,eN,cV,frz,bY,eV,bV,aV,vS,vA,eOp,eUn,aB,eC,aQ,cF,cU,aF,aI,bOf,cQ,dI,bOr,asB,cN,eOr,dS,dU,eG,eIf,gNm,getL,dQ,outD,iIt,itemsOf,bQ,dE,cO,bM,cB,dR,g2I,g2C,gLt,gLe,gGt,gGe,bH,cT,dM,isK,dB,dZ,dX,gEq,gNe,bN,noDict,noDicts,cP,bU,bJ,cS,bS,cJ,gB])) (Bd as al hi)) ?_) (by simp) ⟨_,.inl rfl,_,_,rfl⟩
      show(if (iB f at' k j).length+(⟨#[97+i]⟩:aE).length≤sizeLine then some (kM (iB f at' k j++⟨#[97+i]⟩)) else none)=_
      rw[if_pos (jT (by rw[Pr]; show j+1≤100000; omega)),← Fh]
      have:sg f at' k j=97+i:=by
       show 97+((f+w)%26).toNat=97+i
       rw[ei]
       simp
      rw[this]
     ·rintro _ ⟨y9,y10,rfl⟩
      exact⟨_,rfl,y9,y10,by rw[hnm]⟩
    ·rintro _ ⟨y9,y10,rfl⟩
     refine qM (d:=.str (nm c k)) (ds:=((cE k).map (nm c)).map kM) rfl rfl (by simp; omega) ⟨_,.inl rfl,s0 (.int k),s0 (.str (nm c k)),y9,y10,?_⟩
     rw[List.range_succ,oU,oU]
     rfl
   ·rintro _ ⟨x7,x8,x9,x10,rfl⟩
    exact⟨_,rfl,x7,x8,x9,x10,rfl⟩
  ·rintro _ ⟨x7,x8,x9,x10,rfl⟩
   exact⟨_,rfl,_,rfl,rfl⟩
 obtain⟨d,e,rfl⟩:=this
 exact e
theorem AY (c:Int)(k:Nat):fA (.str (nm c k))=true:=by
 refine Aq fun x m=>?_
 have m:x∈(cE (nmL c)).map (sg (c / 144%26) (nmA c) k):=by simpa [nm,iB] using m
 obtain⟨j,_,rfl⟩:=dP.mp m
 have b:=eF (c / 144%26+((j:Int)*j+(if j=nmA c then 1 else 0)*((k:Int)+1))) (show(0:Int)<26 by decide)
 unfold sg
 generalize c / 144%26+((j:Int)*j+(if j=nmA c then 1 else 0)*((k:Int)+1))=z at b
 have h:(z%26).toNat<26:=by omega
 generalize(z%26).toNat=y at h
 simp[xR,letter]
 omega
noncomputable abbrev fX (c:Int)(nt:Nat):aA:=.list (((cE nt).map (nm c)).map kM)
theorem sM (c:Int){a nt:Nat}(h:a<nt):gIx (fX c nt) (.int a)=some (.str (nm c a)):=nH (q:=kM) (by rw[gN,wL h]; rfl)
theorem xZ (c:Int)(nt:Nat):bH [fX c nt]=some (.int nt):=by simp[bH]
theorem IW {ws:List Nat}{a:Nat}(h:a<ws.length):gIx (lN ws) (.int a)=some (.int (ws.getD a 0)):=nH (q:=fun(c:Nat)=>bT c) (getD_some 0 h)
noncomputable def wdG (c:Int)(ws:List Nat)(z:aE):Nat->Nat
 | 0=>0
 | n+1=>if z=nm c n then ws.getD n 0 else wdG c ws z n
noncomputable def wdF (c:Int)(ws:List Nat)(z:aE):Nat:=wdG c ws z 5
theorem SY (c:Int)(ws:List Nat){a:Nat} : ∀ {n:Nat},n≤26->a<n->wdG c ws (nm c a) n=ws.getD a 0
 | 0,_,h=>by omega
 | n+1,hn,h=>by
  show(if nm c a=nm c n then ws.getD n 0 else wdG c ws (nm c a) n)=_
  by_cases e:nm c a=nm c n
  ·rw[if_pos e,Bs (by omega) (by omega) e]
  ·rw[if_neg e]
   refine SY c ws (by omega) ?_
   rcases Nat.lt_or_ge a n with q | q
   ·exact q
   ·exact absurd (by rw[show a=n by omega]) e
theorem BD (c:Int)(ws:List Nat){a:Nat}(h:a<5):wdF c ws (nm c a)=ws.getD a 0:=SY c ws (by omega) h
theorem Qc {xs ys:List aK}(h:xs.length+ys.length≤1000):uF (lK xs) (lK ys)=some (lK (xs++ys)):=by
 show(if (xs.map kD).length+(ys.map kD).length≤sizeLine then some (lE (xs.map kD++ys.map kD)) else none)=_
 rw[if_pos (jT (by simp; omega)),← oU]
theorem OK (ks:List aK){m:Nat}:cutD (ks.map kD) none (some (m:Int))=(ks.take m).map kD:=by
 unfold cutD
 have h1:HT.sIx (ks.map kD).length 0 none=0:=rfl
 rw[h1,VL,Nat.sub_zero,← JZ]
 have h2:HT.sIx (ks.map kD).length (ks.map kD).length (some (m:Int))=min m ks.length:=by
  simp[HT.sIx]
  omega
 rw[h2]
 congr 1
 rcases Nat.le_total m ks.length with h | h
 ·rw[JU h]
 ·rw[VC h,DZ h,DZ (dA _)]
theorem Mr (a b:Int) : ∃ ks:List aK,vK [.int a,.int b]=some (lK ks)/\0<ks.length/\ks.length≤100 /\ ∀ k∈ks,jO k:=by
 have : ∃ d,vK [.int a,.int b]=some d /\ ∃ ks:List aK,d=lK ks/\0<ks.length/\ks.length≤100 /\ ∀ k∈ks,jO k:=by
  refine iH rfl ?_
  refine eJ (d:=lK [.inr "n1",.inr "n2",.inr "n3",.inr "n4",.inr "n5"]) rfl (by simp) ?_
  refine hG (fun ρ'=>∃ ks:List aK,(ks.length=5 /\ ∀ k∈ks,jO k)/\ρ'=[s0 (.int a),s0 (.int b),s0 (lK ks),none,none]) ?_ ?_
  ·by_cases h2:a%2=0
   ·have e:=NV (a / 2) (n:=5) (by omega)
    refine gH (by simp[fnD,aS,bB,bK,eB,sIf,dD,eK,eO,eN,cV,frz,bY,eV,bV,aV,vS,vA,eOp,eUn,aB,eC,aQ,cF,cU,aF,aI,bOf,cQ,dI,bOr,asB,cN,eOr,dS,dU,eG,eIf,gNm,getL,dQ,outD,iIt,itemsOf,bQ,dE,cO,bM,cB,dR,g2I,g2C,gLt,gLe,gGt,gGe,bH,cT,dM,isK,dB,dZ,dX,gEq,gNe,bN,noDict,noDicts,cP,bU,bJ,cS,bS,cJ,gB,h2]) (pC (d:=lK (((cE 5).map (nm (a / 2))).map iX)) (bI (ds:=[.int (a / 2),.int (5:Nat)]) (aW (by simp[fnD,aS,bB,bK,eB,sIf,dD,eK,eO,eN,cV,frz,bY,eV,bV,aV,vS,vA,eOp,eUn,aB,eC,aQ,cF,cU,aF,aI,bOf,cQ,dI,bOr,asB,cN,eOr,dS,dU,eG,eIf,gNm,getL,dQ,outD,iIt,itemsOf,bQ,dE,cO,bM,cB,dR,g2I,g2C,gLt,gLe,gGt,gGe,bH,cT,dM,isK,dB,dZ,dX,gEq,gNe,bN,noDict,noDicts,cP,bU,bJ,cS,bS,cJ,gB]) (aW rfl rfl)) (e.trans ?_)) (by simp) ⟨_,rfl,_,⟨by simp,fun k m=>by
     obtain⟨z,mz,rfl⟩:=dP.mp m
     obtain⟨y,_,rfl⟩:=dP.mp mz
     exact AY _ y⟩,rfl⟩)
    show some (lE _)=some (lE _)
    rw[kO (f:=iX)]
    rfl
   ·exact lT (by simp[fnD,aS,bB,bK,eB,sIf,dD,eK,eO,eN,cV,frz,bY,eV,bV,aV,vS,vA,eOp,eUn,aB,eC,aQ,cF,cU,aF,aI,bOf,cQ,dI,bOr,asB,cN,eOr,dS,dU,eG,eIf,gNm,getL,dQ,outD,iIt,itemsOf,bQ,dE,cO,bM,cB,dR,g2I,g2C,gLt,gLe,gGt,gGe,bH,cT,dM,isK,dB,dZ,dX,gEq,gNe,bN,noDict,noDicts,cP,bU,bJ,cS,bS,cJ,gB,h2]) (pD ⟨_,rfl,_,⟨rfl,fun k m=>by
     simp only[fG,wJ,or_false] at m
     rcases m with rfl | rfl | rfl | rfl | rfl <;> (show fA (.str _)=true; decide +kernel)⟩,rfl⟩)
  rintro _ ⟨ks,⟨hk,hky⟩,rfl⟩
  refine eJ (d:=.int (b / 48%10 ^ 60)) (by simp[fnD,aS,bB,bK,eB,sIf,dD,eK,eO,eN,cV,frz,bY,eV,bV,aV,vS,vA,eOp,eUn,aB,eC,aQ,cF,cU,aF,aI,bOf,cQ,dI,bOr,asB,cN,eOr,dS,dU,eG,eIf,gNm,getL,dQ,outD,iIt,itemsOf,bQ,dE,cO,bM,cB,dR,g2I,g2C,gLt,gLe,gGt,gGe,bH,cT,dM,isK,dB,dZ,dX,gEq,gNe,bN,noDict,noDicts,cP,bU,bJ,cS,bS,cJ,gB]) (by simp) ?_
  generalize b / 48%10 ^ 60=far
  refine hG (fun ρ'=>∃ far:Int,ρ'=[s0 (.int a),s0 (.int b),s0 (lK ks),s0 (.int far),none]) ?_ ?_
  ·by_cases h2:b / 24%2=1
   ·exact gH (by simp[fnD,aS,bB,bK,eB,sIf,dD,eK,eO,eN,cV,frz,bY,eV,bV,aV,vS,vA,eOp,eUn,aB,eC,aQ,cF,cU,aF,aI,bOf,cQ,dI,bOr,asB,cN,eOr,dS,dU,eG,eIf,gNm,getL,dQ,outD,iIt,itemsOf,bQ,dE,cO,bM,cB,dR,g2I,g2C,gLt,gLe,gGt,gGe,bH,cT,dM,isK,dB,dZ,dX,gEq,gNe,bN,noDict,noDicts,cP,bU,bJ,cS,bS,cJ,gB,h2]) (pC (d:=.int (10 ^ 35*10 ^ 35 - 1 - far%10 ^ 9)) (by simp[fnD,aS,bB,bK,eB,sIf,dD,eK,eO,eN,cV,frz,bY,eV,bV,aV,vS,vA,eOp,eUn,aB,eC,aQ,cF,cU,aF,aI,bOf,cQ,dI,bOr,asB,cN,eOr,dS,dU,eG,eIf,gNm,getL,dQ,outD,iIt,itemsOf,bQ,dE,cO,bM,cB,dR,g2I,g2C,gLt,gLe,gGt,gGe,bH,cT,dM,isK,dB,dZ,dX,gEq,gNe,bN,noDict,noDicts,cP,bU,bJ,cS,bS,cJ,gB]) (by simp) ⟨_,rfl,_,rfl⟩)
   ·exact lT (by simp[fnD,aS,bB,bK,eB,sIf,dD,eK,eO,eN,cV,frz,bY,eV,bV,aV,vS,vA,eOp,eUn,aB,eC,aQ,cF,cU,aF,aI,bOf,cQ,dI,bOr,asB,cN,eOr,dS,dU,eG,eIf,gNm,getL,dQ,outD,iIt,itemsOf,bQ,dE,cO,bM,cB,dR,g2I,g2C,gLt,gLe,gGt,gGe,bH,cT,dM,isK,dB,dZ,dX,gEq,gNe,bN,noDict,noDicts,cP,bU,bJ,cS,bS,cJ,gB,h2]) (pD ⟨_,rfl,_,rfl⟩)
  rintro _ ⟨far',rfl⟩
  have b2:=eF (b / 12) (show(0:Int)<2 by decide)
  have hs:(1 - b / 12%2*2).natAbs<18446744073709551616:=by omega
  refine eJ (d:=lK [.inl 0,.inl (far'*(1 - b / 12%2*2))]) (sN (aW rfl (aW (g:=aI) (d:=.int (far'*(1 - b / 12%2*2))) (by simp[fnD,aS,bB,bK,eB,sIf,dD,eK,eO,eN,cV,frz,bY,eV,bV,aV,vS,vA,eOp,eUn,aB,eC,aQ,cF,cU,aF,aI,bOf,cQ,dI,bOr,asB,cN,eOr,dS,dU,eG,eIf,gNm,getL,dQ,outD,iIt,itemsOf,bQ,dE,cO,bM,cB,dR,g2I,g2C,gLt,gLe,gGt,gGe,bH,cT,dM,isK,dB,dZ,dX,gEq,gNe,bN,noDict,noDicts,cP,bU,bJ,cS,bS,cJ,gB,hs]) rfl))) (by simp) ?_
  generalize far'*(1 - b / 12%2*2)=v
  obtain⟨m1,e1⟩:=jL (eF b (show(0:Int)<4 by decide)).1
  obtain⟨m2,e2⟩:=jL (eF (b / 4) (show(0:Int)<3 by decide)).1
  have g1:pM (aB 2) oN (oS (eOp bQ (eC (.int 2)) (eOp bM (aB 1) (eC (.int 4))))) (vS [s0 (.int a),s0 (.int b),s0 (lK ks),s0 (.int far'),s0 (lK [.inl 0,.inl v])])=some (lK (ks.take (2+m1))):=by
   rw[AZ (ds:=ks.map kD) (l:=none) (u:=some ((2+m1:Nat):Int)) rfl rfl (by simp[fnD,aS,bB,bK,eB,sIf,dD,eK,eO,eN,cV,frz,bY,eV,bV,aV,vS,vA,eOp,eUn,aB,eC,aQ,cF,cU,aF,aI,bOf,cQ,dI,bOr,asB,cN,eOr,dS,dU,eG,eIf,gNm,getL,dQ,outD,iIt,itemsOf,bQ,dE,cO,bM,cB,dR,g2I,g2C,gLt,gLe,gGt,gGe,bH,cT,dM,isK,dB,dZ,dX,gEq,gNe,bN,noDict,noDicts,cP,bU,bJ,cS,bS,cJ,gB,oS,e1]),OK]
  have g2:pM (aB 4) oN (oS (eOp bM (eOp cB (aB 1) (eC (.int 4))) (eC (.int 3)))) (vS [s0 (.int a),s0 (.int b),s0 (lK ks),s0 (.int far'),s0 (lK [.inl 0,.inl v])])=some (lK (([.inl 0,.inl v]:List aK).take m2)):=by
   rw[AZ (ds:=([.inl 0,.inl v]:List aK).map kD) (l:=none) (u:=some (m2:Int)) rfl rfl (by simp[fnD,aS,bB,bK,eB,sIf,dD,eK,eO,eN,cV,frz,bY,eV,bV,aV,vS,vA,eOp,eUn,aB,eC,aQ,cF,cU,aF,aI,bOf,cQ,dI,bOr,asB,cN,eOr,dS,dU,eG,eIf,gNm,getL,dQ,outD,iIt,itemsOf,bQ,dE,cO,bM,cB,dR,g2I,g2C,gLt,gLe,gGt,gGe,bH,cT,dM,isK,dB,dZ,dX,gEq,gNe,bN,noDict,noDicts,cP,bU,bJ,cS,bS,cJ,gB,oS,e2]),OK]
  refine dH (aN g1 g2 (Qc (by simp; omega))) ⟨_,rfl,_,rfl,by simp[hk]; omega,by simp; omega,fun k m=>by
   rcases jB.mp m with m | m
   ·exact hky k (JY m)
   ·have m:=JY m
    simp only[fG,wJ,or_false] at m
    rcases m with rfl | rfl <;> rfl⟩
 obtain⟨d,e,ks,rfl,h⟩:=this
 exact⟨ks,e,h⟩
theorem Lz (c c':Int){nt:Nat}(ht:0<nt)(ht5:nt≤5){k:Nat}(hk:k≤1000){ws:List Nat}(hw:ws.length=nt)(h6 : ∀ w∈ws,w≤3){ps:List aK}(hp:0<ps.length)(hy : ∀ k∈ps,jO k) : ∃ l:Ln,vU [.int c',.int k,fX c nt,lN ws,lK ps]=some (aX l)/\iC (wdF c ws) l/\l.2.length≤3/\lO l:=by
 have : ∃ d,vU [.int c',.int k,fX c nt,lN ws,lK ps]=some d /\ ∃ l:Ln,d=aX l/\iC (wdF c ws) l/\l.2.length≤3/\lO l:=by
  refine iH rfl ?_
  obtain⟨a,ea⟩:=jL (eF c' (show(0:Int)<nt by omega)).1
  have ha:a<nt:=by have:=(eF c' (show(0:Int)<nt by omega)).2; omega
  refine eJ (d:=.int a) ((jG (a:=c') (b:=nt) rfl (bI (ds:=[fX c nt]) rfl (xZ c nt)) (by omega)).trans (by rw[ea])) (by simp) ?_
  refine eJ (d:=.list []) rfl (by simp) ?_
  have hwa:ws.getD a 0≤3:=h6 _ (getD_mem 0 (by omega))
  let A:L2.Slot:=s0 (.int c')
  let B:L2.Slot:=s0 (.int k)
  let C:L2.Slot:=s0 (fX c nt)
  let D:L2.Slot:=s0 (lN ws)
  let E:L2.Slot:=s0 (lK ps)
  refine hG (fun ρ'=>∃ (ks:List aK) (x7 x8:L2.Slot),(ks.length=ws.getD a 0 /\ ∀ k∈ks,jO k)/\ρ'=[A,B,C,D,E,s0 (.int a),some (1,lK ks),x7,x8]) ?_ ?_
  ·refine sR (n:=ws.getD a 0) (fun i ρ'=>∃ (ks:List aK) (x7 x8:L2.Slot),(ks.length=i /\ ∀ k∈ks,jO k)/\ρ'=[A,B,C,D,E,s0 (.int a),some (1,lK ks),x7,x8]) (avS (oF (aW (aN (a:=lN ws) (b:=.int a) rfl rfl (IW (by omega))) rfl) (by omega))) ⟨[],none,none,⟨rfl,by simp⟩,rfl⟩ ?_ ?_
   ·rintro j _ hj ⟨ks,x7,x8,⟨hl,hly⟩,rfl⟩
    refine⟨[A,B,C,D,E,s0 (.int a),some (1,lK ks),s0 (.int j),x8],rfl,?_⟩
    have hj6:j<6:=by omega
    have hjj:((j:Int)*j).natAbs<18446744073709551616:=by
     have:(j:Int)*j≤6*6:=KI (by omega) (by omega) (by omega) (by omega)
     have:0≤(j:Int)*j:=KH (by omega) (by omega)
     omega
    have hj0:(j:Int).natAbs<18446744073709551616:=by omega
    have hk0:(k:Int).natAbs<18446744073709551616:=by omega
    refine eJ (d:=.int ((c' / 5+(k:Int)*40503+(j:Int)*j*7)%2147483647)) ?_ (by simp) ?_
    ·refine aN (a:=.int (c' / 5+(k:Int)*40503+(j:Int)*j*7)) (b:=.int 2147483647) (aN (a:=.int (c' / 5+(k:Int)*40503)) (b:=.int ((j:Int)*j*7)) (aN (a:=.int (c' / 5)) (b:=.int ((k:Int)*40503)) (by simp[fnD,aS,bB,bK,eB,sIf,dD,eK,eO,eN,cV,frz,bY,eV,bV,aV,vS,vA,eOp,eUn,aB,eC,aQ,cF,cU,aF,aI,bOf,cQ,dI,bOr,asB,cN,eOr,dS,dU,eG,eIf,gNm,getL,dQ,outD,iIt,itemsOf,bQ,dE,cO,bM,cB,dR,g2I,g2C,gLt,gLe,gGt,gGe,bH,cT,dM,isK,dB,dZ,dX,gEq,gNe,bN,noDict,noDicts,cP,bU,bJ,cS,bS,cJ,gB,A]) (by simp[fnD,aS,bB,bK,eB,sIf,dD,eK,eO,eN,cV,frz,bY,eV,bV,aV,vS,vA,eOp,eUn,aB,eC,aQ,cF,cU,aF,aI,bOf,cQ,dI,bOr,asB,cN,eOr,dS,dU,eG,eIf,gNm,getL,dQ,outD,iIt,itemsOf,bQ,dE,cO,bM,cB,dR,g2I,g2C,gLt,gLe,gGt,gGe,bH,cT,dM,isK,dB,dZ,dX,gEq,gNe,bN,noDict,noDicts,cP,bU,bJ,cS,bS,cJ,gB,B]) rfl) (aN (a:=.int ((j:Int)*j)) (b:=.int 7) ?_ rfl (by simp[fnD,aS,bB,bK,eB,sIf,dD,eK,eO,eN,cV,frz,bY,eV,bV,aV,vS,vA,eOp,eUn,aB,eC,aQ,cF,cU,aF,aI,bOf,cQ,dI,bOr,asB,cN,eOr,dS,dU,eG,eIf,gNm,getL,dQ,outD,iIt,itemsOf,bQ,dE,cO,bM,cB,dR,g2I,g2C,gLt,gLe,gGt,gGe,bH,cT,dM,isK,dB,dZ,dX,gEq,gNe,bN,noDict,noDicts,cP,bU,bJ,cS,bS,cJ,gB])) rfl) rfl (by simp[fnD,aS,bB,bK,eB,sIf,dD,eK,eO,eN,cV,frz,bY,eV,bV,aV,vS,vA,eOp,eUn,aB,eC,aQ,cF,cU,aF,aI,bOf,cQ,dI,bOr,asB,cN,eOr,dS,dU,eG,eIf,gNm,getL,dQ,outD,iIt,itemsOf,bQ,dE,cO,bM,cB,dR,g2I,g2C,gLt,gLe,gGt,gGe,bH,cT,dM,isK,dB,dZ,dX,gEq,gNe,bN,noDict,noDicts,cP,bU,bJ,cS,bS,cJ,gB])
     show eOp cO (aB 7) (aB 7) (vS [A,B,C,D,E,s0 (.int a),some (1,lK ks),s0 (.int j),x8])=_
     refine aN (a:=.int j) (b:=.int j) rfl rfl ?_
     show(if ((j:Int).natAbs<2 ^ 64 \/ _) \/ _ then some (bT ((j:Int)*j)) else none)=_
     rw[if_pos (.inl (.inl (by simpa using hj0)))]
    generalize(c' / 5+(k:Int)*40503+(j:Int)*j*7)%2147483647=N
    obtain⟨i,d,hi,e⟩:=SZ (ds:=ps.map kD) (N*48271%2147483629 / (j+1)) (by simpa using hp)
    rw[gN] at hi
    obtain⟨kk,hkk,rfl⟩:=pU.mp hi
    have hp':(0:Int)<ps.length:=by omega
    refine qM (d:=kD kk) (ds:=ks.map kD) (aN (a:=lK ps) (b:=.int (N*48271%2147483629 / (j+1)%ps.length)) rfl (aN (a:=.int (N*48271%2147483629 / (j+1))) (b:=.int ps.length) (aN (a:=.int (N*48271%2147483629)) (b:=.int ((j:Int)+1)) (aN (a:=.int (N*48271)) (b:=.int 2147483629) (aN (a:=.int N) (b:=.int 48271) rfl rfl (by simp[fnD,aS,bB,bK,eB,sIf,dD,eK,eO,eN,cV,frz,bY,eV,bV,aV,vS,vA,eOp,eUn,aB,eC,aQ,cF,cU,aF,aI,bOf,cQ,dI,bOr,asB,cN,eOr,dS,dU,eG,eIf,gNm,getL,dQ,outD,iIt,itemsOf,bQ,dE,cO,bM,cB,dR,g2I,g2C,gLt,gLe,gGt,gGe,bH,cT,dM,isK,dB,dZ,dX,gEq,gNe,bN,noDict,noDicts,cP,bU,bJ,cS,bS,cJ,gB])) rfl (by simp[fnD,aS,bB,bK,eB,sIf,dD,eK,eO,eN,cV,frz,bY,eV,bV,aV,vS,vA,eOp,eUn,aB,eC,aQ,cF,cU,aF,aI,bOf,cQ,dI,bOr,asB,cN,eOr,dS,dU,eG,eIf,gNm,getL,dQ,outD,iIt,itemsOf,bQ,dE,cO,bM,cB,dR,g2I,g2C,gLt,gLe,gGt,gGe,bH,cT,dM,isK,dB,dZ,dX,gEq,gNe,bN,noDict,noDicts,cP,bU,bJ,cS,bS,cJ,gB])) (by simp[fnD,aS,bB,bK,eB,sIf,dD,eK,eO,eN,cV,frz,bY,eV,bV,aV,vS,vA,eOp,eUn,aB,eC,aQ,cF,cU,aF,aI,bOf,cQ,dI,bOr,asB,cN,eOr,dS,dU,eG,eIf,gNm,getL,dQ,outD,iIt,itemsOf,bQ,dE,cO,bM,cB,dR,g2I,g2C,gLt,gLe,gGt,gGe,bH,cT,dM,isK,dB,dZ,dX,gEq,gNe,bN,noDict,noDicts,cP,bU,bJ,cS,bS,cJ,gB]) ?_) (bI (ds:=[lK ps]) rfl (by simp[bH])) (by simp[fnD,aS,bB,bK,eB,sIf,dD,eK,eO,eN,cV,frz,bY,eV,bV,aV,vS,vA,eOp,eUn,aB,eC,aQ,cF,cU,aF,aI,bOf,cQ,dI,bOr,asB,cN,eOr,dS,dU,eG,eIf,gNm,getL,dQ,outD,iIt,itemsOf,bQ,dE,cO,bM,cB,dR,g2I,g2C,gLt,gLe,gGt,gGe,bH,cT,dM,isK,dB,dZ,dX,gEq,gNe,bN,noDict,noDicts,cP,bU,bJ,cS,bS,cJ,gB,hp])) (by simpa [gIx] using e)) rfl (by simp; omega) ⟨_,.inl rfl,ks++[kk],s0 (.int j),s0 (.int N),⟨by simp[hl],fun x mx=>by
     rcases jB.mp mx with q | q
     ·exact hly x q
     ·rw[fL.mp q]; exact hy _ (mU hkk)⟩,by simp⟩
    show(if _ then some (bT (N*48271%2147483629 / ((j:Int)+1))) else none)=_
    rw[if_pos (by constructor <;> omega)]
   ·rintro _ ⟨ks,x7,x8,hl,rfl⟩
    exact⟨_,rfl,ks,x7,x8,hl,rfl⟩
  ·rintro _ ⟨ks,x7,x8,⟨hl,hly⟩,rfl⟩
   refine jQ (dH (d:=aX (nm c a,ks)) (jF (aW (aN (a:=fX c nt) (b:=.int a) rfl rfl (sM c ha)) (aW (g:=aI) (bI (ds:=[lK ks]) rfl rfl) rfl))) ⟨_,rfl,(nm c a,ks),rfl,?_,?_,AY c a,hly⟩)
   ·show ks.length=wdF c ws (nm c a)
    rw[BD c ws (by omega),hl]
   ·show ks.length≤3
    omega
 obtain⟨d,e,l,rfl,h⟩:=this
 exact⟨l,e,h⟩
theorem nJ {f:EF}{ρ:List (Option aA)}{a:Int}(h:f ρ=some (.int a))(b:Nat)(hb:0<b/\b<1000000):eOp cB f (eC (.int b)) ρ=some (.int (a / b)):=by
 refine aN (b:=.int b) h rfl ?_
 have h1:0<b/\(b:Int)<1073741824:=by omega
 simp[cB,g2C]
 omega
theorem ZC {n k:Nat}(h:k<n):ixN n (k:Int)=some k:=by
 unfold ixN
 rw[if_pos (by omega),if_pos (by omega)]
 simp
theorem Em {ρ:bD}{P:Out->Prop}{i j:Nat}{f:EF}{a:Int}{n:Nat}{ds es:List aA}{dv:aA}(h:f (vA ρ)=some (.int a))(hj:getL j ρ=some ds)(hi:(getL i ρ).isSome=true)(hn:ixN ds.length a=some n)(hv:ds[n]?=some dv)(he:getL i (ρ.set j (some (1,.list (ds.eraseIdx n))))=some es)(h1:ds.length≤1000)(h2:es.length≤1000)
  (k:P (.nx ((ρ.set j (some (1,.list (ds.eraseIdx n)))).set i (some (1,.list (es++[dv])))))):Goes (BL i j .a f) ρ P:=⟨_,by
 obtain⟨e0,he0⟩:=Ss.mp hi
 unfold BL eV
 simp only[h,cM,cS,bS,LB,if_true,hj,he0,hn,hv,he]
 rw[if_pos ⟨jT (by omega),by have:=jT (n:=100000) (by omega); omega⟩],k⟩
theorem GZ (c:Int){n m:Nat}(h:n≤m)(hm:m≤100) : ∃ ps:List Nat,rD [.int c,.int n,.int m]=some (tN ps)/\ps.length=n /\ ∀ p∈ps,p<m:=by
 have : ∃ d,rD [.int c,.int n,.int m]=some d /\ ∃ ps:List Nat,d=tN ps/\ps.length=n /\ ∀ p∈ps,p<m:=by
  refine iH rfl ?_
  refine eJ (d:=lN (cE m)) (bI (ds:=[.int m]) rfl ?_) (by simp) ?_
  ·show(if -4096≤(m:Int)/\(m:Int)≤4096 then some (lE (L2.upTo (m:Int).toNat)) else none)=_
   rw[if_pos ⟨by omega,by omega⟩]
   rfl
  refine eJ (d:=lN []) rfl (by simp) ?_
  refine hG (fun ρ'=>∃ (qs ps:List Nat) (x0 x5:L2.Slot),ps.length=n/\(∀ p∈ps,p<m)/\ρ'=[x0,s0 (.int n),s0 (.int m),some (1,lN qs),some (1,lN ps),x5]) ?_ ?_
  ·refine sR (n:=n) (fun i ρ'=>∃ (c:Int) (qs ps:List Nat) (x5:L2.Slot),ps.length=i/\(∀ p∈ps,p<m)/\qs.length=m - i/\(∀ p∈qs,p<m)/\ρ'=[s0 (.int c),s0 (.int n),s0 (.int m),some (1,lN qs),some (1,lN ps),x5]) (avS (oF rfl (by omega))) ⟨c,cE m,[],none,rfl,by simp,by simp,fun p mp=>jA.mp mp,rfl⟩ ?_ ?_
   ·rintro i _ hi ⟨c,qs,ps,x5,hp,hpm,hq,hqm,rfl⟩
    refine⟨[s0 (.int c),s0 (.int n),s0 (.int m),some (1,lN qs),some (1,lN ps),s0 (.int i)],rfl,?_⟩
    have h0:(0:Int)<qs.length:=by omega
    obtain⟨a,ea⟩:=jL (eF c h0).1
    have ha:a<qs.length:=by have:=(eF c h0).2; omega
    refine hG (fun ρ'=>ρ'=[s0 (.int c),s0 (.int n),s0 (.int m),some (1,lN (qs.eraseIdx a)),some (1,lN (ps++[qs.getD a 0])),s0 (.int i)]) ?_ ?_
    ·refine Em (a:=a) (n:=a) (ds:=qs.map fun(c:Nat)=>bT c) (es:=ps.map fun(c:Nat)=>bT c) (dv:=.int (qs.getD a 0)) (aN (a:=.int c) (b:=.int qs.length) rfl (bI (ds:=[lN qs]) rfl (TM qs)) ?_) rfl rfl (ZC (by simpa using ha)) (by rw[gN,getD_some 0 ha]; rfl) rfl (by simp; omega) (by simp; omega) ⟨_,rfl,?_⟩
     ·show(if 0<(qs.length:Int) then some (bT (c%qs.length)) else none)=_
      rw[if_pos h0,ea]
     ·show [s0 (.int c),s0 (.int n),s0 (.int m),some (1,.list ((qs.map fun(c:Nat)=>bT c).eraseIdx a)),some (1,.list ((ps.map fun(c:Nat)=>bT c)++[.int (qs.getD a 0)])),s0 (.int i)]=_
      rw[PU]
      simp
    ·rintro _ rfl
     refine pC (d:=.int (c / 4)) (by simp[fnD,aS,bB,bK,eB,sIf,dD,eK,eO,eN,cV,frz,bY,eV,bV,aV,vS,vA,eOp,eUn,aB,eC,aQ,cF,cU,aF,aI,bOf,cQ,dI,bOr,asB,cN,eOr,dS,dU,eG,eIf,gNm,getL,dQ,outD,iIt,itemsOf,bQ,dE,cO,bM,cB,dR,g2I,g2C,gLt,gLe,gGt,gGe,bH,cT,dM,isK,dB,dZ,dX,gEq,gNe,bN,noDict,noDicts,cP,bU,bJ,cS,bS,cJ,gB]) (by simp) ⟨_,.inl rfl,c / 4,qs.eraseIdx a,ps++[qs.getD a 0],s0 (.int i),by simp[hp],fun p mp=>?_,?_,fun p mp=>hqm p (List.mem_of_mem_eraseIdx mp),rfl⟩
     ·rcases jB.mp mp with q | q
      ·exact hpm p q
      ·rw[fL.mp q]; exact hqm _ (getD_mem 0 ha)
     ·rw[List.length_eraseIdx_of_lt ha]; omega
   ·rintro _ ⟨c,qs,ps,x5,hp,hpm,hq,hqm,rfl⟩
    exact⟨_,rfl,qs,ps,_,x5,hp,hpm,rfl⟩
  ·rintro _ ⟨qs,ps,x0,x5,hp,hpm,rfl⟩
   exact jQ (jQ (dH (d:=tN ps) (bI (ds:=[lN ps]) rfl rfl) ⟨_,rfl,ps,rfl,hp,hpm⟩))
 obtain⟨d,e,ps,rfl,h⟩:=this
 exact⟨ps,e,h⟩
theorem Hm {ps:List Nat}{m:Nat}(h : ∀ p∈ps,p<m)(hl:ps.length<64) : ∃ qs:List Nat,BJ [tN ps]=some (lN qs)/\qs.length=ps.length /\ ∀ q∈qs,q<m:=by
 let is:List Int:=ps.map fun(p:Nat)=>(p:Int)
 have hperm:(sortI is).Perm is:=List.mergeSort_perm is _
 have nn : ∀ i∈sortI is,∃ p:Nat,i=p/\p<m:=fun i mi=>by
  obtain⟨p,mp,rfl⟩:=dP.mp (hperm.mem_iff.mp mi)
  exact⟨p,rfl,h p mp⟩
 refine⟨(sortI is).map Int.toNat,?_,?_,?_⟩
 ·have ea:tH (is.map bT)=some is:=by
   generalize is=is
   induction is with
   | nil=>rfl
   | cons i r ih=>
    show((tH (r.map bT)).bind fun is=>some (i::is))=_
    rw[ih]
    rfl
  have et:tN ps = .tuple (is.map bT):=by
   show gU _=gU _
   rw[kO]
   rfl
  rw[et]
  show((tH (is.map bT)).bind fun is=>if is.length<64 then some (lE ((sortI is).map bT)) else none)=_
  rw[ea,cM,if_pos (by simpa [is] using hl)]
  show some (lE _)=some (lE _)
  congr 2
  rw[kO]
  refine KA fun i mi=>?_
  obtain⟨p,rfl,_⟩:=nn i mi
  simp
 ·rw[gM,hperm.length_eq]
  simp[is]
 ·intro q mq
  obtain⟨i,mi,rfl⟩:=dP.mp mq
  obtain⟨p,rfl,hp⟩:=nn i mi
  simpa using hp
theorem FG (k:Nat):bQ (.int 1) (.int k)=some (.int ((1+k:Nat):Int)):=by
 show some (bT (1+(k:Int)))=_
 rw[show((1+k:Nat):Int)=1+(k:Int) by omega]
theorem Ar (a b:Nat):AN [.int a,.int b]=some (.int (min a b:Nat)):=by
 show some (bT (if (b:Int)<(a:Int) then(b:Int) else(a:Int)))=_
 congr 2
 split <;> omega
theorem Lc (c1 c2:Int)(c:Int){nt:Nat}(ht:0<nt)(ht5:nt≤5){ws:List Nat}(hw:ws.length=nt)(h1 : ∀ w∈ws,1≤w)(h6 : ∀ w∈ws,w≤3) : ∃ r,vI [.int c1,.int c2,fX c nt,lN ws]=some (bR r)/\RlK (wdF c ws) r:=by
 suffices h : ∃ d,vI [.int c1,.int c2,fX c nt,lN ws]=some d /\ ∃ r,d=bR r/\RlK (wdF c ws) r by
  obtain⟨_,e,r,rfl,q⟩:=h
  exact⟨r,e,q⟩
 refine iH rfl ?_
 obtain⟨a,ea⟩:=jL (eF c1 (show(0:Int)<nt by omega)).1
 have ha:a<nt:=by have:=(eF c1 (show(0:Int)<nt by omega)).2; omega
 obtain⟨b,eb⟩:=jL (eF (c1 / 5) (show(0:Int)<nt by omega)).1
 have hb:b<nt:=by have:=(eF (c1 / 5) (show(0:Int)<nt by omega)).2; omega
 have wa:=IW (ws:=ws) (a:=a) (by omega)
 have wb:=IW (ws:=ws) (a:=b) (by omega)
 have ra:1≤ws.getD a 0/\ws.getD a 0≤3:=⟨h1 _ (getD_mem 0 (by omega)),h6 _ (getD_mem 0 (by omega))⟩
 have rb:1≤ws.getD b 0/\ws.getD b 0≤3:=⟨h1 _ (getD_mem 0 (by omega)),h6 _ (getD_mem 0 (by omega))⟩
 have da:=BD c ws (show a<5 by omega)
 have db:=BD c ws (show b<5 by omega)
 generalize ws.getD a 0=A at wa ra da
 generalize ws.getD b 0=B at wb rb db
 let C1:L2.Slot:=s0 (.int c1)
 let C2:L2.Slot:=s0 (.int c2)
 let TS:L2.Slot:=s0 (fX c nt)
 let WS:L2.Slot:=s0 (lN ws)
 let N:L2.Slot:=none
 refine cW (ρ':=[C1,C2,TS,WS,s0 (.int a),N,N,N,N,N]) (fM (m:=.s) ((jG (a:=c1) (b:=nt) rfl (bI (ds:=[fX c nt]) rfl (xZ c nt)) (by omega)).trans (by rw[ea])) (by simp)) ?_
 refine cW (ρ':=[C1,C2,TS,WS,s0 (.int a),s0 (.int b),N,N,N,N]) (fM (m:=.s) ((jG (b:=nt) (nJ (a:=c1) rfl 5 (by omega)) (bI (ds:=[fX c nt]) rfl (xZ c nt)) (by omega)).trans (by rw[show((5:Nat):Int)=5 from rfl,eb])) (by simp)) ?_
 refine cW (ρ':=[C1,C2,TS,WS,s0 (.int a),s0 (.int b),s0 (.int A),N,N,N]) (fM (m:=.s) (aN (a:=lN ws) (b:=.int a) rfl rfl wa) (by simp)) ?_
 have tt:bV .s (bOf (eOp gEq (eOp bM (eOp cB (aB 0) (eC (.int 25))) (eC (.int 2))) (eC (.int 0)))) [C1,C2,TS,WS,s0 (.int a),s0 (.int b),s0 (.int A),N,N,N]=some (decide (c1 / 25%2=0)):=cZ (aN (b:=.int 0) (jG (b:=2) (nJ (a:=c1) rfl 25 (by omega)) rfl (by decide)) rfl (qN _ _))
 refine uJ tt (fun _=>?_) (fun _=>?_)
 ·obtain⟨M,hM,hM1,hM2⟩ : ∃ M:Nat,AO [.int 1,.int ((A:Int) - 1)]=some (.int M)/\0<M/\M≤A:=by
   refine⟨max 1 (A - 1),?_,by omega,by omega⟩
   show some (bT (if (A:Int) - 1 > 1 then(A:Int) - 1 else 1))=_
   congr 2
   split <;> omega
  obtain⟨n,en⟩:=jL (eF c2 (show(0:Int)<M by omega)).1
  have hn:1+n≤A:=by have:=(eF c2 (show(0:Int)<M by omega)).2; omega
  refine cW (ρ':=[C1,C2,TS,WS,s0 (.int a),s0 (.int b),s0 (.int A),s0 (.int ((1+n:Nat):Int)),N,N]) (fM (m:=.s) (aN (a:=.int 1) (b:=.int n) rfl ((jG (a:=c2) (b:=M) rfl (bI (ds:=[.int 1,.int ((A:Int) - 1)]) (aW rfl (aW (aN (a:=.int A) (b:=.int 1) rfl rfl rfl) rfl)) hM) (by omega)).trans (by rw[en])) (FG n)) (by simp)) ?_
  obtain⟨ps,ep,hpl,hpm⟩:=GZ (c2 / 4) hn (by omega)
  obtain⟨qs,eq,hql,hqm⟩:=Hm hpm (by omega)
  exact dH (d:=bR (.key (nm c a) qs)) (jF (ds:=[.str "key",.str (nm c a),tN qs]) (aW rfl (aW (aN (a:=fX c nt) (b:=.int a) rfl rfl (sM c ha)) (aW (g:=aI) (bI (ds:=[lN qs]) (aW (bI (ds:=[tN ps]) (aW (bI (ds:=[.int (c2 / 4),.int ((1+n:Nat):Int),.int A]) (aW (nJ (a:=c2) rfl 4 (by omega)) rfl) ep) rfl) eq) rfl) rfl) rfl)))) ⟨_,rfl,_,rfl,.key (nm c a) qs,rfl,fun x mx=>by rw[da]; exact hqm x mx,by show qs.length≤1000; omega,trivial⟩
 ·have q2:=eF (c1 / 45) (show(0:Int)<2 by decide)
  have e45:eOp bQ (eC (.int 1)) (eOp cO (eOp bM (eOp cB (aB 0) (eC (.int 50))) (eC (.int 2))) (eC (.int 3))) (vS [C1,C2,TS,WS,s0 (.int a),s0 (.int b),s0 (.int A),N,N,N])=some (.int (1+c1 / 50%2*3)):=aN (a:=.int 1) (b:=.int (c1 / 50%2*3)) rfl (aN (a:=.int (c1 / 50%2)) (b:=.int 3) (jG (b:=2) (nJ (a:=c1) rfl 50 (by omega)) rfl (by decide)) rfl (by simp[cO,g2C])) rfl
  generalize hz:1+c1 / 50%2*3=z at e45
  have hz1:1≤z/\z≤4:=by omega
  have hm:0<min A B:=by omega
  obtain⟨n,en⟩:=jL (eF (c2 / z) (show(0:Int)<(min A B:Nat) by omega)).1
  have hn:1+n≤min A B:=by have:=(eF (c2 / z) (show(0:Int)<(min A B:Nat) by omega)).2; omega
  have fd:eOp cB (aB 1) (eOp bQ (eC (.int 1)) (eOp cO (eOp bM (eOp cB (aB 0) (eC (.int 50))) (eC (.int 2))) (eC (.int 3)))) (vS [C1,C2,TS,WS,s0 (.int a),s0 (.int b),s0 (.int A),N,N,N])=some (.int (c2 / z)):=by
   refine aN (a:=.int c2) (b:=.int z) rfl e45 ?_
   show(if _ then some (bT (c2 / z)) else none)=_
   rw[if_pos (by constructor <;> omega)]
  refine cW (ρ':=[C1,C2,TS,WS,s0 (.int a),s0 (.int b),s0 (.int A),s0 (.int ((1+n:Nat):Int)),N,N]) (fM (m:=.s) (aN (a:=.int 1) (b:=.int n) rfl ((jG (b:=(min A B:Nat)) fd (bI (ds:=[.int A,.int B]) (aW rfl (aW (aN (a:=lN ws) (b:=.int b) rfl rfl wb) rfl)) (Ar A B)) (by omega)).trans (by rw[en])) (FG n)) (by simp)) ?_
  obtain⟨ps,ep,hpl,hpm⟩:=GZ (c2 / 16) (show 1+n≤A by omega) (by omega)
  obtain⟨qs,eq,hql,hqm⟩:=GZ (c2 / 1024) (show 1+n≤B by omega) (by omega)
  refine cW (ρ':=[C1,C2,TS,WS,s0 (.int a),s0 (.int b),s0 (.int A),s0 (.int ((1+n:Nat):Int)),s0 (tN ps),N]) (fM (m:=.s) (bI (ds:=[.int (c2 / 16),.int ((1+n:Nat):Int),.int A]) (aW (nJ (a:=c2) rfl 16 (by omega)) rfl) ep) (by simp)) ?_
  refine cW (ρ':=[C1,C2,TS,WS,s0 (.int a),s0 (.int b),s0 (.int A),s0 (.int ((1+n:Nat):Int)),s0 (tN ps),s0 (tN qs)]) (fM (m:=.s) (bI (ds:=[.int (c2 / 1024),.int ((1+n:Nat):Int),.int B]) (aW (nJ (a:=c2) rfl 1024 (by omega)) (aW rfl (aW (aN (a:=lN ws) (b:=.int b) rfl rfl wb) rfl))) eq) (by simp)) ?_
  exact dH (d:=bR (.pts (nm c a) ps (nm c b) qs B)) (jF (ds:=[.str "points",.str (nm c a),tN ps,.str (nm c b),tN qs,.int B]) (aW rfl (aW (aN (a:=fX c nt) (b:=.int a) rfl rfl (sM c ha)) (aW rfl (aW (aN (a:=fX c nt) (b:=.int b) rfl rfl (sM c hb)) (aW rfl (aW (g:=aI) (aN (a:=lN ws) (b:=.int b) rfl rfl wb) rfl))))))) ⟨_,rfl,.pts (nm c a) ps (nm c b) qs B,rfl,⟨fun x mx=>by rw[da]; exact hpm x mx,fun x mx=>by rw[db]; exact hqm x mx⟩,⟨by omega,by omega⟩,db.symm,rb.2,AY c b⟩
theorem Mp {ρ:bD}{P:Out->Prop}{i:Nat}{f:EF}{ds ts:List aA}(h:f (vS ρ)=some (.tuple ts))(hg:getL i ρ=some ds)(hl:ds.length+ts.length≤100000)(k:P (.nx (ρ.set i (some (1,.list (ds++ts)))))):Goes (DJ i .s f) ρ P:=⟨_,by
 have h':eV 0 .s f ρ=some (.tuple ts):=h
 unfold DJ
 rw[h',cM,hg,cM]
 show(if ds.length+ts.length≤sizeLine then some (Out.nx (ρ.set i (some (1,.list (ds++ts))))) else none)=_
 rw[if_pos (jT hl)],k⟩
theorem Na (c:Int){ls:List Ln}(hl:ls.length≤100)(h6 : ∀ l∈ls,l.2.length≤6) : ∃ hd:List aK,vT [.int c,lsD ls]=some (tK hd)/\hd.length≤4:=by
 have : ∃ d,vT [.int c,lsD ls]=some d /\ ∃ hd:List aK,d=tK hd/\hd.length≤4:=by
  refine iH rfl ?_
  refine eJ (d:=.list []) rfl (by simp) ?_
  refine hG (fun ρ'=>∃ (ks:List aK) (x3 x4:L2.Slot),ks.length≤1000/\ρ'=[s0 (.int c),s0 (lsD ls),some (1,lK ks),x3,x4]) ?_ ?_
  ·refine xK (ds:=ls.map aX) (fun i ρ'=>∃ (ks:List aK) (x3 x4:L2.Slot),ks.length≤6*i/\ρ'=[s0 (.int c),s0 (lsD ls),some (1,lK ks),x3,x4]) (avS (mM rfl)) ⟨[],none,none,by simp,rfl⟩ ?_ ?_
   ·rintro i d _ hd ⟨ks,x3,x4,hk,rfl⟩
    rw[gN] at hd
    obtain⟨l,hl',rfl⟩:=pU.mp hd
    have hi:i<ls.length:=(gE.mp hl').1
    have:=h6 l (mU hl')
    refine⟨[s0 (.int c),s0 (lsD ls),some (1,lK ks),s0 (.str l.1),s0 (tK l.2)],rfl,Mp (ds:=ks.map kD) (ts:=l.2.map kD) rfl rfl (by simp; omega) ⟨_,.inl rfl,ks++l.2,s0 (.str l.1),s0 (tK l.2),by simp; omega,by simp⟩⟩
   ·rintro _ ⟨ks,x3,x4,hk,rfl⟩
    exact⟨_,rfl,ks,x3,x4,by simp at hk; omega,rfl⟩
  ·rintro _ ⟨ks,x3,x4,hk,rfl⟩
   refine jQ ?_
   show Goes _ [s0 (.int c),s0 (lsD ls),s0 (lK ks),x3,x4] _
   have len_k:bH [lK ks]=some (.int ks.length):=by simp[bH]
   have e0:bV .s (bOf (eOp gEq (aQ bH (aF (aB 2) aI)) (eC (.int 0)))) [s0 (.int c),s0 (lsD ls),s0 (lK ks),x3,x4]=some (decide ((ks.length:Int)=0)):=cZ (aN (a:=.int ks.length) (b:=.int 0) (bI (ds:=[lK ks]) rfl len_k) rfl (qN _ _))
   by_cases hz:(ks.length:Int)=0
   ·exact kY (gH (e0.trans (by rw[decide_eq_true hz])) (dH (d:=tK []) rfl ⟨_,rfl,_,rfl,[],rfl,by simp⟩))
   ·refine cW (gZ (e0.trans (by rw[decide_eq_false hz]))) ?_
    have hp:0<ks.length:=by omega
    obtain⟨n,en⟩:=jL (eF c (show(0:Int)<5 by decide)).1
    have hn:n<5:=by have:=(eF c (show(0:Int)<5 by decide)).2; omega
    obtain⟨vs,evs,hvl,_⟩:=Ce (cap:=[none,some 2,some 0]) (fi:=iR1 (aF (eOp bM (aB 0) (eC (.int 5))) aI)) (T:=gB 0) (t:=cJ) (f:=eOp gIx (aB 1) (eOp bM (eOp cB (aB 2) (eOp bQ (eOp cO (aB 0) (aB 0)) (eC (.int 5)))) (aQ bH (aF (aB 1) aI)))) (ρ:=vS [s0 (.int c),s0 (lsD ls),s0 (lK ks),x3,x4]) (n:=n) kD (fun _=>True) (oF (aW (d:=.int n) (by rw[← en]; simp[fnD,aS,bB,bK,eB,sIf,dD,eK,eO,eN,cV,frz,bY,eV,bV,aV,vS,vA,eOp,eUn,aB,eC,aQ,cF,cU,aF,aI,bOf,cQ,dI,bOr,asB,cN,eOr,dS,dU,eG,eIf,gNm,getL,dQ,outD,iIt,itemsOf,bQ,dE,cO,bM,cB,dR,g2I,g2C,gLt,gLe,gGt,gGe,bH,cT,dM,isK,dB,dZ,dX,gEq,gNe,bN,noDict,noDicts,cP,bU,bJ,cS,bS,cJ,gB]) rfl) (by omega)) (by omega) fun j hj=>by
     obtain⟨i,d,hi,e⟩:=SZ (ds:=ks.map kD) (c / ((j:Int)*j+5)) (by simpa using hp)
     rw[gN] at hi
     obtain⟨kk,hkk,rfl⟩:=pU.mp hi
     have hj0:(j:Int).natAbs<18446744073709551616:=by omega
     have hjj:0≤(j:Int)*j/\(j:Int)*j≤25:=by
      have h1:(j:Int)*j≤5*5:=KI (by omega) (by omega) (by omega) (by omega)
      have h2:0≤(j:Int)*j:=KH (by omega) (by omega)
      omega
     refine⟨[some (.int j),some (lK ks),some (.int c)],kk,rfl,rfl,aN (a:=lK ks) (b:=.int (c / ((j:Int)*j+5)%ks.length)) rfl (aN (a:=.int (c / ((j:Int)*j+5))) (b:=.int ks.length) (aN (a:=.int c) (b:=.int ((j:Int)*j+5)) rfl (aN (a:=.int ((j:Int)*j)) (b:=.int 5) (aN (a:=.int j) (b:=.int j) rfl rfl ?_) rfl rfl) ?_) (bI (ds:=[lK ks]) rfl len_k) (by simp[fnD,aS,bB,bK,eB,sIf,dD,eK,eO,eN,cV,frz,bY,eV,bV,aV,vS,vA,eOp,eUn,aB,eC,aQ,cF,cU,aF,aI,bOf,cQ,dI,bOr,asB,cN,eOr,dS,dU,eG,eIf,gNm,getL,dQ,outD,iIt,itemsOf,bQ,dE,cO,bM,cB,dR,g2I,g2C,gLt,gLe,gGt,gGe,bH,cT,dM,isK,dB,dZ,dX,gEq,gNe,bN,noDict,noDicts,cP,bU,bJ,cS,bS,cJ,gB,hp])) (by simpa [gIx] using e),trivial⟩
     ·show(if ((j:Int).natAbs<2 ^ 64 \/ _) \/ _ then some (bT ((j:Int)*j)) else none)=_
      rw[if_pos (.inl (.inl (by simpa using hj0)))]
     ·show(if _ then some (bT (c / ((j:Int)*j+5))) else none)=_
      generalize(j:Int)*j=q at *
      rw[if_pos (by constructor <;> omega)]
    exact dH (d:=tK vs) (bI (aW evs rfl) rfl) ⟨_,rfl,vs,rfl,by omega⟩
 obtain⟨d,e,hd,rfl,h⟩:=this
 exact⟨hd,e,h⟩
theorem Lq {ρ:bD}{P:Out->Prop}{i:Nat}{f:EF}{d:aA}{ds:List aA}(h:f (vS ρ)=some d)(hg:getL i ρ=some ds)(hl:ds.length≤1000)(k:P (.nx (ρ.set i (some (1,.list (d::ds)))))):Goes (CU i .s f) ρ P:=⟨_,by
 have h':eV 0 .s f ρ=some d:=h
 unfold CU
 rw[h',cM,hg,cM,if_pos (BI (by omega))],k⟩
theorem BE (c:Int){nt a:Nat}(h:a<nt)(h5:nt≤5):wdF c (fR nt 2) (nm c a)=2:=by
 rw[BD c _ (by omega),Sv,Su,if_pos h]
 rfl
theorem Mq (c cell:Int){nt:Nat}(ht:0<nt)(ht5:nt≤5) : ∃ rs,vJ [.int cell,fX c nt]=some (rsD rs)/\rs.length≤1000 /\ ∀ r∈rs,RlK (wdF c (fR nt 2)) r:=by
 suffices h : ∃ d,vJ [.int cell,fX c nt]=some d /\ ∃ rs,d=rsD rs/\rs.length≤1000 /\ ∀ r∈rs,RlK (wdF c (fR nt 2)) r by
  obtain⟨_,e,r,rfl,q⟩:=h
  exact⟨r,e,q⟩
 refine iH rfl ?_
 refine eJ (d:=.list []) rfl (by simp) ?_
 let CE:L2.Slot:=s0 (.int cell)
 let TS:L2.Slot:=s0 (fX c nt)
 have lent : ∀ {σ:List (Option aA)},σ[1]?=some (some (fX c nt))->aQ bH (aF (aB 1) aI) σ=some (.int nt):=fun {σ} h=>bI (ds:=[fX c nt]) (aW (by unfold aB; rw[h]; rfl) rfl) (xZ c nt)
 let I:Nat->bD->Prop:=fun i ρ'=>∃ (rs:List Rl) (x3 x4:L2.Slot),rs.length=i/\(∀ r∈rs,RlK (wdF c (fR nt 2)) r)/\ρ'=[CE,TS,some (1,rsD rs),x3,x4,none]
 refine hG (I nt) ?_ ?_
 ·refine sR (n:=nt) I (avS (oF (aW (lent rfl) rfl) (by omega))) ⟨[],none,none,rfl,by simp,rfl⟩ ?_ (fun ρ' h=>⟨_,rfl,h⟩)
  rintro i _ hi ⟨rs,x3,x4,hl,hr,rfl⟩
  refine⟨[CE,TS,some (1,rsD rs),s0 (.int i),x4,none],rfl,?_⟩
  obtain⟨j,ej⟩:=jL (eF ((i:Int)+1) (show(0:Int)<nt by omega)).1
  have hj:j<nt:=by have:=(eF ((i:Int)+1) (show(0:Int)<nt by omega)).2; omega
  refine eJ (d:=.str (nm c j)) (aN (a:=fX c nt) (b:=.int j) rfl ((jG (a:=(i:Int)+1) (b:=nt) (aN (a:=.int i) (b:=.int 1) rfl rfl rfl) (lent rfl) (by omega)).trans (by rw[ej])) (sM c hj)) (by simp) ?_
  refine qM (d:=bR (.pts (nm c i) [1] (nm c j) [0] 2)) (ds:=rs.map bR) (jF (ds:=[.str "points",.str (nm c i),tN [1],.str (nm c j),tN [0],.int 2]) (aW rfl (aW (aN (a:=fX c nt) (b:=.int i) rfl rfl (sM c hi)) rfl))) rfl (by simp; omega) ⟨_,.inl rfl,rs++[.pts (nm c i) [1] (nm c j) [0] 2],s0 (.int i),s0 (.str (nm c j)),by simp[hl],fun x mx=>?_,by simp[rsD]⟩
  rcases jB.mp mx with q | q
  ·exact hr x q
  ·rw[fL.mp q]
   refine⟨⟨fun x m=>?_,fun x m=>?_⟩,⟨by simp,by simp⟩,(BE c hj ht5).symm,by omega,AY c j⟩
   ·rw[fL.mp m,BE c hi ht5]; omega
   ·rw[fL.mp m,BE c hj ht5]; omega
 rintro _ ⟨rs,x3,x4,hl,hr,rfl⟩
 obtain⟨b,eb⟩:=jL (eF (cell / 8) (show(0:Int)<nt by omega)).1
 have hb:b<nt:=by have:=(eF (cell / 8) (show(0:Int)<nt by omega)).2; omega
 obtain⟨m,em⟩:=jL (eF (cell / 4) (show(0:Int)<2 by decide)).1
 have hm:m<2:=by have:=(eF (cell / 4) (show(0:Int)<2 by decide)).2; omega
 let KY:Rl:=.key (nm c b) [m]
 have hK:RlK (wdF c (fR nt 2)) KY:=⟨fun x mx=>by rw[fL.mp mx,BE c hb ht5]; exact hm,by show [m].length≤1000; simp,trivial⟩
 refine eJ (d:=bR KY) (jF (ds:=[.str "key",.str (nm c b),tN [m]]) (aW rfl (aW (aN (a:=fX c nt) (b:=.int b) rfl ((jG (b:=nt) (nJ (a:=cell) rfl 8 (by omega)) (lent rfl) (by omega)).trans (by rw[show((8:Nat):Int)=8 from rfl,eb])) (sM c hb)) (aW (g:=aI) (jF (ds:=[.int m]) (aW (g:=aI) ((jG (b:=2) (nJ (a:=cell) rfl 4 (by omega)) rfl (by decide)).trans (by rw[show((4:Nat):Int)=4 from rfl,em])) rfl)) rfl)))) (by simp) ?_
 let J:Nat->bD->Prop:=fun n ρ'=>∃ rs:List Rl,rs.length≤n/\(∀ r∈rs,RlK (wdF c (fR nt 2)) r)/\ρ'=[CE,TS,some (1,rsD rs),x3,x4,s0 (bR KY)]
 have tst : ∀ (rs:List Rl) (v:Int),bV .s (bOf (eOp gEq (eOp bM (aB 0) (eC (.int 4))) (eC (.int v)))) [CE,TS,some (1,rsD rs),x3,x4,s0 (bR KY)]=some (decide (cell%4=v)):=fun rs v=>cZ (aN (b:=.int v) (jG (a:=cell) (b:=4) rfl rfl (by decide)) rfl (qN _ _))
 refine hG (J 6) ?_ ?_
 ·by_cases q:cell%4=1
  ·refine gH ((tst rs 1).trans (by rw[decide_eq_true q])) (qM (d:=bR KY) (ds:=rs.map bR) rfl rfl (by simp; omega) ⟨_,rfl,rs++[KY],by simp; omega,fun x mx=>?_,by simp[rsD]⟩)
   rcases jB.mp mx with q | q
   ·exact hr x q
   ·rw[fL.mp q]; exact hK
  ·exact lT ((tst rs 1).trans (by rw[decide_eq_false q])) (pD ⟨_,rfl,rs,by omega,hr,rfl⟩)
 rintro _ ⟨rs,hl,hr,rfl⟩
 refine hG (J 7) ?_ ?_
 ·by_cases q:cell%4=2
  ·refine gH ((tst rs 2).trans (by rw[decide_eq_true q])) (Lq (d:=bR KY) (ds:=rs.map bR) rfl rfl (by simp; omega) ⟨_,rfl,KY::rs,by simp; omega,fun x mx=>?_,by simp[rsD]⟩)
   rcases fG.mp mx with q | q
   ·rw[q]; exact hK
   ·exact hr x q
  ·exact lT ((tst rs 2).trans (by rw[decide_eq_false q])) (pD ⟨_,rfl,rs,by omega,hr,rfl⟩)
 rintro _ ⟨rs,hl,hr,rfl⟩
 exact⟨_,rfl,_,rfl,rs,rfl,by omega,hr⟩
theorem Mj (nt:Nat):(fR nt [bT 2]).flatten=(fR nt 2).map fun(c:Nat)=>bT c:=by
 induction nt with
 | zero=>rfl
 | succ n ih=>rw[tU,lG,ih]; rfl
theorem Sg (c1:Int){nt:Nat}(ht5:nt≤5){fi:AF}{ρ:List (Option aA)}(hi:fi ρ=some ((cE nt).map fun(k:Nat)=>bT k))(hc:jM [none,some 1] ρ=[none,some (.int c1)]) :
  ∃ ws:List Nat,eLC [none,some 1] fi (gB 0) cJ (eOp bQ (eC (.int 1)) (eOp bM (eOp cB (eOp cB (aB 1) (eC (.int 10))) (eOp bQ (eOp cO (aB 0) (aB 0)) (eC (.int 1)))) (eC (.int 3)))) ρ=some (lN ws)/\ws.length=nt/\(∀ w∈ws,1≤w) /\ ∀ w∈ws,w≤3:=by
 let w:Nat->Nat:=fun k=>(1+c1 / 10 / ((k:Int)*k+1)%3).toNat
 have lc:=lW (cap:=[none,some 1]) (fi:=fi) (T:=gB 0) (t:=cJ) (f:=eOp bQ (eC (.int 1)) (eOp bM (eOp cB (eOp cB (aB 1) (eC (.int 10))) (eOp bQ (eOp cO (aB 0) (aB 0)) (eC (.int 1)))) (eC (.int 3)))) (ρ:=ρ) (xs:=cE nt) (q:=fun(k:Nat)=>bT k) (fun _=>true) (fun k=>.int (w k)) hi (by simp; omega) (fun j m=>⟨[some (.int j),some (.int c1)],by rw[hc]; rfl,rfl,fun _=>by
  have hj:=jA.mp m
  have hj0:(j:Int).natAbs<18446744073709551616:=by omega
  have hjj:0≤(j:Int)*j/\(j:Int)*j≤25:=by
   have h1:(j:Int)*j≤5*5:=KI (by omega) (by omega) (by omega) (by omega)
   have h2:0≤(j:Int)*j:=KH (by omega) (by omega)
   omega
  have hb:=eF (c1 / 10 / ((j:Int)*j+1)) (show(0:Int)<3 by decide)
  refine(aN (a:=.int 1) (b:=.int (c1 / 10 / ((j:Int)*j+1)%3)) rfl (jG (a:=c1 / 10 / ((j:Int)*j+1)) (b:=3) (aN (a:=.int (c1 / 10)) (b:=.int ((j:Int)*j+1)) (nJ (a:=c1) rfl 10 (by omega)) (aN (a:=.int ((j:Int)*j)) (b:=.int 1) (aN (a:=.int j) (b:=.int j) rfl rfl ?_) rfl rfl) ?_) rfl (by decide)) (d:=.int (1+c1 / 10 / ((j:Int)*j+1)%3)) rfl).trans ?_
  ·show(if ((j:Int).natAbs<2 ^ 64 \/ _) \/ _ then some (bT ((j:Int)*j)) else none)=_
   rw[if_pos (.inl (.inl (by simpa using hj0)))]
  ·show(if _ then some (bT (c1 / 10 / ((j:Int)*j+1))) else none)=_
   generalize(j:Int)*j=q at *
   rw[if_pos (by constructor <;> omega)]
  ·show some (bT (1+c1 / 10 / ((j:Int)*j+1)%3))=some (bT (((1+c1 / 10 / ((j:Int)*j+1)%3).toNat:Nat):Int))
   rw[Int.toNat_of_nonneg (by omega)]⟩)
 rw[tV.mpr (fun _ _=>rfl)] at lc
 refine⟨(cE nt).map w,?_,by simp,fun x m=>?_,fun x m=>?_⟩
 ·rw[lc]
  show some (lE _)=some (lE _)
  rw[kO]
  rfl
 ·obtain⟨k,_,rfl⟩:=dP.mp m
  have hb:=eF (c1 / 10 / ((k:Int)*k+1)) (show(0:Int)<3 by decide)
  show 1≤(1+c1 / 10 / ((k:Int)*k+1)%3).toNat
  omega
 ·obtain⟨k,_,rfl⟩:=dP.mp m
  have hb:=eF (c1 / 10 / ((k:Int)*k+1)) (show(0:Int)<3 by decide)
  show(1+c1 / 10 / ((k:Int)*k+1)%3).toNat≤3
  omega
theorem Ed (l:Ln):bS (aX l)=true:=by
 show(true&&(bS (tK l.2)&&true))=true
 rw[FV]
 rfl
theorem Bu {ns:List Int}(hbt:sL ns) : ∃ (wd:aE->Nat) (rs:List Rl) (ls:List Ln),vL [lI ns]=some (.list [lsD ls,rsD rs])/\rs.length≤1000/\(∀ r∈rs,RlK wd r)/\ls.length≤5 /\ ∀ l∈ls,iC wd l/\l.2.length≤3/\lO l:=by
 suffices h : ∃ d,vL [lI ns]=some d /\ ∃ (wd:aE->Nat) (rs:List Rl) (ls:List Ln),d = .list [lsD ls,rsD rs]/\rs.length≤1000/\(∀ r∈rs,RlK wd r)/\ls.length≤5 /\ ∀ l∈ls,iC wd l/\l.2.length≤3/\lO l by
  obtain⟨_,e,wd,rs,ls,rfl,q⟩:=h
  exact⟨wd,rs,ls,e,q⟩
 refine iH rfl ?_
 obtain⟨c0,e0⟩:=nK hbt (k:=0) (by omega) (by omega)
 obtain⟨c1,e1⟩:=nK hbt (k:=1) (by omega) (by omega)
 obtain⟨c2,e2⟩:=nK hbt (k:=2) (by omega) (by omega)
 obtain⟨c3,e3⟩:=nK hbt (k:=3) (by omega) (by omega)
 obtain⟨c4,e4⟩:=nK hbt (k:=4) (by omega) (by omega)
 obtain⟨c5,e5⟩:=nK hbt (k:=5) (by omega) (by omega)
 obtain⟨t0,et0⟩:=jL (eF (c1 / 2) (show(0:Int)<5 by decide)).1
 have ht0:t0≤4:=by have:=(eF (c1 / 2) (show(0:Int)<5 by decide)).2; omega
 obtain⟨ps,ep,hp0,hp1,hpy⟩:=Mr c2 c3
 let nt:Nat:=1+t0
 have hnt:0<nt/\nt≤5:=⟨by show 0<1+t0; omega,by show 1+t0≤5; omega⟩
 let N:L2.Slot:=none
 let S:L2.Slot:=s0 (lI ns)
 let C1:L2.Slot:=s0 (.int c1)
 let T2:L2.Slot:=s0 (fX c0 nt)
 let P3:L2.Slot:=s0 (lK ps)
 let C4:L2.Slot:=s0 (.int c4)
 refine cW (ρ':=[S,C1,N,N,N,N,N,N,N,N,N]) (fM (m:=.s) (bI (ds:=[lI ns,.int 1]) rfl e1) (by simp)) ?_
 refine cW (ρ':=[S,C1,T2,N,N,N,N,N,N,N,N]) (fM (m:=.s) (bI (ds:=[.int c0,.int (nt:Nat)]) (aW (bI (ds:=[lI ns,.int 0]) rfl e0) (aW (aN (a:=.int 1) (b:=.int t0) rfl ((jG (b:=5) (nJ (a:=c1) rfl 2 (by omega)) rfl (by decide)).trans (by rw[show((2:Nat):Int)=2 from rfl,et0])) (FG t0)) rfl)) (NV c0 (n:=nt) (by omega))) (by simp)) ?_
 refine cW (ρ':=[S,C1,T2,P3,N,N,N,N,N,N,N]) (fM (m:=.s) (bI (ds:=[.int c2,.int c3]) (aW (bI (ds:=[lI ns,.int 2]) rfl e2) (aW (bI (ds:=[lI ns,.int 3]) rfl e3) rfl)) ep) (by simp)) ?_
 refine cW (ρ':=[S,C1,T2,P3,C4,N,N,N,N,N,N]) (fM (m:=.s) (bI (ds:=[lI ns,.int 4]) rfl e4) (by simp)) ?_
 refine hG (fun ρ'=>∃ (ws:List Nat) (rs:List Rl) (x7 x8:L2.Slot),ws.length=nt/\(∀ w∈ws,w≤3)/\rs.length≤1000/\(∀ r∈rs,RlK (wdF c0 ws) r)/\ρ'=[S,C1,T2,P3,C4,s0 (lN ws),some (1,rsD rs),x7,x8,N,N]) ?_ ?_
 ·have lent : ∀ {σ:List (Option aA)},σ[2]?=some (some (fX c0 nt))->aQ bH (aF (aB 2) aI) σ=some (.int nt):=fun {σ} h=>bI (ds:=[fX c0 nt]) (aW (by unfold aB; rw[h]; rfl) rfl) (xZ c0 nt)
  have tt:bV .s (bOf (eOp gEq (eOp bM (aB 1) (eC (.int 2))) (eC (.int 0)))) [S,C1,T2,P3,C4,N,N,N,N,N,N]=some (decide (c1%2=0)):=cZ (aN (b:=.int 0) (jG (a:=c1) (b:=2) rfl rfl (by decide)) rfl (qN _ _))
  by_cases q:c1%2=0
  ·refine gH (tt.trans (by rw[decide_eq_true q])) ?_
   obtain⟨rs,er,hrl,hr⟩:=Mq c0 (c4 / 7) hnt.1 hnt.2
   refine cW (ρ':=[S,C1,T2,P3,C4,s0 (lN (fR nt 2)),N,N,N,N,N]) (fM (m:=.s) (aN (a:=.list [.int 2]) (b:=.int nt) (sN (ds:=[.int 2]) rfl) (lent rfl) (by
    show(if -1000≤(nt:Int)/\(nt:Int)<1000000/\[bT 2].length*(nt:Int).toNat≤1000000 then some (lE (fR (nt:Int).toNat [bT 2]).flatten) else none)=_
    rw[if_pos ⟨by omega,by omega,by simp; omega⟩,AE,Mj])) (by simp)) ?_
   exact pC (bI (ds:=[.int (c4 / 7),fX c0 nt]) (aW (nJ (a:=c4) rfl 7 (by omega)) rfl) er) (by simp) ⟨_,rfl,fR nt 2,rs,N,N,by simp,fun w m=>by rw[List.eq_of_mem_replicate m]; omega,hrl,hr,rfl⟩
  ·refine lT (tt.trans (by rw[decide_eq_false q])) ?_
   obtain⟨ws,ew,hwl,hw1,hw3⟩:=Sg c1 hnt.2 (fi:=iR1 (aF (aQ bH (aF (aB 2) aI)) aI)) (ρ:=vS [S,C1,T2,P3,C4,N,N,N,N,N,N]) (oF (aW (lent rfl) rfl) (by omega)) rfl
   refine eJ (n:=1) ew (by simp) (jQ ?_)
   refine eJ (ρ:=[S,C1,T2,P3,C4,s0 (lN ws),N,N,N,N,N]) (n:=1) (d:=.list []) rfl (by simp) ?_
   obtain⟨n0,en⟩:=jL (eF c4 (show(0:Int)<7 by decide)).1
   have hn0:n0≤6:=by have:=(eF c4 (show(0:Int)<7 by decide)).2; omega
   let I:Nat->bD->Prop:=fun i ρ'=>∃ (rs:List Rl) (x7 x8:L2.Slot),rs.length=i/\(∀ r∈rs,RlK (wdF c0 ws) r)/\ρ'=[S,C1,T2,P3,C4,s0 (lN ws),some (1,rsD rs),x7,x8,N,N]
   refine sR (n:=n0) I (avS (oF (aW ((jG (a:=c4) (b:=7) rfl rfl (by decide)).trans (by rw[en])) rfl) (by omega))) ⟨[],N,N,rfl,by simp,rfl⟩ ?_ ?_
   ·rintro i _ hi ⟨rs,x7,x8,hl,hr,rfl⟩
    refine⟨[S,C1,T2,P3,C4,s0 (lN ws),some (1,rsD rs),s0 (.int i),x8,N,N],rfl,?_⟩
    obtain⟨a1,ea1⟩:=nK hbt (k:=12+2*(i:Int)) (by omega) (by omega)
    obtain⟨a2,ea2⟩:=nK hbt (k:=13+2*(i:Int)) (by omega) (by omega)
    refine eJ (d:=.int a1) (bI (ds:=[lI ns,.int (12+2*(i:Int))]) (aW rfl (aW (by simp[fnD,aS,bB,bK,eB,sIf,dD,eK,eO,eN,cV,frz,bY,eV,bV,aV,vS,vA,eOp,eUn,aB,eC,aQ,cF,cU,aF,aI,bOf,cQ,dI,bOr,asB,cN,eOr,dS,dU,eG,eIf,gNm,getL,dQ,outD,iIt,itemsOf,bQ,dE,cO,bM,cB,dR,g2I,g2C,gLt,gLe,gGt,gGe,bH,cT,dM,isK,dB,dZ,dX,gEq,gNe,bN,noDict,noDicts,cP,bU,bJ,cS,bS,cJ,gB]) rfl)) ea1) (by simp) ?_
    obtain⟨r,er,hrr⟩:=Lc a1 a2 c0 hnt.1 hnt.2 hwl hw1 hw3
    refine qM (d:=bR r) (ds:=rs.map bR) (bI (ds:=[.int a1,.int a2,fX c0 nt,lN ws]) (aW rfl (aW (bI (ds:=[lI ns,.int (13+2*(i:Int))]) (aW rfl (aW (by simp[fnD,aS,bB,bK,eB,sIf,dD,eK,eO,eN,cV,frz,bY,eV,bV,aV,vS,vA,eOp,eUn,aB,eC,aQ,cF,cU,aF,aI,bOf,cQ,dI,bOr,asB,cN,eOr,dS,dU,eG,eIf,gNm,getL,dQ,outD,iIt,itemsOf,bQ,dE,cO,bM,cB,dR,g2I,g2C,gLt,gLe,gGt,gGe,bH,cT,dM,isK,dB,dZ,dX,gEq,gNe,bN,noDict,noDicts,cP,bU,bJ,cS,bS,cJ,gB]) rfl)) ea2) rfl)) er) rfl (by simp; omega) ⟨_,.inl rfl,rs++[r],s0 (.int i),s0 (.int a1),by simp[hl],fun x mx=>?_,by simp[rsD]⟩
    rcases jB.mp mx with q | q
    ·exact hr x q
    ·rw[fL.mp q]; exact hrr
   ·rintro _ ⟨rs,x7,x8,hl,hr,rfl⟩
    exact⟨_,rfl,ws,rs,x7,x8,hwl,hw3,by omega,hr,rfl⟩
 rintro _ ⟨ws,rs,x7,x8,hwl,hw3,hrl,hr,rfl⟩
 refine jQ ?_
 let R6:L2.Slot:=s0 (rsD rs)
 let W5:L2.Slot:=s0 (lN ws)
 refine eJ (ρ:=[S,C1,T2,P3,C4,W5,R6,x7,x8,N,N]) (n:=1) (d:=.list []) rfl (by simp) ?_
 obtain⟨n1,en1⟩:=jL (eF c5 (show(0:Int)<6 by decide)).1
 have hn1:n1≤5:=by have:=(eF c5 (show(0:Int)<6 by decide)).2; omega
 let I:Nat->bD->Prop:=fun i ρ'=>∃ (ls:List Ln) (x7 x10:L2.Slot),ls.length=i/\(∀ l∈ls,iC (wdF c0 ws) l/\l.2.length≤3/\lO l)/\ρ'=[S,C1,T2,P3,C4,W5,R6,x7,x8,some (1,.list (ls.map aX)),x10]
 refine hG (I n1) ?_ ?_
 ·refine sR (n:=n1) I (avS (oF (aW ((jG (b:=6) (bI (ds:=[lI ns,.int 5]) rfl e5) rfl (by decide)).trans (by rw[en1])) rfl) (by omega))) ⟨[],x7,N,rfl,by simp,rfl⟩ ?_ (fun ρ' h=>⟨_,rfl,h⟩)
  rintro i _ hi ⟨ls,x7,x10,hl,hL,rfl⟩
  refine⟨[S,C1,T2,P3,C4,W5,R6,s0 (.int i),x8,some (1,.list (ls.map aX)),x10],rfl,?_⟩
  obtain⟨a1,ea1⟩:=nK hbt (k:=7+(i:Int)) (by omega) (by omega)
  obtain⟨a2,ea2⟩:=nK hbt (k:=24+(i:Int)) (by omega) (by omega)
  obtain⟨l,el,hl1⟩:=Lz c0 a1 hnt.1 hnt.2 (k:=i) (by omega) hwl hw3 hp0 hpy
  refine cW (ρ':=[S,C1,T2,P3,C4,W5,R6,s0 (.int i),x8,some (1,.list (ls.map aX)),s0 (aX l)]) (fM (m:=.s) (bI (ds:=[.int a1,.int i,fX c0 nt,lN ws,lK ps]) (aW (bI (ds:=[lI ns,.int (7+(i:Int))]) (aW rfl (aW (aN (a:=.int 7) (b:=.int i) rfl rfl rfl) rfl)) ea1) rfl) el) (by simp)) ?_
  have t1:bOf (eOp gEq (eOp bM (aQ iW (aF (aB 0) (aF (eOp bQ (eC (.int 24)) (aB 7)) aI))) (eC (.int 7))) (eC (.int 3))) (vS [S,C1,T2,P3,C4,W5,R6,s0 (.int i),x8,some (1,.list (ls.map aX)),s0 (aX l)])=some (decide (a2%7=3)):=cZ (aN (b:=.int 3) (jG (b:=7) (bI (ds:=[lI ns,.int (24+(i:Int))]) (aW rfl (aW (aN (a:=.int 24) (b:=.int i) rfl rfl rfl) rfl)) ea2) rfl (by decide)) rfl (qN _ _))
  have t2:bOf (eOp gGt (aB 7) (eC (.int 0))) (vS [S,C1,T2,P3,C4,W5,R6,s0 (.int i),x8,some (1,.list (ls.map aX)),s0 (aX l)])=some (decide (0<i)):=cZ (aN (a:=.int i) (b:=.int 0) rfl rfl (EY i))
  have tb:=uW t1 fun _=>t2
  refine hG (fun ρ'=>∃ l:Ln,(iC (wdF c0 ws) l/\l.2.length≤3/\lO l)/\ρ'=[S,C1,T2,P3,C4,W5,R6,s0 (.int i),x8,some (1,.list (ls.map aX)),s0 (aX l)]) ?_ ?_
  ·by_cases q:(decide (a2%7=3)&&decide (0<i))=true
   ·have hi0:0<i:=of_decide_eq_true (hW.mp q).2
    have hx:ls[i - 1]?=some (ls[i - 1]'(by omega)):=iO (by omega)
    have e9:eOp gIx (aB 9) (eOp dE (aB 7) (eC (.int 1))) (vA [S,C1,T2,P3,C4,W5,R6,s0 (.int i),x8,some (1,.list (ls.map aX)),s0 (aX l)])=some (aX (ls[i - 1]'(by omega))):=aN (a:=.list (ls.map aX)) (b:=.int ((i - 1:Nat):Int)) rfl (aN (a:=.int i) (b:=.int 1) rfl rfl (by
     show some (bT ((i:Int) - 1))=_
     congr 2
     omega)) (nH (q:=aX) hx)
    refine gH (tb.trans (by rw[q])) ?_
    exact⟨_,fM (m:=.a) (evA e9 (Ed _)) (by simp),_,rfl,_,hL _ (mU hx),rfl⟩
   ·refine lT (tb.trans (by rw[Bool.eq_false_iff.mpr q])) (pD ⟨_,rfl,l,hl1,rfl⟩)
  rintro _ ⟨l,hl1,rfl⟩
  refine qM (d:=aX l) (ds:=ls.map aX) rfl rfl (by simp; omega) ⟨_,.inl rfl,ls++[l],s0 (.int i),s0 (aX l),by simp[hl],fun x mx=>?_,by simp⟩
  rcases jB.mp mx with q | q
  ·exact hL x q
  ·rw[fL.mp q]; exact hl1
 rintro _ ⟨ls,x7,x10,hl,hL,rfl⟩
 refine jQ ?_
 exact dH (ρ:=[S,C1,T2,P3,C4,W5,R6,x7,x8,s0 (.list (ls.map aX)),x10]) (sN (ds:=[lsD ls,rsD rs]) (aW (bI (ds:=[.list (ls.map aX)]) rfl rfl) rfl)) ⟨_,rfl,wdF c0 ws,rs,ls,rfl,hrl,hr,by omega,hL⟩
theorem PM (cs:List Nat):fQ (cs.map fun(c:Nat)=>bT c) (cs.map fun(c:Nat)=>bT c)=true:=by
 have:(cs.map fun(c:Nat)=>bT c)=(cs.map fun(c:Nat)=>(.inl (c:Int):aK)).map kD:=by
  rw[kO]
  rfl
 rw[this,yZ]
 simp
theorem RP (cs:List Nat):noDicts (cs.map fun(c:Nat)=>bT c)=true:=qX fun t m=>by
 obtain⟨x,_,rfl⟩:=dP.mp m
 rfl
theorem HG (cs:List Nat):bU (cs.map fun(c:Nat)=>bT c)≤1:=sZ fun t m=>by
 obtain⟨x,_,rfl⟩:=dP.mp m
 simp[cP]
theorem Gh (r:Rl):bJ (bR r) (bR r)=true:=by
 cases r with
 | key t c=>simp[bR,bJ,fQ,PM]
 | pts t c o d w=>simp[bR,bJ,fQ,PM]
theorem QZ : ∀ rs:List Rl,fQ (rs.map bR) (rs.map bR)=true
 | []=>by simp[fQ]
 | r::rs=>by
  rw[fS]
  simp only[fQ,Gh,QZ rs,nZ]
theorem Ik (r:Rl):noDict (bR r)=true:=by
 cases r with
 | key t c=>simp[bR,noDict,noDicts,RP]
 | pts t c o d w=>simp[bR,noDict,noDicts,RP]
theorem Fn (r:Rl):(bR r).depth≤10:=by
 cases r with
 | key t c=>have:=HG c; simp[bR,cP,bU]; omega
 | pts t c o d w=>have:=HG c; have:=HG d; simp[bR,cP,bU]; omega
theorem NU (rs:List Rl):bN (rsD rs)=true/\bJ (rsD rs) (rsD rs)=true:=by
 have h1:noDicts (rs.map bR)=true:=qX fun t m=>by
  obtain⟨x,_,rfl⟩:=dP.mp m
  exact Ik x
 have h2:bU (rs.map bR)≤10:=sZ fun t m=>by
  obtain⟨x,_,rfl⟩:=dP.mp m
  exact Fn x
 refine⟨?_,?_⟩
 ·simp[bN,noDict,h1,cP]
  omega
 ·have e:bJ (rsD rs) (rsD rs)=fQ (rs.map bR) (rs.map bR):=by simp only[bJ]
  rw[e,QZ]
theorem QY {d:aA}(h:bN d=true/\bJ d d=true):gNe d d=some (.bool false):=by
 unfold gNe
 rw[h.1,h.2]
 rfl
theorem RJ {d:aA}(h:bN d=true/\bJ d d=true):gEq d d=some (.bool true):=by
 unfold gEq
 rw[h.1,h.2]
 rfl
theorem OM : ∀ ss:List Sk,fQ (ss.map spD) (ss.map spD)=true
 | []=>by simp[fQ]
 | s::ss=>by
  rw[fS]
  simp only[fQ,(DC s).2,OM ss,nZ]
theorem HH {d:aA}(h:bN d=true):noDict d=true/\d.depth≤60:=by
 unfold bN at h
 rw[hW] at h
 exact⟨h.1,of_decide_eq_true h.2⟩
theorem Py (s:Sk):(spD s).depth≤5:=by cases s <;> simp[spD,cP,bU]
theorem OB (ss:List Sk):noDicts (ss.map spD)=true/\bU (ss.map spD)≤5:=⟨qX fun t m=>by
  obtain⟨x,_,rfl⟩:=dP.mp m
  exact(HH (DC x).1).1,sZ fun t m=>by
  obtain⟨x,_,rfl⟩:=dP.mp m
  exact Py x⟩
theorem ND (ss:List Sk):bN (ssD ss)=true/\bJ (ssD ss) (ssD ss)=true:=by
 obtain⟨h1,h2⟩:=OB ss
 refine⟨?_,?_⟩
 ·simp[bN,noDict,h1,cP]
  omega
 ·have e:bJ (ssD ss) (ssD ss)=fQ (ss.map spD) (ss.map spD):=by simp only[bJ]
  rw[e,OM]
theorem Fd (hd:List aK)(ls:List Ln):(aZ hd ls).depth≤10:=by
 have k1:=yK hd
 have l2:bU (ls.map aX)≤5:=sZ fun t m=>by
  obtain⟨x,_,rfl⟩:=dP.mp m
  exact(xT x).2
 simp[cP,bU]
 omega
theorem Gc (word:aE)(hd:List aK)(ls:List Ln)(ss:List Sk):bN (.tuple [.str word,aZ hd ls,ssD ss])=true/\bJ (.tuple [.str word,aZ hd ls,ssD ss]) (.tuple [.str word,aZ hd ls,ssD ss])=true:=by
 obtain⟨h1,h2⟩:=OB ss
 have a1:=GG hd ls
 have a2:=HH a1.1
 have a3:=Fd hd ls
 have s1:=ND ss
 have s2:=HH s1.1
 have s3:(ssD ss).depth≤6:=by
  show(lE (ss.map spD)).depth≤6
  simp[cP]
  omega
 generalize aZ hd ls=A at *
 generalize ssD ss=B at *
 refine⟨?_,?_⟩
 ·simp[bN,noDict,noDicts,a2.1,s2.1,cP,bU]
  omega
 ·simp[bJ,fQ,a1.2,s1.2]
theorem Od {ρ:bD}{P:Out->Prop}{i:Nat}{f:EF}{d d0 d1:aA}{a:List aA}(h:f (vS ρ)=some d)(hi:ρ[i]?=some (some (2,.tuple [d0,d1,.list a])))(q:bS d=true)(q0:bS d0=true)(q1:bS d1=true)(hl:a.length≤1000)(k:P (.nx (ρ.set i (some (2,.tuple [d0,d1,.list (a++[d])]))))):Goes (CZ i .s f) ρ P:=⟨_,by
 have h':eV 0 .s f ρ=some d:=h
 unfold CZ
 rw[h',cM,hi]
 show(if (bS d&&bS d0&&bS d1&&decide (a.length<sizeLine))=true then some (Out.nx (ρ.set i (some (2,.tuple [d0,d1,.list (a++[d])])))) else none)=_
 rw[q,q0,q1,decide_eq_true (BI (by omega)),nZ,nZ,nZ,if_pos rfl],k⟩
theorem UA {a b:BF}{ρ:List (Option aA)}(h:a ρ=some false)(h2:b ρ=some false):bOr a b ρ=some false:=jE (x:=false) (y:=false) h fun _=>h2
theorem Bb (ns:List Int)(hns:ns.length≤63)(hbt:sL ns):IR [.list (ns.map bT)]=some (.bool true):=by
 refine iV rfl ?_
 obtain⟨wd,rs,ls,es,hrl,hr,hl5,hL⟩:=Bu hbt
 obtain⟨c6,e6⟩:=nK hbt (k:=6) (by omega) (by omega)
 obtain⟨hd,eh,hh4⟩:=Na c6 (ls:=ls) (by omega) (fun l m=>by have:=(hL l m).2.1; omega)
 have h5:(dJ ls).length≤5:=by
  have:=oH ls []
  show(ls.foldl fT []).length≤5
  simp at this
  omega
 have W : ∀ hd:List aK,hd.length≤4->Now wd hd (dJ ls):=fun hd hh=>⟨fun l m=>(hL l (Ad6.mp m)).1,fun l m=>(hL l (Ad6.mp m)).2.1,by omega,fun l m=>(hL l (Ad6.mp m)).2.2,hh⟩
 have hy : ∀ l∈ls,lO l:=fun l m=>(hL l m).2.2
 obtain⟨w1,hd1,ls1,ss1,ec1,F1⟩:=PJ (W hd hh4) h5 hy (by omega) hr
 have ht4:(hd.take 1).length≤4:=by rw[wK]; omega
 obtain⟨w2,hd2,ls2,ss2,ec2,F2⟩:=PJ (W (hd.take 1) ht4) h5 hy (by omega) hr
 have er1:=RZ (ls0:=ls) (by omega) hr F1
 have er2:=RZ (ls0:=ls) (by omega) hr F2
 have hss:ss1.length≤101:=(OY hr F1).2.1
 let N:L2.Slot:=none
 let S:L2.Slot:=s0 (lI ns)
 let L1:L2.Slot:=s0 (lsD ls)
 let R2:L2.Slot:=s0 (rsD rs)
 let A3:L2.Slot:=s0 (aZ hd ls)
 let D1:aA:=.tuple [.str w1,aZ hd1 ls1,ssD ss1]
 let D2:aA:=.tuple [.str w2,aZ hd2 ls2,ssD ss2]
 refine Co (d:=.list [lsD ls,rsD rs]) (ρ':=[S,L1,R2,N,N,N,N,N,N]) (bI (ds:=[lI ns]) rfl es) rfl ?_
 refine cW (ρ':=[S,L1,R2,A3,N,N,N,N,N]) (fM (m:=.s) (jF (ds:=[tK hd,lsD ls]) (aW (bI (ds:=[.int c6,lsD ls]) (aW (bI (ds:=[lI ns,.int 6]) rfl e6) rfl) eh) rfl)) (by simp)) ?_
 refine cW (ρ':=[S,L1,R2,A3,R2,N,N,N,N]) (fM (m:=.s) (bI (ds:=[rsD rs]) rfl rfl) (by simp)) ?_
 refine cW (ρ':=[S,L1,R2,A3,R2,some (2,D1),N,N,N]) (fM (m:=.s) (bI (ds:=[aZ hd ls,rsD rs]) rfl ec1) (by simp)) ?_
 refine cW (ρ':=[S,L1,R2,A3,R2,some (2,D1),N,N,N]) (gZ (UA (jH (x:=true) (bI (ds:=[D1,aZ hd ls,rsD rs]) rfl er1)) (cZ (aN (a:=rsD rs) (b:=rsD rs) rfl rfl (QY (NU rs)))))) ?_
 have g2 : ∀ (σ:List (Option aA)) (l:List aA),σ[5]?=some (some (.tuple [.str w1,aZ hd1 ls1,.list l]))->eOp gIx (aB 5) (eC (.int 2)) σ=some (.list l):=fun σ l h=>aN (a:=.tuple [.str w1,aZ hd1 ls1,.list l]) (b:=.int 2) (by unfold aB; rw[h]; rfl) rfl rfl
 refine cW (ρ':=[S,L1,R2,A3,R2,some (2,D1),some (1,ssD ss1),N,N]) (fM (m:=.a) (n:=1) (evA (bI (ds:=[ssD ss1]) (aW (g2 _ (ss1.map spD) rfl) rfl) rfl) (MS ss1)) (by simp)) ?_
 have cutH : ∀ σ:List (Option aA),σ[3]?=some (some (aZ hd ls))->oK (eOp gIx (aB 3) (eC (.int 0))) oN (oS (eC (.int 1))) σ=some (tK (hd.take 1)):=fun σ h=>by
  have e3:eOp gIx (aB 3) (eC (.int 0)) σ=some (tK hd):=aN (a:=aZ hd ls) (b:=.int 0) (by unfold aB; rw[h]; rfl) rfl rfl
  unfold oK
  rw[e3]
  show some (gU (cutD (hd.map kD) none (some ((1:Nat):Int))))=_
  rw[QL]
 have altH : ∀ σ:List (Option aA),σ[3]?=some (some (aZ hd ls))->σ[1]?=some (some (lsD ls))->cF (aF (oK (eOp gIx (aB 3) (eC (.int 0))) oN (oS (eC (.int 1)))) (aF (aB 1) aI)) σ=some (aZ (hd.take 1) ls):=fun σ h h2=>jF (ds:=[tK (hd.take 1),lsD ls]) (aW (cutH σ h) (aW (g:=aI) (by unfold aB; rw[h2]; rfl) rfl))
 refine cW (ρ':=[S,L1,R2,A3,R2,some (2,D1),some (1,ssD ss1),s0 D2,N]) (fM (m:=.s) (bI (ds:=[aZ (hd.take 1) ls,rsD rs]) (aW (altH _ rfl rfl) rfl) ec2) (by simp)) ?_
 refine cW (ρ':=[S,L1,R2,A3,R2,some (2,D1),some (1,ssD ss1),s0 D2,N]) (gZ (UA (jH (x:=true) (bI (ds:=[D2,aZ (hd.take 1) ls,rsD rs]) (aW rfl (aW (altH _ rfl rfl) rfl)) er2)) (cZ (aN (a:=ssD ss1) (b:=ssD ss1) (g2 _ (ss1.map spD) rfl) rfl (QY (ND ss1)))))) ?_
 refine hG (fun ρ'=>ρ'=[S,L1,R2,A3,R2,some (2,.tuple [.str w1,aZ hd1 ls1,.list (ss1.map spD++[.none])]),some (1,ssD ss1),s0 D2,N]) (Od (d:=.none) (d0:=.str w1) (d1:=aZ hd1 ls1) (a:=ss1.map spD) rfl rfl rfl rfl (BX hd1 ls1) (by simp; omega) ⟨_,rfl,rfl⟩) ?_
 rintro _ rfl
 refine jQ ?_
 let D3:aA:=.tuple [.str w1,aZ hd1 ls1,.list (ss1.map spD++[.none])]
 show Goes _ [S,L1,R2,A3,R2,s0 D3,some (1,ssD ss1),s0 D2,N] _
 refine cW (ρ':=[S,L1,R2,A3,R2,s0 D3,some (1,ssD ss1),s0 D2,s0 D1]) (fM (m:=.s) (bI (ds:=[aZ hd ls,rsD rs]) rfl ec1) (by simp)) ?_
 refine Nt (d:=.bool true) (kX (x:=true) (y:=true) (aN (a:=D1) (b:=D1) rfl (jF (ds:=[.str w1,aZ hd1 ls1,ssD ss1]) (aW (aN (a:=D3) (b:=.int 0) rfl rfl rfl) (aW (aN (a:=D3) (b:=.int 1) rfl rfl rfl) rfl))) (RJ (Gc w1 hd1 ls1 ss1))) fun _=>aN (a:=rsD rs) (b:=rsD rs) rfl rfl (RJ (NU rs))) rfl rfl
noncomputable def CY (K:aP):Sp:=fun vs H Q _=>∃ (a:aD) (ns:List Int),vs=[.ref a]/\SqL K H a (ns.map V.int)/\ns.length≤63/\sL ns /\ ∀ H',Q (.bl true) H'
theorem Ac {K:aP} : ∀ vs H Q E,CY K vs H Q E->spF K 0 IR vs H Q E:=fun vs H Q E gh=>by
 obtain⟨a,ns,ev,hS,hl,hb,k⟩:=gh
 subst ev
 have e0:hid H (fun _=>False)=H:=by
  funext b
  unfold hid
  rw[if_neg (fun z=>z)]
 refine⟨fun _=>False,[.list (ns.map bT)],.bool true,fun _ z=>z.elim,?_,Bb ns hl hb,eP fun v H' _ r=>?_⟩
 ·rw[e0]
  exact Aan.mpr ⟨_,_,rfl,Abx.mpr ⟨a,_,rfl,hS,GN ns⟩,Aau.mpr rfl⟩
 ·rw[Aav.mp r]
  exact k H'
def Hl (K:aP)(n:aE)(st:cG)(f:aD):Prop:=∃ (od an:Option aD) (sl:Array (Option aG)) (oc kV dc pm cd ct:aG),gD K eQ n=some (some (.ref f))/\K.lookup f=some ⟨oc,od,.func (lA n n (lY st) (kG st) (bZ st) .none kV dc pm an cd ct),sl⟩/\zV K cd n=true/\tT K (.ref f)=true
def Hs (K:aP)(n:aE)(st:cG)(f:aD):Prop:=∃ fd,Fun K n n st f fd/\gD K eQ n=some (some (.ref f))/\tT K (.ref f)=true
section
variable {K:aP}{n:aE}{st:cG}{f:aD}
theorem Bfd {od an:Option aD}{sl:Array (Option aG)}{oc kV dc pm cd ct:aG}(a:gD K eQ n=some (some (.ref f)))(l:K.lookup f=some ⟨oc,od,.func (lA n n (lY st) (kG st) (bZ st) .none kV dc pm an cd ct),sl⟩)(c:zV K cd n=true)(k:tT K (.ref f)=true):Hl K n st f:=⟨_,_,_,_,_,_,_,_,_,a,l,c,k⟩
theorem Adn {od an:Option aD}{sl:Array (Option aG)}{oc kV dc pm cd ct:aG}(a:gD K eQ n=some (some (.ref f)))(l:K.lookup f=some ⟨oc,od,.func (lA n n (lY st) (kG st) (bZ st) .none kV dc pm an cd ct),sl⟩)(c:zV K cd n=true)(k:tT K (.ref f)=true):Hs K n st f:=⟨_,TN (st:=st) l c k,a,k⟩
noncomputable def Hs.fd (h:Hs K n st f):iA:=Classical.choose h
theorem Hs.fn (h:Hs K n st f):Fun K n n st f h.fd:=(VR h).1
theorem Hs.df {P:cL}{w:cA}{mg:aE->Option aG}{h base:bG}{k:Nat}{ps:List aE}{sp:Sp}(X:K.In h)(G:h.Ns eQ mg)(H:Hs K n st f)(ok:FnOk P w K mg base CX0 k f H.fd ps sp)(b:Binds K H.fd ps []):Def P w K mg base n k ps sp:=⟨_,_,ok,DP X G (VR H).2.1,(VR H).2.2,b⟩
end
theorem kH {us:List aG}{n:Nat}(h:us.length=n+1) : ∃ a r,us=a::r/\r.length=n:=by
 cases us with
 | nil=>exact absurd h (by simp)
 | cons a r=>exact⟨a,r,rfl,Nat.succ.inj h⟩
theorem AS {K:aP}{x qual:aE}{st:cG}{f:aD}{fd:iA}{ps:List aE}(F:Fun K x qual st f fd)(hp:ps.length=1)(h : ∀ (kV doc pm:aG) (an:Option aD) (cdv ct:aG) a,wF (lA x qual (lY st) (kG st) (bZ st) .none kV doc pm an cdv ct) ⟨[a],[]⟩=pure (ps.zip [a])):Binds K fd ps []:=F.binds fun kV doc pm an cdv ct u0 hl=>by
 have g0:=hl.trans hp
 clear hl
 obtain⟨a,u1,rfl,g1⟩:=kH g0
 cases AB g1
 exact h kV doc pm an cdv ct a
theorem kS {K:aP}{x qual:aE}{st:cG}{f:aD}{fd:iA}{ps:List aE}(F:Fun K x qual st f fd)(hp:ps.length=2)(h : ∀ (kV doc pm:aG) (an:Option aD) (cdv ct:aG) a b,wF (lA x qual (lY st) (kG st) (bZ st) .none kV doc pm an cdv ct) ⟨[a,b],[]⟩=pure (ps.zip [a,b])):Binds K fd ps []:=F.binds fun kV doc pm an cdv ct u0 hl=>by
 have g0:=hl.trans hp
 clear hl
 obtain⟨a,u1,rfl,g1⟩:=kH g0
 obtain⟨b,u2,rfl,g2⟩:=kH g1
 cases AB g2
 exact h kV doc pm an cdv ct a b
theorem mH {K:aP}{x qual:aE}{st:cG}{f:aD}{fd:iA}{ps:List aE}(F:Fun K x qual st f fd)(hp:ps.length=3)(h : ∀ (kV doc pm:aG) (an:Option aD) (cdv ct:aG) a b c,wF (lA x qual (lY st) (kG st) (bZ st) .none kV doc pm an cdv ct) ⟨[a,b,c],[]⟩=pure (ps.zip [a,b,c])):Binds K fd ps []:=F.binds fun kV doc pm an cdv ct u0 hl=>by
 have g0:=hl.trans hp
 clear hl
 obtain⟨a,u1,rfl,g1⟩:=kH g0
 obtain⟨b,u2,rfl,g2⟩:=kH g1
 obtain⟨c,u3,rfl,g3⟩:=kH g2
 cases AB g3
 exact h kV doc pm an cdv ct a b c
theorem EM {K:aP}{x qual:aE}{st:cG}{f:aD}{fd:iA}{ps:List aE}(F:Fun K x qual st f fd)(hp:ps.length=4)(h : ∀ (kV doc pm:aG) (an:Option aD) (cdv ct:aG) a b c d,wF (lA x qual (lY st) (kG st) (bZ st) .none kV doc pm an cdv ct) ⟨[a,b,c,d],[]⟩=pure (ps.zip [a,b,c,d])):Binds K fd ps []:=F.binds fun kV doc pm an cdv ct u0 hl=>by
 have g0:=hl.trans hp
 clear hl
 obtain⟨a,u1,rfl,g1⟩:=kH g0
 obtain⟨b,u2,rfl,g2⟩:=kH g1
 obtain⟨c,u3,rfl,g3⟩:=kH g2
 obtain⟨d,u4,rfl,g4⟩:=kH g3
 cases AB g4
 exact h kV doc pm an cdv ct a b c d
theorem EN {K:aP}{x qual:aE}{st:cG}{f:aD}{fd:iA}{ps:List aE}(F:Fun K x qual st f fd)(hp:ps.length=5)(h : ∀ (kV doc pm:aG) (an:Option aD) (cdv ct:aG) a b c d e,wF (lA x qual (lY st) (kG st) (bZ st) .none kV doc pm an cdv ct) ⟨[a,b,c,d,e],[]⟩=pure (ps.zip [a,b,c,d,e])):Binds K fd ps []:=F.binds fun kV doc pm an cdv ct u0 hl=>by
 have g0:=hl.trans hp
 clear hl
 obtain⟨a,u1,rfl,g1⟩:=kH g0
 obtain⟨b,u2,rfl,g2⟩:=kH g1
 obtain⟨c,u3,rfl,g3⟩:=kH g2
 obtain⟨d,u4,rfl,g4⟩:=kH g3
 obtain⟨e,u5,rfl,g5⟩:=kH g4
 cases AB g5
 exact h kV doc pm an cdv ct a b c d e
set_option maxHeartbeats 4000000 in
theorem all_mk {l:US}{w:cA}{K:aP}{h:bG}{mg:aE->Option aG}{fa f_is_whole f_put_in f_once f_picked f_unlike f_word_of f_new_names f_is_past f__law_cell f__law_names f__law_line f__law_places f__law_ring f__law_head f__law_beyond f_put_in_lines f_meet f_step_of f_points_to_one f_is_step f_behind_put f__law_pool f__law_rule f_due_by_key f_wants_put f_is_right_key_step f_behind_same f__law_set f_due_put f_is_right f_due f_behind f_chase f__law_walked f__law_ended f__law_right f_law:aD}(X:K.In h)(G:h.Ns eQ mg)(hfa:mg "law" = some (.ref fa)){t_MOST_LINES_THERE t_MOST_PUTS:Tok}
  (h_is_whole:Hs K "is_whole" HF f_is_whole) (h_put_in:Hs K "put_in" BO f_put_in) (h_once:Hs K "once" FL f_once) (h_picked:Hs K "picked" BV f_picked) (h_unlike:Hs K "unlike" BU f_unlike) (h_word_of:Hs K "word_of" GY f_word_of) (h_new_names:Hs K "new_names" rB f_new_names) (h_is_past:Hs K "is_past" sX f_is_past) (h__law_cell:Hs K "_law_cell" HX f__law_cell) (h__law_names:Hs K "_law_names" IB f__law_names) (h__law_line:Hs K "_law_line" HQ f__law_line) (h__law_places:Hs K "_law_places" IG f__law_places) (h__law_ring:Hs K "_law_ring" HZ f__law_ring) (h__law_head:Hs K "_law_head" CI f__law_head) (h__law_beyond:Hs K "_law_beyond" zI f__law_beyond) (h_put_in_lines:Hs K "put_in_lines" CM f_put_in_lines) (h_meet:Hs K "meet" FF f_meet) (h_step_of:Hs K "step_of" GP f_step_of) (h_points_to_one:Hs K "points_to_one" CO f_points_to_one) (h_is_step:Hs K "is_step" CA f_is_step) (h_behind_put:Hs K "behind_put" vP f_behind_put) (h__law_pool:Hs K "_law_pool" HW f__law_pool) (h__law_rule:Hs K "_law_rule" HR f__law_rule) (h_due_by_key:Hs K "due_by_key" IC f_due_by_key) (h_wants_put:Hs K "wants_put" HV f_wants_put) (h_is_right_key_step:Hs K "is_right_key_step" II f_is_right_key_step) (h_behind_same:Hs K "behind_same" IF f_behind_same) (h__law_set:Hs K "_law_set" yJ f__law_set) (h_due_put:Hs K "due_put" GQ f_due_put) (h_is_right:Hs K "is_right" HN f_is_right) (h_due:Hs K "due" IT f_due) (h_behind:Hs K "behind" GC f_behind) (h_chase:Hs K "chase" FS f_chase) (h__law_walked:Hs K "_law_walked" IE f__law_walked) (h__law_ended:Hs K "_law_ended" IA f__law_ended) (h__law_right:Hs K "_law_right" ID f__law_right) (h_law:Hl K "law" sF f_law)
  {a_PARTS:aD} {o_PARTS:bP} (q_PARTS:gD K eQ "PARTS" = some (some (.ref a_PARTS))) (l_PARTS:K.lookup a_PARTS=some o_PARTS) (s_PARTS:(a_PARTS == iJ)=false) (v_PARTS:GO l.prog w o_PARTS (gKV mO))
  (z_isinstance:gD K eQ "isinstance" = some none) (z_int:gD K eQ "int" = some none) (z_bool:gD K eQ "bool" = some none) (z_abs:gD K eQ "abs" = some none) (z_range:gD K eQ "range" = some none) (z_len:gD K eQ "len" = some none) (z_str:gD K eQ "str" = some none) (z_all:gD K eQ "all" = some none) (z_any:gD K eQ "any" = some none) (z_list:gD K eQ "list" = some none) (z_tuple:gD K eQ "tuple" = some none) (z_dict:gD K eQ "dict" = some none) (z_set:gD K eQ "set" = some none) (z_sorted:gD K eQ "sorted" = some none) (z_sum:gD K eQ "sum" = some none) (z_min:gD K eQ "min" = some none) (z_max:gD K eQ "max" = some none) (z_enumerate:gD K eQ "enumerate" = some none) (z_zip:gD K eQ "zip" = some none) (z_reversed:gD K eQ "reversed" = some none) (z_ValueError:gD K eQ "ValueError" = some none) (g_MOST_LINES_THERE:gD K eQ "MOST_LINES_THERE" = some (some (.int 5 t_MOST_LINES_THERE))) (g_MOST_PUTS:gD K eQ "MOST_PUTS" = some (some (.int 16 t_MOST_PUTS))) :
  ∃ fd:iA,(∀ (s:aL) (v:aG),BindsTo s fd ⟨[v],[]⟩ [("_law_script",v)]) /\ ∀ base:bG,K.In base->base.Ns eQ mg->FnOk l.prog w K mg base CX0 8 fa fd ["_law_script"] (CY K):=by
 obtain⟨_,an_law,_,_,kV_law,dc_law,pm_law,cd_law,ct_law,a_law,l_law,c_law,k_law⟩:=h_law
 have Z:Gds l.prog w K mg:=⟨⟨_,DP X G q_PARTS,GD.of s_PARTS l_PARTS v_PARTS⟩⟩
 have e:=hfa.symm.trans (DP X G a_law)
 cases e
 have B:Blt mg:=⟨iN X G z_isinstance,iN X G z_int,iN X G z_bool,iN X G z_abs,iN X G z_range,iN X G z_len,iN X G z_str,iN X G z_all,iN X G z_any,iN X G z_list,iN X G z_tuple,iN X G z_dict,iN X G z_set,iN X G z_sorted,iN X G z_sum,iN X G z_min,iN X G z_max,iN X G z_enumerate,iN X G z_zip,iN X G z_reversed,iN X G z_ValueError⟩
 have C:Cst mg:=⟨⟨_,DP X G g_MOST_LINES_THERE⟩,⟨_,DP X G g_MOST_PUTS⟩⟩
 refine⟨lA "law" "law" (lY sF) (kG sF) (bZ sF) .none kV_law dc_law pm_law an_law cd_law ct_law,fun s v=>.of_eq rfl,fun base _ _=>?_⟩
 have D_is_whole:Def l.prog w K mg base "is_whole" 1 yL (spF K 0 qY):=h_is_whole.df X G (Hj h_is_whole.fn B C Z ) (AS h_is_whole.fn (ps:=yL) rfl fun _ _ _ _ _ _ _=>rfl)
 have D_put_in:Def l.prog w K mg base "put_in" 1 uY (spF K 0 qR):=h_put_in.df X G (Df h_put_in.fn B C Z ) (kS h_put_in.fn (ps:=uY) rfl fun _ _ _ _ _ _ _ _=>rfl)
 have D_once:Def l.prog w K mg base "once" 1 uN (spF K 0 pB):=h_once.df X G (Mf h_once.fn B C Z ) (AS h_once.fn (ps:=uN) rfl fun _ _ _ _ _ _ _=>rfl)
 have D_picked:Def l.prog w K mg base "picked" 1 sU (spF K 0 lZ):=h_picked.df X G (Dr h_picked.fn B C Z ) (kS h_picked.fn (ps:=sU) rfl fun _ _ _ _ _ _ _ _=>rfl)
 have D_unlike:Def l.prog w K mg base "unlike" 1 uZ (spF K 1 qS):=h_unlike.df X G (Dk h_unlike.fn B C Z ) (kS h_unlike.fn (ps:=uZ) rfl fun _ _ _ _ _ _ _ _=>rfl)
 have D_word_of:Def l.prog w K mg base "word_of" 1 yE (spF K 0 vE):=h_word_of.df X G (Hf h_word_of.fn B C Z ) (kS h_word_of.fn (ps:=yE) rfl fun _ _ _ _ _ _ _ _=>rfl)
 have D_new_names:Def l.prog w K mg base "new_names" 1 yN (spF K 1 rA):=h_new_names.df X G (Ip h_new_names.fn B C Z ) (kS h_new_names.fn (ps:=yN) rfl fun _ _ _ _ _ _ _ _=>rfl)
 have D_is_past:Def l.prog w K mg base "is_past" 1 yD (spF K 0 pG):=h_is_past.df X G (Gq h_is_past.fn B C Z ) (EM h_is_past.fn (ps:=yD) rfl fun _ _ _ _ _ _ _ _ _ _=>rfl)
 have D__law_cell:Def l.prog w K mg base "_law_cell" 1 vV (spF K 0 iW):=h__law_cell.df X G (Jm h__law_cell.fn B C Z ) (kS h__law_cell.fn (ps:=vV) rfl fun _ _ _ _ _ _ _ _=>rfl)
 have D__law_names:Def l.prog w K mg base "_law_names" 1 vO (spF K 1 rC):=h__law_names.df X G (Jq h__law_names.fn B C Z ) (kS h__law_names.fn (ps:=vO) rfl fun _ _ _ _ _ _ _ _=>rfl)
 have D__law_line:Def l.prog w K mg base "_law_line" 1 yM (spF K 0 vU):=h__law_line.df X G (Jl h__law_line.fn B C Z ) (EN h__law_line.fn (ps:=yM) rfl fun _ _ _ _ _ _ _ _ _ _ _=>rfl)
 have D__law_places:Def l.prog w K mg base "_law_places" 1 zG (spF K 0 rD):=h__law_places.df X G (Ks h__law_places.fn B C Z ) (mH h__law_places.fn (ps:=zG) rfl fun _ _ _ _ _ _ _ _ _=>rfl)
 have D__law_ring:Def l.prog w K mg base "_law_ring" 1 yO (spF K 1 vJ):=h__law_ring.df X G (Kc h__law_ring.fn B C Z ) (kS h__law_ring.fn (ps:=yO) rfl fun _ _ _ _ _ _ _ _=>rfl)
 have D__law_head:Def l.prog w K mg base "_law_head" 1 yQ (spF K 0 vT):=h__law_head.df X G (Ji h__law_head.fn B C Z ) (kS h__law_head.fn (ps:=yQ) rfl fun _ _ _ _ _ _ _ _=>rfl)
 have D__law_beyond:Def l.prog w K mg base "_law_beyond" 1 vW (spF K 0 tD):=h__law_beyond.df X G (Kt h__law_beyond.fn B C Z ) (EM h__law_beyond.fn (ps:=vW) rfl fun _ _ _ _ _ _ _ _ _ _=>rfl)
 have D_put_in_lines:Def l.prog w K mg base "put_in_lines" 2 zO (spF K 0 zN):=h_put_in_lines.df X G (Kv h_put_in_lines.fn B C Z D_put_in) (kS h_put_in_lines.fn (ps:=zO) rfl fun _ _ _ _ _ _ _ _=>rfl)
 have D_meet:Def l.prog w K mg base "meet" 2 uM (spF K 0 pA):=h_meet.df X G (Lx h_meet.fn B C Z D_picked) (mH h_meet.fn (ps:=uM) rfl fun _ _ _ _ _ _ _ _ _=>rfl)
 have D_step_of:Def l.prog w K mg base "step_of" 2 vD (spF K 0 qW):=h_step_of.df X G (Gk h_step_of.fn B C Z D_word_of) (EN h_step_of.fn (ps:=vD) rfl fun _ _ _ _ _ _ _ _ _ _ _=>rfl)
 have D_points_to_one:Def l.prog w K mg base "points_to_one" 2 zM (spF K 0 vX):=h_points_to_one.df X G (Ky h_points_to_one.fn B C Z D_picked) (mH h_points_to_one.fn (ps:=zM) rfl fun _ _ _ _ _ _ _ _ _=>rfl)
 have D_is_step:Def l.prog w K mg base "is_step" 2 yH (spF K 0 sY):=h_is_step.df X G (Fv h_is_step.fn B C Z D_is_whole) (AS h_is_step.fn (ps:=yH) rfl fun _ _ _ _ _ _ _=>rfl)
 have D_behind_put:Def l.prog w K mg base "behind_put" 2 yV (spF K 0 yY):=h_behind_put.df X G (Jz h_behind_put.fn B C Z D_picked D_new_names) (mH h_behind_put.fn (ps:=yV) rfl fun _ _ _ _ _ _ _ _ _=>rfl)
 have D__law_pool:Def l.prog w K mg base "_law_pool" 2 yP (spF K 1 vK):=h__law_pool.df X G (Jo h__law_pool.fn B C Z D__law_names) (kS h__law_pool.fn (ps:=yP) rfl fun _ _ _ _ _ _ _ _=>rfl)
 have D__law_rule:Def l.prog w K mg base "_law_rule" 2 yR (spF K 0 vI):=h__law_rule.df X G (Jh h__law_rule.fn B C Z D__law_places) (EM h__law_rule.fn (ps:=yR) rfl fun _ _ _ _ _ _ _ _ _ _=>rfl)
 have D_due_by_key:Def l.prog w K mg base "due_by_key" 3 yW (spF K 0 vQ):=h_due_by_key.df X G (Kk h_due_by_key.fn B C Z D_unlike D_meet D_step_of) (mH h_due_by_key.fn (ps:=yW) rfl fun _ _ _ _ _ _ _ _ _=>rfl)
 have D_wants_put:Def l.prog w K mg base "wants_put" 3 vH (spF K 0 pH):=h_wants_put.df X G (Jp h_wants_put.fn B C Z D_points_to_one) (mH h_wants_put.fn (ps:=vH) rfl fun _ _ _ _ _ _ _ _ _=>rfl)
 have D_is_right_key_step:Def l.prog w K mg base "is_right_key_step" 3 zP (spF K 0 zQ):=h_is_right_key_step.df X G (Lb h_is_right_key_step.fn B C Z D_unlike D_meet D_step_of) (mH h_is_right_key_step.fn (ps:=zP) rfl fun _ _ _ _ _ _ _ _ _=>rfl)
 have D_behind_same:Def l.prog w K mg base "behind_same" 3 zF (spF K 0 zJ):=h_behind_same.df X G (Kq h_behind_same.fn B C Z D_put_in D_once D_put_in_lines) (mH h_behind_same.fn (ps:=zF) rfl fun _ _ _ _ _ _ _ _ _=>rfl)
 have D__law_set:Def l.prog w K mg base "_law_set" 3 yS (spF K 1 vL):=h__law_set.df X G (Ig h__law_set.fn B C Z D__law_cell D__law_names D__law_line D__law_ring D__law_pool D__law_rule) (AS h__law_set.fn (ps:=yS) rfl fun _ _ _ _ _ _ _=>rfl)
 have D_due_put:Def l.prog w K mg base "due_put" 4 yG (spF K 0 vF):=h_due_put.df X G (Gv h_due_put.fn B C Z D_wants_put) (kS h_due_put.fn (ps:=yG) rfl fun _ _ _ _ _ _ _ _=>rfl)
 have D_is_right:Def l.prog w K mg base "is_right" 4 yI (spF K 0 vM):=h_is_right.df X G (Ii h_is_right.fn B C Z D_is_step D_wants_put D_is_right_key_step) (mH h_is_right.fn (ps:=yI) rfl fun _ _ _ _ _ _ _ _ _=>rfl)
 have D_due:Def l.prog w K mg base "due" 5 sA (spF K 0 lQ):=h_due.df X G (Ct h_due.fn B C Z D_due_by_key D_due_put) (kS h_due.fn (ps:=sA) rfl fun _ _ _ _ _ _ _ _=>rfl)
 have D_behind:Def l.prog w K mg base "behind" 5 vB (spF K 0 kZ):=h_behind.df X G (Rr h_behind.fn B C Z D_behind_put D_behind_same D_is_right) (mH h_behind.fn (ps:=vB) rfl fun _ _ _ _ _ _ _ _ _=>rfl)
 have D_chase:Def l.prog w K mg base "chase" 6 xU (spF K 2 qO):=h_chase.df X G (Ql h_chase.fn B C Z D_once D_is_past D_due D_behind) (kS h_chase.fn (ps:=xU) rfl fun _ _ _ _ _ _ _ _=>rfl)
 have D__law_walked:Def l.prog w K mg base "_law_walked" 6 zH (spF K 1 zL):=h__law_walked.df X G (Ko h__law_walked.fn B C Z D__law_beyond D_due D_behind) (mH h__law_walked.fn (ps:=zH) rfl fun _ _ _ _ _ _ _ _ _=>rfl)
 have D__law_ended:Def l.prog w K mg base "_law_ended" 6 yX (spF K 0 yT):=h__law_ended.df X G (Js h__law_ended.fn B C Z D__law_beyond D_due) (EN h__law_ended.fn (ps:=yX) rfl fun _ _ _ _ _ _ _ _ _ _ _=>rfl)
 have D__law_right:Def l.prog w K mg base "_law_right" 7 yU (spF K 0 vN):=h__law_right.df X G (Jy h__law_right.fn B C Z D__law_walked D__law_ended) (mH h__law_right.fn (ps:=yU) rfl fun _ _ _ _ _ _ _ _ _=>rfl)
 exact(Aj (TN (st:=sF) l_law c_law k_law) B C Z D__law_cell D__law_head D__law_set D_chase D__law_right).imp Ac
theorem walk {l:US}{q:cL}{loose:List aE}{XP:(aE->Option aG)->bG->Prop}{YP:cA->bG->Prop}{d:DefRec}{K:Params->aP}(hn:l.most=some 63)(hdf:d.params.defaults=[])
  (hY : ∀ (w:cA) (h:bG),YP w h->(K w.params).In h)
  (F : ∀ (w:cA) (mg:aE->Option aG) (fa:aD) (h:bG),(K w.params).In h->h.Ns eQ mg->mg d.name=some (.ref fa) ->
   ∃ fd:iA,(∀ (s:aL) (u:aG),BindsTo s fd ⟨[u],[]⟩ [("_law_script",u)]) /\ ∀ base:bG,(K w.params).In base->base.Ns eQ mg->FnOk l.prog w (K w.params) mg base CX0 8 fa fd ["_law_script"] (CY (K w.params))) :
  PySem.W.WalkO q loose XP YP l.row.toRowW d [] (fun f vs=>PySem.call f vs):=
 L2.A1k (n:=63) (k:=8) (x:="_law_script") (CX:=fun _=>CX0) (sp:=fun w=>CY (K w.params)) hn (by decide) hdf ⟨rfl,by decide,by decide⟩ hY F (fun _ _ a ns hb hl _ hS=>⟨a,ns,rfl,hS,hl,hb,fun _=>rfl⟩) fun _ _ _ _ _ z=>z
end Aw
def PySem.W.Fast.tw8128060028921548368:=0
def PySem.W.Fast.tw11255356421618687054:=0
def PySem.W.Fast.tw1845170764694477365:=0
def PySem.W.Fast.tw4557729360587037357:=0
def PySem.W.Fast.tw11884870607638963423:=0
def PySem.W.Fast.tw9089864486199333061:=0
def PySem.W.Fast.tw10476322584182486359:=0
def PySem.W.Fast.tw6321484776814676571:=0
def PySem.W.Fast.tw8752262486120329514:=0
def PySem.W.Fast.tw13323095971685680441:=0
def PySem.W.Fast.tw11458021656843682035:=0
def PySem.W.Fast.tw1855207109182661592:=0
def PySem.W.Fast.tw1301937846835452999:=0
def PySem.W.Fast.tw5228234707224473167:=0
def PySem.W.Fast.tw11003358135138559896:=0
def PySem.W.Fast.tw7229893115107447590:=0
def PySem.W.Fast.tw10087097939942035911:=0
def PySem.W.Fast.tw18022600668160283175:=0
def PySem.W.Fast.tw6923708269968992882:=0
def PySem.W.Fast.tw7686515219178203097:=0
def PySem.W.Fast.tw1573066815844185541:=0
def PySem.W.Fast.tw3504986421238711328:=0
def PySem.W.Fast.tw7497614644804301308:=0
def PySem.W.Fast.tw10985728187336302395:=0
def PySem.W.Fast.tw13550462847887446896:=0
def PySem.W.Fast.tw6792565191484692291:=0
def PySem.W.Fast.tw6215838810992433828:=0
def PySem.W.Fast.tw207305769366323900:=0
def PySem.W.Fast.tw1673781490677958783:=0
def PySem.W.Fast.tw8323143729434990609:=0
def PySem.W.Fast.tw17863098184559450998:=0
def PySem.W.Fast.tw4986552030244163771:=0
def PySem.W.Fast.tw14336652693279538489:=0
def PySem.W.Fast.tw13528761310883660814:=0
def PySem.W.Fast.tw14525807827883321843:=0
def PySem.W.Fast.tw4884726228609055235:=0
def PySem.W.Fast.tw3663754790309113327:=0
def PySem.W.Fast.tw17234162373785519854:=0
def PySem.W.Fast.tw11355750785563941507:=0
def PySem.W.Fast.tw9148471156403393191:=0
open PySem PySem.W PyProof.Rows
set_option maxRecDepth 100000 in
set_option maxHeartbeats 0 in
theorem PySem.Challenge.cw_askwithin_k48_a_chase_goes_step_by_step_holds : PySem.Challenge.rw_askwithin_k48_a_chase_goes_step_by_step.Holds := by
 w_on; o_law; k_head; (case hw=>w_witness2)
 k_fill
 refine Aw.walk (l:=PySem.Challenge.rw_askwithin_k48_a_chase_goes_step_by_step) rfl rfl (fun w h Y=>PySem.W.kIn_of Y) ?F
 case F=>
  intro w mg fa h KX G hmg
  refine' Aw.all_mk KX G hmg (Aw.Adn ?a_is_whole ?l_is_whole ?c_is_whole ?k_is_whole) (Aw.Adn ?a_put_in ?l_put_in ?c_put_in ?k_put_in) (Aw.Adn ?a_once ?l_once ?c_once ?k_once) (Aw.Adn ?a_picked ?l_picked ?c_picked ?k_picked) (Aw.Adn ?a_unlike ?l_unlike ?c_unlike ?k_unlike) (Aw.Adn ?a_word_of ?l_word_of ?c_word_of ?k_word_of) (Aw.Adn ?a_new_names ?l_new_names ?c_new_names ?k_new_names) (Aw.Adn ?a_is_past ?l_is_past ?c_is_past ?k_is_past) (Aw.Adn ?a__law_cell ?l__law_cell ?c__law_cell ?k__law_cell) (Aw.Adn ?a__law_names ?l__law_names ?c__law_names ?k__law_names) (Aw.Adn ?a__law_line ?l__law_line ?c__law_line ?k__law_line) (Aw.Adn ?a__law_places ?l__law_places ?c__law_places ?k__law_places) (Aw.Adn ?a__law_ring ?l__law_ring ?c__law_ring ?k__law_ring) (Aw.Adn ?a__law_head ?l__law_head ?c__law_head ?k__law_head) (Aw.Adn ?a__law_beyond ?l__law_beyond ?c__law_beyond ?k__law_beyond) (Aw.Adn ?a_put_in_lines ?l_put_in_lines ?c_put_in_lines ?k_put_in_lines) (Aw.Adn ?a_meet ?l_meet ?c_meet ?k_meet) (Aw.Adn ?a_step_of ?l_step_of ?c_step_of ?k_step_of) (Aw.Adn ?a_points_to_one ?l_points_to_one ?c_points_to_one ?k_points_to_one) (Aw.Adn ?a_is_step ?l_is_step ?c_is_step ?k_is_step) (Aw.Adn ?a_behind_put ?l_behind_put ?c_behind_put ?k_behind_put) (Aw.Adn ?a__law_pool ?l__law_pool ?c__law_pool ?k__law_pool) (Aw.Adn ?a__law_rule ?l__law_rule ?c__law_rule ?k__law_rule) (Aw.Adn ?a_due_by_key ?l_due_by_key ?c_due_by_key ?k_due_by_key) (Aw.Adn ?a_wants_put ?l_wants_put ?c_wants_put ?k_wants_put) (Aw.Adn ?a_is_right_key_step ?l_is_right_key_step ?c_is_right_key_step ?k_is_right_key_step) (Aw.Adn ?a_behind_same ?l_behind_same ?c_behind_same ?k_behind_same) (Aw.Adn ?a__law_set ?l__law_set ?c__law_set ?k__law_set) (Aw.Adn ?a_due_put ?l_due_put ?c_due_put ?k_due_put) (Aw.Adn ?a_is_right ?l_is_right ?c_is_right ?k_is_right) (Aw.Adn ?a_due ?l_due ?c_due ?k_due) (Aw.Adn ?a_behind ?l_behind ?c_behind ?k_behind) (Aw.Adn ?a_chase ?l_chase ?c_chase ?k_chase) (Aw.Adn ?a__law_walked ?l__law_walked ?c__law_walked ?k__law_walked) (Aw.Adn ?a__law_ended ?l__law_ended ?c__law_ended ?k__law_ended) (Aw.Adn ?a__law_right ?l__law_right ?c__law_right ?k__law_right) (Aw.Bfd ?a_law ?l_law ?c_law ?k_law) ?q_PARTS ?l_PARTS ?s_PARTS ?v_PARTS ?z_isinstance ?z_int ?z_bool ?z_abs ?z_range ?z_len ?z_str ?z_all ?z_any ?z_list ?z_tuple ?z_dict ?z_set ?z_sorted ?z_sum ?z_min ?z_max ?z_enumerate ?z_zip ?z_reversed ?z_ValueError ?g_MOST_LINES_THERE ?g_MOST_PUTS
  (case a_is_whole=>k_is); (case l_is_whole=>k_is); (case c_is_whole=>k_is); (case k_is_whole=>k_is)
  (case a_put_in=>k_is); (case l_put_in=>k_is); (case c_put_in=>k_is); (case k_put_in=>k_is)
  (case a_once=>k_is); (case l_once=>k_is); (case c_once=>k_is); (case k_once=>k_is)
  (case a_picked=>k_is); (case l_picked=>k_is); (case c_picked=>k_is); (case k_picked=>k_is)
  (case a_unlike=>k_is); (case l_unlike=>k_is); (case c_unlike=>k_is); (case k_unlike=>k_is)
  (case a_word_of=>k_is); (case l_word_of=>k_is); (case c_word_of=>k_is); (case k_word_of=>k_is)
  (case a_new_names=>k_is); (case l_new_names=>k_is); (case c_new_names=>k_is); (case k_new_names=>k_is)
  (case a_is_past=>k_is); (case l_is_past=>k_is); (case c_is_past=>k_is); (case k_is_past=>k_is)
  (case a__law_cell=>k_is); (case l__law_cell=>k_is); (case c__law_cell=>k_is); (case k__law_cell=>k_is)
  (case a__law_names=>k_is); (case l__law_names=>k_is); (case c__law_names=>k_is); (case k__law_names=>k_is)
  (case a__law_line=>k_is); (case l__law_line=>k_is); (case c__law_line=>k_is); (case k__law_line=>k_is)
  (case a__law_places=>k_is); (case l__law_places=>k_is); (case c__law_places=>k_is); (case k__law_places=>k_is)
  (case a__law_ring=>k_is); (case l__law_ring=>k_is); (case c__law_ring=>k_is); (case k__law_ring=>k_is)
  (case a__law_head=>k_is); (case l__law_head=>k_is); (case c__law_head=>k_is); (case k__law_head=>k_is)
  (case a__law_beyond=>k_is); (case l__law_beyond=>k_is); (case c__law_beyond=>k_is); (case k__law_beyond=>k_is)
  (case a_put_in_lines=>k_is); (case l_put_in_lines=>k_is); (case c_put_in_lines=>k_is); (case k_put_in_lines=>k_is)
  (case a_meet=>k_is); (case l_meet=>k_is); (case c_meet=>k_is); (case k_meet=>k_is)
  (case a_step_of=>k_is); (case l_step_of=>k_is); (case c_step_of=>k_is); (case k_step_of=>k_is)
  (case a_points_to_one=>k_is); (case l_points_to_one=>k_is); (case c_points_to_one=>k_is); (case k_points_to_one=>k_is)
  (case a_is_step=>k_is); (case l_is_step=>k_is); (case c_is_step=>k_is); (case k_is_step=>k_is)
  (case a_behind_put=>k_is); (case l_behind_put=>k_is); (case c_behind_put=>k_is); (case k_behind_put=>k_is)
  (case a__law_pool=>k_is); (case l__law_pool=>k_is); (case c__law_pool=>k_is); (case k__law_pool=>k_is)
  (case a__law_rule=>k_is); (case l__law_rule=>k_is); (case c__law_rule=>k_is); (case k__law_rule=>k_is)
  (case a_due_by_key=>k_is); (case l_due_by_key=>k_is); (case c_due_by_key=>k_is); (case k_due_by_key=>k_is)
  (case a_wants_put=>k_is); (case l_wants_put=>k_is); (case c_wants_put=>k_is); (case k_wants_put=>k_is)
  (case a_is_right_key_step=>k_is); (case l_is_right_key_step=>k_is); (case c_is_right_key_step=>k_is); (case k_is_right_key_step=>k_is)
  (case a_behind_same=>k_is); (case l_behind_same=>k_is); (case c_behind_same=>k_is); (case k_behind_same=>k_is)
  (case a__law_set=>k_is); (case l__law_set=>k_is); (case c__law_set=>k_is); (case k__law_set=>k_is)
  (case a_due_put=>k_is); (case l_due_put=>k_is); (case c_due_put=>k_is); (case k_due_put=>k_is)
  (case a_is_right=>k_is); (case l_is_right=>k_is); (case c_is_right=>k_is); (case k_is_right=>k_is)
  (case a_due=>k_is); (case l_due=>k_is); (case c_due=>k_is); (case k_due=>k_is)
  (case a_behind=>k_is); (case l_behind=>k_is); (case c_behind=>k_is); (case k_behind=>k_is)
  (case a_chase=>k_is); (case l_chase=>k_is); (case c_chase=>k_is); (case k_chase=>k_is)
  (case a__law_walked=>k_is); (case l__law_walked=>k_is); (case c__law_walked=>k_is); (case k__law_walked=>k_is)
  (case a__law_ended=>k_is); (case l__law_ended=>k_is); (case c__law_ended=>k_is); (case k__law_ended=>k_is)
  (case a__law_right=>k_is); (case l__law_right=>k_is); (case c__law_right=>k_is); (case k__law_right=>k_is)
  (case a_law=>k_is); (case l_law=>k_is); (case c_law=>k_is); (case k_law=>k_is)
  (case q_PARTS=>k_is); (case l_PARTS=>k_is); (case s_PARTS=>rfl); (case v_PARTS=>exact L2.Bea [("clash",5,_,_),("same",5,_,_),("put",3,_,_)] _ (by decide +kernel))
  (case z_isinstance=>k_is); (case z_int=>k_is); (case z_bool=>k_is); (case z_abs=>k_is); (case z_range=>k_is); (case z_len=>k_is); (case z_str=>k_is); (case z_all=>k_is); (case z_any=>k_is); (case z_list=>k_is); (case z_tuple=>k_is); (case z_dict=>k_is); (case z_set=>k_is); (case z_sorted=>k_is); (case z_sum=>k_is); (case z_min=>k_is); (case z_max=>k_is); (case z_enumerate=>k_is); (case z_zip=>k_is); (case z_reversed=>k_is); (case z_ValueError=>k_is)
  (case g_MOST_LINES_THERE=>k_is); (case g_MOST_PUTS=>k_is)
