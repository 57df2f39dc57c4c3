import PyProof.Rows.All
import Wide.All
import OpenK.AllK
import Wide.FinOn
import Lean
import PyProof.EqAt
import PyProof.EqKinds
import PyProof.TupleCall
import PyProof.TupleOfStr
import PyProof.ListStr
import PyProof.ZipIter
import PyProof.TupleIter
import PyProof.EnumMake
import PyProof.ListRange
import PyProof.AttrMissHeap
import PyProof.DictItemsLoops
import KE.KSortTup
import PyProof.Rows.SortShellK
import PyProof.MeetsSeq2
import PyProof.FactsAll.list_4
import PyProof.AutoSeq1
import PyProof.ConsumeWalk
import PyProof.SetKind
import PyProof.Rows.SetFrom
import PyProof.WalksMore
import PyProof.AutoListH
import PyProof.ListNew
import PyProof.FactsAll.list_2
import PyProof.CollectWalk
import PyProof.IsRules
import PyProof.SeqI3
import PyProof.MeetsDictList
import PySem.Builtin.SmallTypes.W2All
import PyProof.ListMulRoad
import PyProof.Rows.SeqMore
import PyProof.FactsAll.tuple_2
import PyProof.StrOps2
import PySem.Challenge.RW_askwithin_k29_matches_counted
open PySem renaming PyData->aA,Str->aC,Addr->aD,Value->aE,wpAny_bind->aH,Shared->aJ,wpAny->aN,Expr->aS,wpAny_pure->aT,model->aW,Heap->aY,Obj->bG,starEach->bK,eval->bM,World->bN,Pos->bR,Stmt->bZ,Program->cB,Around->cO,mainGlobals->dW,backTo->eW,FuncData->hE,sysModules->iE,Paired->iF,Keyword->iG,wpAny_field->iS,pyNext->iT,assignEach->iU,Scope->iV,boot_len->iW,rawInt->jF,swapsWith->jU,wpAny_holding->kH,wpAny_call_entry->kI,compareOp->kJ,binaryOp->kK,assign->kM,wpAny_newObj_type->lQ,wpAny_mono->lR,attributeBase->lT,Spec->mN,NameKind->mP,wpAny_seqItems->nM,pyIter->nN,bootBuiltins->nO,IsPair->nW,DictEntry->nX,wpAny_setField_rec->oP,merged->oQ,atKey->oR,IsZip->oW,IsPart->oX,wpAny_callSpecial?_slot->pQ,storedH->pR,keywordEach->pS,holding->pT,getItem->pU,codeAny->pW,backToKw->pX,ReadsAll->qA,Reads->qB,wpAny_typeOf->rP,IsItemIter->rX,wpAny_rule->uC,stored->uD,foldedSetIterable->uE,behindInMarks->uF,wpAny_passesOwn->xG,valueAt->xH,sizeLine_eq->xI,relabel->xJ,plainId_quiet->xK,callerA->xM,wpAny_dictEpoch->AQ,wpAny_dictEntries->AR,wpAny_attempt->AS,firstArgMember->AU,codeAny_builtin->AV,bindArgs->AW,PassesOwn->BB,GenState->BN,wpAny_specialOf->FL,wpAny_setField->FM,wpAny_pyIter_list->FN,wpAny_letGo->FO,wpAny_isInstance->FP,call_meets->FQ,mem_of_lookup->FR,wpAny_typeNameOf_keyiter->MS,wpAny_typeNameOf_itemiter->MT,wpAny_typeNameOfWhole_keyiter->MU,wpAny_typeNameOfWhole_itemiter->MV,wpAny_truthy_bool->MW,wpAny_onRaise->MX,wpAny_notOrdered_dict->MY,wpAny_newTuple->MZ,wpAny_newList->NA,wpAny_fieldsOf->NB,wpAny_execs_nil->NC,subscripted->ND,letOwnedTupleGo->NG,concat_meets->NH,wpAny_updateSeq_pair->Ba,wpAny_pyIter_slot->Bb,wpAny_isOneOf_itemiter->Bc,wpAny_Call_method->Bd,wpAny_Call_Name_kw->Be,noFill_tuple_add->Bf
open PySem.W renaming Frag->aK,nsIn->fP,mg_none_of->gY,fnOf->lU,kia_one->mM,keepIn->uI,codeIn->AX,mg_of->Bg,methodObj->Bh,lookIn->Bi,kitx_list->Bj,kitx_dict->Bl,kitOne->Bm,instObj->Bn,OpenLaw->Bo
open Or renaming inl->aP,inr->aQ
open PySem.PyData renaming int->aU,eqv->cJ,str->cM,canLay0->cQ,depthAll->dA,tuple->dZ,bool->lA,depth->mO,list->rR,eqvAll->AZ,canLayAll0->BA,strOk->NL
open Option renaming bind_some->bE,map_eq_some_iff->nP,map_some->oU,isSome_iff_exists->FU,map_eq_none_iff->NM,isSome_map->Bx
open Nat renaming le_refl->bI,le_trans->dS,ne_of_lt->dX,zero_le->fG,lt_of_lt_of_le->jV,lt_irrefl->lB,ne_of_gt->nQ,le_of_lt->qC,le_succ->rS,mul_le_mul->BC,lt_trans->BD,lt_of_le_of_lt->BE,add_assoc->BG,pow_le_pow_right->FV,zero_add->NO,pow_succ->NP,mul_comm->NQ
open List renaming mem_cons_self->bO,mem_cons_of_mem->bT,range->cF,mem_singleton->cG,mem_cons->cY,length_map->cZ,mem_map->dC,getElem?_eq_some_iff->dD,map_cons->dH,size_toArray->eB,getElem?_map->eQ,all_eq_true->fH,mem_of_getElem?->fL,map_map->fM,length_cons->fN,mem_append->fY,find?_cons->fZ,toArray->gS,nodup_cons->jW,getElem?_eq_getElem->jX,map_append->kN,mem_flatten->lC,lookup_cons->lV,getElem?_set_ne->lW,nodup_append->mQ,mem_append_right->mR,append_nil->mS,getElem?_set_self->nR,flatten_cons->nU,filter_eq_self->nV,foldl_cons->oV,mem_range->qE,length_append->qF,getElem_mem->qG,getD_eq_getElem?_getD->qH,map_congr_left->rT,eraseIdx_cons_succ->rV,cons_append->rW,nodup_nil->uL,flatten_append->uM,zipWith->xN,nodup_range->xO,mem_filterMap->xP,length_zip->xQ,getElem_of_mem->xR,any_cons->xS,replicate->BH,mem_filter->BI,mem_append_left->BJ,length_take->BK,cons_lt_cons_iff->BL,take_add_one->FW,not_mem_nil->FX,lookup->FY,length_filterMap_le->FZ,getElem?_range->GA,getElem?_eq_none->GB,findSome?_cons->GC,find?_eq_none->GD,filterMap_cons->GE,any_eq_true->GF,take_length->NT,pairwise_map->NU,mem_of_find?_eq_some->NV,mem_flatMap->NW,length_range->NX,length_filter_le->NY,length_drop->NZ,getElem_zip->OA,getElem_map->OB,foldl_map->OC,ext_getElem?->OD,erase_cons_tail->OE,eq_nil_of_length_eq_zero->OG,zip_cons_cons->By,of_mem_zip->Bz,mem_of_mem_drop->Ca,mem_iff_getElem?->Cc,length_nil->Cd,getElem?_append_left->Ce,forIn_cons->Cf,foldl_append->Cg,flatten_singleton->Ci,flatMap_cons->Cj,find?_some->Ck,ext_getElem->Cn,erase_cons_head->Co,eraseIdx_sublist->Cp,append_assoc->Cq,pairwise_iff_getElem->Yx,length_erase_of_mem->Yy,getElem?_append_right->Yz,exists_of_findSome?_eq_some->Za,eraseIdxIfInBounds_toArray->Zb,drop_eq_getElem_cons->Zc
open PySem.Heap renaming lt_size->cA,get?_push_of_some->cC,get?_push_size->dQ,SameBut->oZ,size_push->xU,get?_update_self->BM,get?_update_other->GG,ExtBut->GH,get?_push_ne->Cr
open PySem.Value renaming none->dY,ref->eX,type->oT,str->uG,int->uH
open Option.some renaming inj->eY,injEq->FT
open PySem.PassesOwn renaming never->fR
open Sum renaming inr->fW,inl->rQ
open PySem.NameKind renaming free->fX
open PyProof.Rows renaming seqObj->gQ,envOfC->pV,AllBare->sA,boot_tuple->uJ,boot_dict->AY,slot_tuple_getitem->NF,slot_tuple_getitem->Bu,callWith_type1->Bv,boot_str->Bw,mulOk_of_bits->Yw
open PySem.Obj renaming mapSeq->gR,data_mapFields->NN
open Ne renaming symm->gZ
open Bool renaming and_eq_true_iff->iH,false_ne_true->jG,eq_iff_iff->pA,false_eq_true->rZ,true_and->xW,and_eq_true->xX,true_or->GL,or_eq_true_iff->Cz,and_self->Da
open PySem.Builtin.Int renaming intBits->mT
open Int renaming ofNat->oY,eq_ofNat_of_zero_le->rY,toNat_natCast->xT
open True renaming intro->pY
open PySem.Str renaming ofString->pZ
open False renaming elim->qI
open PySem.Builtin.SmallTypes renaming nextOf->qJ,ownedTupleIsFree->OM,ownedTupleHandOut->Zi
open PySem.Paired renaming length->uK
open PySem.Heap.SameBut renaming update->xV
open ForInStep renaming yield->BO
open PySem.F renaming slot_dict_itemiterator_next->BP,plainAttrs_list->FS,slot_dict_keyiterator_next->GI,slot_dict_setdefault->NI,plainAttrs_dict->NJ,slot_zip_next->OH,slot_tuple_iterator_next->OI,slot_tuple_hash->OJ,slot_dict_items->OK,type_dict_setdefault->Bp,slot_tuple_add->Bq,slot_dict_get->Br,entry_tuple_add->Bs,args_tuple_add_2->Bt,slot_list_getattribute->Cs,type_list_append->Ys,slot_list_index->Yt,slot_list_append->Yu,args_dict_get_3->Yv,slot_dict_itemiterator_iter->Zd,entry_dict_keyiterator_next->Ze,entry_dict_itemiterator_next->Zf,args_dict_keyiterator_next_1->Zg,args_dict_itemiterator_next_1->Zh
open PySem.Builtin.Tuple renaming tupleHashOf->BQ,tupleExact->OL,tupleItemsOf->Cv
open Array renaming length_toList->BR,toList_inj->Dc,getElem?_toList->Dd
open PySem.Around renaming under_plainId->BS
open PySem.Builtin.Str renaming strSliceIndices->GJ,occurrences->Cw
open PySem.Builtin.Dict_items renaming ownsTuple->GK,pairFromOwner->Zj,ownedTupleIsFree->Zk,ownedTupleFields->Zl
open Array.Perm renaming refl->GM
open PySem.PyData.tuple renaming inj->NK
open PySem.MeetsSeq renaming plain_index_loop->NR,EqGives->NS
open PySem.Builtin.Slice renaming slicePlaces->ON,sliceAdjust->Cy
open PySem.Builtin.List renaming listExtendWith->OO
open PySem.Builtin.Dict renaming updateFrom->OP,showsAll->OQ
open Classical renaming choose_spec->Ct
open PySem.Calls renaming spliced_cons->Cu
theorem XBs {α β:Type}{x:Option α}{f:α->Option β}{b:β}(h:x.bind f=some b) : ∃ a,x=some a/\f a=some b:=Option.bind_eq_some_iff.mp h
set_option Elab.async false
set_option bootstrap.genMatcherCode false
set_option genSizeOfSpec false
set_option linter.all false
set_option maxRecDepth 100000
set_option exponentiation.threshold 2000
noncomputable section
namespace L2
open PySem PySem.Spec PyProof.Rows
variable {h h' base:aY}{ks:List aA}{a b C dx:aD}{xs:List (List aA×aD×aE)}{us:List aE}{x:aC}{u:aE}{o:bG}{t' i k ep:Nat}{ch fp:List aD}{e c tg:aS}{M:Model}{A:cO}{E Q:aE->aJ->Prop}{s' s:aJ}{pos p:bR}{pins:List (aD×bG)}{K:aK}{f:aE->aE->Sem aE}{es:List aS}{body:List bZ}{op:CmpOp}{mg:aC->Option aE}{ps:List aC}{prog:cB}
instance decEqData:DecidableEq aA:=fun a b=>Classical.propDecidable (a=b)
mutual
def bQ:aA->Bool
 | .int _=>true
 | .str x=>cQ (.str x)
 | .tuple ds=>bU ds
 | _=>false
def bU:List aA->Bool
 | []=>true
 | d::r=>bQ d&&bU r
end
mutual
theorem JW : ∀ d:aA,bQ d=true->d.canLay0=true
 | .int _,_=>by simp[cQ]
 | .str x,h=>by simpa [bQ] using h
 | .tuple ds,h=>by
  simp only[cQ]
  exact WB ds (by simpa [bQ] using h)
 | .none,h=>by simp[bQ] at h
 | .bool _,h=>by simp[bQ] at h
 | .list _,h=>by simp[bQ] at h
 | .dict _,h=>by simp[bQ] at h
theorem WB : ∀ ds:List aA,bU ds=true->BA ds=true
 | [],_=>by simp[BA]
 | d::r,h=>by
  have h':bQ d=true/\bU r=true:=by simpa [bU] using h
  simp only[BA,JW d h'.1,WB r h'.2,Da]
end
mutual
theorem JT : ∀ x y:aA,bQ x=true->bQ y=true->cJ x y=decide (x=y)
 | .int i,.int j,_,_=>by
  by_cases e:i=j
  ·subst e; simp[cJ]
  ·have : ¬ aU i = .int j:=fun q=>e (PyData.int.inj q)
   simp[cJ,e]
 | .str i,.str j,_,_=>by
  by_cases e:i=j
  ·subst e; simp[cJ]
  ·simp[cJ,e]
 | .tuple xs,.tuple ys,h1,h2=>by
  have e:=zK xs ys (by simpa [bQ] using h1) (by simpa [bQ] using h2)
  simp only[cJ,e]
  by_cases q:xs=ys
  ·subst q; simp
  ·have : ¬ dZ xs = .tuple ys:=fun z=>q (NK z)
   rw[decide_eq_false q,decide_eq_false this]
 | .int _,.str _,_,_=>by simp[cJ]
 | .int _,.tuple _,_,_=>by simp[cJ]
 | .str _,.int _,_,_=>by simp[cJ]
 | .str _,.tuple _,_,_=>by simp[cJ]
 | .tuple _,.int _,_,_=>by simp[cJ]
 | .tuple _,.str _,_,_=>by simp[cJ]
 | .none,_,h,_=>by simp[bQ] at h
 | .bool _,_,h,_=>by simp[bQ] at h
 | .list _,_,h,_=>by simp[bQ] at h
 | .dict _,_,h,_=>by simp[bQ] at h
 | .int _,.none,_,h=>by simp[bQ] at h
 | .int _,.bool _,_,h=>by simp[bQ] at h
 | .int _,.list _,_,h=>by simp[bQ] at h
 | .int _,.dict _,_,h=>by simp[bQ] at h
 | .str _,.none,_,h=>by simp[bQ] at h
 | .str _,.bool _,_,h=>by simp[bQ] at h
 | .str _,.list _,_,h=>by simp[bQ] at h
 | .str _,.dict _,_,h=>by simp[bQ] at h
 | .tuple _,.none,_,h=>by simp[bQ] at h
 | .tuple _,.bool _,_,h=>by simp[bQ] at h
 | .tuple _,.list _,_,h=>by simp[bQ] at h
 | .tuple _,.dict _,_,h=>by simp[bQ] at h
theorem zK : ∀ xs ys:List aA,bU xs=true->bU ys=true->AZ xs ys=decide (xs=ys)
 | [],[],_,_=>by simp[AZ]
 | [],_::_,_,_=>by simp[AZ]
 | _::_,[],_,_=>by simp[AZ]
 | x::xs,y::ys,h1,h2=>by
  have h1':bQ x=true/\bU xs=true:=by simpa [bU] using h1
  have h2':bQ y=true/\bU ys=true:=by simpa [bU] using h2
  simp only[AZ,JT x y h1'.1 h2'.1,zK xs ys h1'.2 h2'.2]
  by_cases e:x=y
  ·subst e
   by_cases q:xs=ys
   ·subst q; simp
   ·simp[q]
  ·simp[e]
end
mutual
def sV (w:bN):aA->Int
 | .int i=>hashInt i
 | .str x=>hashStr w x
 | .tuple ds=>reduceHash (BQ (lL w ds))
 | _=>0
def lL (w:bN):List aA->List Int
 | []=>[]
 | d::r=>sV w d::lL w r
end
mutual
def sT:aA->Nat
 | .tuple ds=>mZ ds+1
 | _=>1
def mZ:List aA->Nat
 | []=>0
 | d::r=>sT d+mZ r
end
theorem XY (a b:List aA):mZ (a++b)=mZ a+mZ b:=by
 induction a with
 | nil=>simp[mZ]
 | cons x r ih=>simp only[rW,mZ,ih]; omega
theorem YD (w:bN)(a b:List aA):lL w (a++b)=lL w a++lL w b:=by
 induction a with
 | nil=>rfl
 | cons x r ih=>simp only[rW,lL,ih]
section
variable {w:bN}
theorem wM{v:aE}{as:List aD}(r:qB h v (.tuple ks) as) : ∃ a o vs n,v = .ref a/\h.get? a=some o/\o.cls = .type "tuple" /\ o.data = .seq vs n/\qA h vs.toList ks as:=by
 cases r with
 | tuple h1 h2 h3 h4=>exact⟨_,_,_,_,rfl,h1,h2,h3,h4⟩
mutual
theorem XI : ∀ (d:aA) {A:cO} {E:aE->aJ->Prop} {s:aJ} {v:aE} {as:List aD} {Q:Int->aJ->Prop},A.units+d.depth<cLine->bQ d=true->qB s.heap v d as ->
  Q (sV w d) { s with toks:=s.toks+sT d }->aN (aW prog w) A (pyHash v) Q E s
 | .int i,A,E,s,v,as,Q,hu,hk,r,h=>by
  cases r with
  | int _ t=>exact wpAny_pyHash_int (by simpa [sV,sT] using h)
 | .str x,A,E,s,v,as,Q,hu,hk,r,h=>by
  cases r with
  | str _ t=>exact wpAny_pyHash_str (by simpa [sV,sT] using h)
 | .tuple ks,A,E,s,v,as,Q,hu,hk,r,h=>by
  obtain⟨a,o,items,n,rfl,ho,hc,hd,hi⟩:=wM r
  have hT:s.TypeIs (.ref a) "tuple":=⟨o,ho,hc⟩
  have hdep:A.units+(dA ks+1)<cLine:=by simpa [mO] using hu
  unfold pyHash
  first | unfold pyHashByItsType | skip
  first | refine aH (wpAny_cRoomFor_or (.inr (by omega)) ?_) | skip
  refine aH (FL hT OJ.lookup ?_)
  show aN _ _ (if (some (Value.builtin "tuple.__hash__") == some dY)=true then _ else _) Q E s
  rw[if_neg (by rw[beq_builtin_none]; exact jG)]
  refine aH (FL hT OJ.lookup ?_)
  show aN _ _ (callSpecialIfBoundUnlessNone? (.ref a) "__hash__" _ >>= _) Q E s
  refine aH (wpAny_callSpecialIfBoundUnlessNone?_slot hT OJ (kI OJ hT F.entry_tuple_hash ?_ (F.args_tuple_hash_1 _)))
  show aN _ _ (Cv (.ref a) >>= _) _ _ s
  refine aH (wpAny_tupleItemsOf ho hd ?_)
  refine aH ?_
  rw[← Array.forIn_toList]
  refine wpAny_forIn_list _
   (fun rest (b:Array Int) s'=>∃ done left bs,ks=done++left/\qA s.heap rest left bs/\b.toList=lL w done/\s' = { s with toks:=s.toks+mZ done })
   _ ?_ ?_ _ _ ⟨[],ks,as,rfl,hi,rfl,rfl⟩
  ·rintro x rest b s' ⟨done,left,bs,e,hl,hb,rfl⟩
   cases hl with
   | @cons _ _ d ds as1 bs1 h1 hl'=>
    have hm:d∈ks:=by rw[e]; exact mR _ bO
    have hk':bU ks=true:=by simpa [bQ] using hk
    refine aH (XR ks hm (A:=A.in1) (by
     have:A.in1.units=A.units+1:=rfl
     omega) hk' (s:={ s with toks:=s.toks+mZ done }) h1 ?_)
    first
     | exact aT ⟨done++[d],ds,bs1,by simp[e],hl',by simp[hb,YD,lL],by simp[XY,mZ,BG]⟩
     | exact aH (aT (aT ⟨done++[d],ds,bs1,by simp[e],hl',by simp[hb,YD,lL],by simp[XY,mZ,BG]⟩))
  ·rintro b s' ⟨done,left,bs,e,hl,hb,rfl⟩
   cases hl
   rw[mS] at e
   subst e
   show aN _ _ (retInt (BQ b.toList)) _ _ _
   rw[hb]
   refine wpAny_ret_mkInt ?_
   show aN _ _ (if (decide (-(2:Int) ^ 63≤BQ (lL w ks))&&decide (BQ (lL w ks)<2 ^ 63))=true then _ else _) Q E _
   simp only[sV,sT] at h
   unfold reduceHash at h
   by_cases hr:(decide (-(2:Int) ^ 63≤BQ (lL w ks))&&decide (BQ (lL w ks)<2 ^ 63))=true
   ·rw[if_pos hr]
    rw[if_pos hr] at h
    exact aT (by simpa [BG] using h)
   ·rw[if_neg hr]
    rw[if_neg hr] at h
    exact aH (uC (aT (by simpa [BG] using h)))
 | .none,A,E,s,v,as,Q,hu,hk,r,h=>by simp[bQ] at hk
 | .bool _,A,E,s,v,as,Q,hu,hk,r,h=>by simp[bQ] at hk
 | .list _,A,E,s,v,as,Q,hu,hk,r,h=>by simp[bQ] at hk
 | .dict _,A,E,s,v,as,Q,hu,hk,r,h=>by simp[bQ] at hk
theorem XR : ∀ (ks:List aA) {d:aA},d∈ks -> ∀ {A:cO} {E:aE->aJ->Prop} {s:aJ} {v:aE} {as:List aD} {Q:Int->aJ->Prop},A.units+dA ks<cLine->bU ks=true->qB s.heap v d as ->
  Q (sV w d) { s with toks:=s.toks+sT d }->aN (aW prog w) A (pyHash v) Q E s
 | [],_,hm,_,_,_,_,_,_,_,_,_,_=>by simp at hm
 | k::ks,d,hm,A,E,s,v,as,Q,hu,hk,r,h=>by
  have hk':bQ k=true/\bU ks=true:=by simpa [bU] using hk
  have hdep:A.units+max k.depth (dA ks)<cLine:=by simpa [dA] using hu
  by_cases e:d=k
  ·exact XI k (by omega) hk'.1 (e ▸ r) (by rw[← e]; exact h)
  ·have hm':d∈ks:=by
    rcases cY.mp hm with q | q
    ·exact absurd q e
    ·exact q
   exact XR ks hm' (by omega) hk'.2 r h
end
end
section
variable {w:bN}
mutual
theorem VL : ∀ (d:aA) (n:Nat) {A:cO} {E:aE->aJ->Prop} {s:aJ} {v:aE} {as:List aD} {Q:Bool->aJ->Prop},d.depth≤n->bQ d=true->qB s.heap v d as ->
  Q true s->aN (aW prog w) A (eqIsQuiet n v) Q E s
 | .int i,n,A,E,s,v,as,Q,hu,hk,r,h=>by
  cases r with
  | int _ t=>
   rw[eqIsQuiet_byValue n (by rfl)]
   exact aT h
 | .str x,n,A,E,s,v,as,Q,hu,hk,r,h=>by
  cases r with
  | str _ t=>
   rw[eqIsQuiet_byValue n (by rfl)]
   exact aT h
 | .tuple ks,n,A,E,s,v,as,Q,hu,hk,r,h=>by
  obtain⟨a,o,items,m,rfl,ho,hc,hd,hi⟩:=wM r
  have hT:s.TypeIs (.ref a) "tuple":=⟨o,ho,hc⟩
  have hdep:dA ks+1≤n:=by simpa [mO] using hu
  obtain⟨n,rfl⟩ : ∃ m,n=m+1:=⟨n - 1,by omega⟩
  have hk':bU ks=true:=by simpa [bQ] using hk
  unfold eqIsQuiet
  refine aH (FL hT F.slot_tuple_eq.lookup ?_)
  show aN _ _ (isInstance (.ref a) (.type "tuple") >>= _) _ _ s
  refine aH (FP hT isSubtype_tuple_tuple ?_)
  simp only[Bool.not_true,rZ,if_false]
  refine aH (nM ho hd ?_)
  refine aH ?_
  show aN _ _ (forIn items _ _) _ _ s
  rw[← Array.forIn_toList]
  refine wpAny_forIn_list _ (fun rest r s'=>r.1=none/\s'=s /\ ∃ ds bs,qA s.heap rest ds bs /\ ∀ d∈ds,d∈ks) _ ?_ ?_ _ _ ⟨rfl,rfl,ks,as,hi,fun _ h=>h⟩
  ·rintro v rest r s' ⟨hr,rfl,ds,bs,hl,hall⟩
   cases hl with
   | @cons _ _ d ds as1 bs1 h1 hl'=>
    refine aH (XC ks (hall d bO) n (by omega) hk' h1 ?_)
    simp only[Bool.not_true,rZ,if_false]
    exact aT ⟨rfl,rfl,ds,bs1,hl',fun u hu'=>hall u (bT _ hu')⟩
  ·rintro⟨r1,r2⟩ s' ⟨hr,rfl,_⟩
   simp only at hr
   subst hr
   exact aT h
 | .none,n,A,E,s,v,as,Q,hu,hk,r,h=>by simp[bQ] at hk
 | .bool _,n,A,E,s,v,as,Q,hu,hk,r,h=>by simp[bQ] at hk
 | .list _,n,A,E,s,v,as,Q,hu,hk,r,h=>by simp[bQ] at hk
 | .dict _,n,A,E,s,v,as,Q,hu,hk,r,h=>by simp[bQ] at hk
theorem XC : ∀ (ks:List aA) {d:aA},d∈ks -> ∀ (n:Nat) {A:cO} {E:aE->aJ->Prop} {s:aJ} {v:aE} {as:List aD} {Q:Bool->aJ->Prop},dA ks≤n->bU ks=true->qB s.heap v d as ->
  Q true s->aN (aW prog w) A (eqIsQuiet n v) Q E s
 | [],_,hm,_,_,_,_,_,_,_,_,_,_,_=>by simp at hm
 | k::ks,d,hm,n,A,E,s,v,as,Q,hu,hk,r,h=>by
  have hk':bQ k=true/\bU ks=true:=by simpa [bU] using hk
  have hdep:max k.depth (dA ks)≤n:=by simpa [dA] using hu
  by_cases e:d=k
  ·exact VL k n (by omega) hk'.1 (e ▸ r) h
  ·have hm':d∈ks:=by
    rcases cY.mp hm with q | q
    ·exact absurd q e
    ·exact q
   exact XC ks hm' n (by omega) hk'.2 r h
end
mutual
theorem XB(kp : ∀ b o vs n,h.get? b=some o->o.cls = .type "tuple" -> o.data = .seq vs n->h'.get? b=some o) : ∀ (d:aA) {v:aE} {as:List aD},bQ d=true->qB h v d as->qB h' v d as
 | .int i,v,as,hk,r=>by
  cases r with
  | int _ t=>exact .int i t
 | .str x,v,as,hk,r=>by
  cases r with
  | str _ t=>exact .str x t
 | .tuple ks,v,as,hk,r=>by
  obtain⟨a,o,items,m,rfl,ho,hc,hd,hi⟩:=wM r
  exact .tuple (kp _ _ _ _ ho hc hd) hc hd (YA kp ks (by simpa [bQ] using hk) hi)
 | .none,v,as,hk,r=>by simp[bQ] at hk
 | .bool _,v,as,hk,r=>by simp[bQ] at hk
 | .list _,v,as,hk,r=>by simp[bQ] at hk
 | .dict _,v,as,hk,r=>by simp[bQ] at hk
theorem YA(kp : ∀ b o vs n,h.get? b=some o->o.cls = .type "tuple" -> o.data = .seq vs n->h'.get? b=some o) : ∀ (ds:List aA) {vs:List aE} {as:List aD},bU ds=true->qA h vs ds as->qA h' vs ds as
 | [],vs,as,hk,r=>by
  cases r with
  | nil=>exact .nil
 | d::ds,vs,as,hk,r=>by
  have hk':bQ d=true/\bU ds=true:=by simpa [bU] using hk
  cases r with
  | cons r1 r2=>exact .cons (XB kp d hk'.1 r1) (YA kp ds hk'.2 r2)
end
def Ag1 (h:aY)(ks:List aA)(a:aD):Prop:=bU ks=true/\dA ks≤6 /\ ∃ as,qB h (.ref a) (.tuple ks) as
theorem Ag1.keep(kp : ∀ b o vs n,h.get? b=some o->o.cls = .type "tuple" -> o.data = .seq vs n->h'.get? b=some o)(k:Ag1 h ks a):Ag1 h' ks a:=
 ⟨k.1,k.2.1,k.2.2.choose,XB kp (.tuple ks) (by simpa [bQ] using k.1) k.2.2.choose_spec⟩
def iA (prog:cB)(w:bN):HeapKind prog w (List aA) where
 is:=Ag1
 hash:=fun ks=>sV w (.tuple ks)
 draws:=fun ks=>sT (.tuple ks)
 room:=fun A=>A.units+20<cLine
 inj:=fun {h a x y} hx hy=>by
  obtain⟨k1,_,as,r1⟩:=hx
  obtain⟨k2,_,bs,r2⟩:=hy
  exact NK (reads_det (fun _ _ e _=>e) r2 r1).1
 keeps:=fun {h h' k a d o es ep} x ho hd hs=>x.keep fun b ob vs n hb _ hd'=>by
  have hne:b≠d:=by
   rintro rfl
   rw[ho] at hb
   cases hb
   rw[hd] at hd'
   cases hd'
  exact(hs.2 b hne).trans hb
 pyHash:=fun {A E s k a Q} hu hk h=>by
  obtain⟨k1,k2,as,r⟩:=hk
  exact XI (.tuple k) (by simp only[mO]; omega) (by simpa [bQ] using k1) r h
 eqBool:=fun {A E s x y a b Q} hu hx hy h=>by
  obtain⟨k1,d1,as,r1⟩:=hx
  obtain⟨k2,d2,bs,r2⟩:=hy
  have e:=JT (.tuple x) (.tuple y) (by simpa [bQ] using k1) (by simpa [bQ] using k2)
  have e2:decide ((dZ x) = .tuple y)=decide (x=y):=by
   by_cases q:x=y
   ·subst q; simp
   ·rw[decide_eq_false q,decide_eq_false (fun z=>q (NK z))]
  have:=SeqAt.eqAt_reads (.tuple x) (.tuple y) A s (.ref a) (.ref b) as bs r1 r2 (JW _ (by simpa [bQ] using k1)) (JW _ (by simpa [bQ] using k2)) (by simp only[mO]; omega)
  rw[e,e2] at this
  exact this prog w E Q h
 quiet:=fun {A E s k a Q} hk h=>by
  obtain⟨k1,k2,as,r⟩:=hk
  exact VL (.tuple k) 8 (by simp only[mO]; omega) (by simpa [bQ] using k1) r h
end
abbrev aI:=Sum Int aC
def vB:aI->aE->Bool
 | .inl k,v=>Value.isInt k v
 | .inr x,v=>Value.isStrOf x v
def Dy (w:bN):aI->Int
 | .inl k=>hashInt k
 | .inr x=>hashStr w x
theorem nG : ∀ {k:aI} {v:aE},vB k v=true->(∃ i t,k=rQ i/\v=uH i t) \/ (∃ x t,k=fW x/\v=uG x t)
 | .inl i,v,h=>by
  obtain⟨t,e⟩:=Value.isInt_shape (k:=i) (v:=v) h
  exact .inl ⟨i,t,rfl,e⟩
 | .inr x,v,h=>by
  obtain⟨t,e⟩:=Value.isStrOf_shape (x:=x) (v:=v) h
  exact .inr ⟨x,t,rfl,e⟩
theorem Wn (i:Int)(t:Tok):vB (.inl i) (.int i t)=true:=by simp[vB,Value.isInt]
theorem Wr (x:aC)(t:Tok):vB (.inr x) (.str x t)=true:=by simp[vB,Value.isStrOf]
theorem Gp (a b:Int):decide ((rQ a:aI)=rQ b)=(a == b):=by
 by_cases e:a=b
 ·subst e; simp
 ·have h : ¬ (rQ a:aI)=rQ b:=fun q=>e (Sum.inl.inj q)
  rw[decide_eq_false h]
  exact(beq_eq_false_iff_ne.mpr e).symm
theorem Ge (a b:aC):decide ((fW a:aI)=fW b)=decide (a=b):=by
 by_cases e:a=b
 ·subst e; simp
 ·have h : ¬ (fW a:aI)=fW b:=fun q=>e (Sum.inr.inj q)
  rw[decide_eq_false h,decide_eq_false e]
theorem Ik (a:Int)(b:aC):decide ((rQ a:aI)=fW b)=false:=decide_eq_false (fun q=>nomatch q)
theorem Gh (a:aC)(b:Int):decide ((fW a:aI)=rQ b)=false:=decide_eq_false (fun q=>nomatch q)
def fJ (prog:cB)(w:bN):PySem.KeyKind prog w aI where
 is:=vB
 hash:=Dy w
 inj:=fun v a b ha hb=>by
  rcases nG ha with⟨i,t,rfl,rfl⟩ | ⟨x,t,rfl,rfl⟩
  ·rcases nG hb with⟨j,u,rfl,e⟩ | ⟨y,u,rfl,e⟩
   ·injection e with e1 _; rw[e1]
   ·exact nomatch e
  ·rcases nG hb with⟨j,u,rfl,e⟩ | ⟨y,u,rfl,e⟩
   ·exact nomatch e
   ·injection e with e1 _; rw[e1]
 byValue:=fun k v h=>by
  rcases nG h with⟨i,t,rfl,rfl⟩ | ⟨x,t,rfl,rfl⟩ <;> rfl
 pyHash:=fun hv h=>by
  rcases nG hv with⟨i,t,rfl,rfl⟩ | ⟨x,t,rfl,rfl⟩
  ·exact wpAny_pyHash_int h
  ·exact wpAny_pyHash_str h
 eqBool:=fun hu hv h=>by
  rcases nG hu with⟨i,t,rfl,rfl⟩ | ⟨x,t,rfl,rfl⟩
  ·rcases nG hv with⟨j,u,rfl,rfl⟩ | ⟨y,u,rfl,rfl⟩
   ·rw[Gp] at h; exact wpAny_eqBool_int h
   ·rw[Ik] at h; exact SeqAt.EqAt.int_str i t y u _ _ _ _ h
  ·rcases nG hv with⟨j,u,rfl,rfl⟩ | ⟨y,u,rfl,rfl⟩
   ·rw[Gh] at h; exact SeqAt.EqAt.str_int x t j u _ _ _ _ h
   ·rw[Ge] at h; exact wpAny_eqBool_str h
 «strs»:=fun k x t v h=>by
  rcases nG h with⟨i,u,rfl,e⟩ | ⟨y,u,rfl,e⟩
  ·exact nomatch e
  ·injection e with e1 _
   subst e1
   cases v <;> rfl
theorem LM (prog:cB)(w:bN)(i:Int)(t:Tok):(fJ prog w).is (.inl i) (.int i t)=true:=Wn i t
theorem LS (prog:cB)(w:bN)(x:aC)(t:Tok):(fJ prog w).is (.inr x) (.str x t)=true:=Wr x t
inductive V where
 | non | bl (b:Bool) | int (i:Int) | str (x:aC) | byt (b:Array UInt8) | flt (b:UInt64) | ref (a:aD) | ty (n:String)
 deriving DecidableEq
def RelV:V->aE->Prop
 | .non,u=>u=dY
 | .bl b,u=>u=Value.bool b
 | .int i,u=>∃ t,u=uH i t
 | .str x,u=>∃ t,u=uG x t
 | .byt b,u=>∃ t,u=Value.bytes b t
 | .flt b,u=>∃ t,u=Value.float b t
 | .ref a,u=>u=eX a
 | .ty n,u=>u=oT n
abbrev Vals:List V->List aE->Prop:=iF RelV
theorem Vals.length {xs:List V}(r:Vals xs us):xs.length=us.length:=uK r
theorem Vals.get : ∀ {xs:List V} {us:List aE} {i:Nat} {x:V},Vals xs us->xs[i]?=some x -> ∃ u,us[i]?=some u/\RelV x u
 | _,_,_,_,.nil,e=>by simp at e
 | _,_,0,_,.cons r _,e=>by simp at e; subst e; exact⟨_,rfl,r⟩
 | _,_,i+1,x,.cons _ t,e=>by
  obtain⟨u,h1,h2⟩:=Vals.get (i:=i) (x:=x) t (by simpa using e)
  exact⟨u,by simpa using h1,h2⟩
theorem Vals.set {x:V}(r:RelV x u) : ∀ {xs:List V} {us:List aE} (i:Nat),Vals xs us->Vals (xs.set i x) (us.set i u)
 | _,_,_,.nil=>.nil
 | _,_,0,.cons _ t=>.cons r t
 | _,_,i+1,.cons q t=>.cons q (Vals.set r i t)
theorem Vals.append : ∀ {xs ys:List V} {us ws:List aE},Vals xs us->Vals ys ws->Vals (xs++ys) (us++ws)
 | _,_,_,_,.nil,s=>s
 | _,_,_,_,.cons r t,s=>.cons r (Vals.append t s)
theorem Vals.take : ∀ {xs:List V} {us:List aE} (n:Nat),Vals xs us->Vals (xs.take n) (us.take n)
 | _,_,0,_=>.nil
 | _,_,_+1,.nil=>.nil
 | _,_,n+1,.cons r t=>.cons r (Vals.take n t)
theorem Vals.drop : ∀ {xs:List V} {us:List aE} (n:Nat),Vals xs us->Vals (xs.drop n) (us.drop n)
 | _,_,0,r=>r
 | _,_,_+1,.nil=>.nil
 | _,_,n+1,.cons _ t=>Vals.drop n t
def Atp:Option V->Option aE->Prop
 | some v,some u=>RelV v u
 | none,none=>True
 | _,_=>False
def KV {κ:Type}:List (κ×V)->List (κ×aE)->Prop:=iF fun(p:κ×V) (q:κ×aE)=>p.1=q.1/\RelV p.2 q.2
def kV:aI->V
 | .inl i=>.int i
 | .inr x=>.str x
inductive HO where
 | lst (xs:List V)
 | tup (xs:List V)
 | dK (ep:Nat) (kvs:List (aI×V)) | dT (ep:Nat) (kvs:List (List aA×V))
 | set (S:Int->Bool) (n:Nat)
 | ins (C dx:aD) (fs:List (aC×V))
 | own (x:aD)
 | xd (fs:List (aC×V))
 | met (f x:aD)
 | rng (lo hi:Int)
 | frz (o:bG) (u:HO)
 | tbl (ps:Array aE)
 | ext (φ:aY->Prop)
abbrev Hp:=aD->Option HO
def upd (H:Hp)(a:aD)(o:HO):Hp:=fun b=>if b=a then some o else H b
theorem eO {H:Hp}{o:HO}:upd H a o a=some o:=by unfold upd; rw[if_pos rfl]
theorem cP {H:Hp}{o:HO}(h:b≠a):upd H a o b=H b:=by unfold upd; rw[if_neg h]
theorem Fh {H:Hp}{o u:HO}(h:H a=some o)(h':H b=some u)(d:o≠u):a≠b:=by
 intro e; subst e; rw[h] at h'; exact d (eY h')
theorem jT {H:Hp}{o:HO}(h:H a=some o)(h':H b=none):a≠b:=by
 intro e; subst e; rw[h] at h'; cases h'
mutual
def Akm (H:Hp):aA->V->Prop
 | .int i,v=>v = .int i
 | .str x,v=>v = .str x
 | .tuple ds,v=>∃ a xs,v = .ref a/\H a=some (.tup xs)/\Ags H ds xs
 | _,_=>False
def Ags (H:Hp):List aA->List V->Prop
 | [],vs=>vs=[]
 | d::r,vs=>∃ x rr,vs=x::rr/\Akm H d x/\Ags H r rr
end
mutual
theorem Akm.keep {H H':Hp}(ht : ∀ b xs,H b=some (.tup xs)->H' b=some (.tup xs)) : ∀ {d:aA} {v:V},Akm H d v->Akm H' d v
 | .int _,_,k=>by simpa [Akm] using k
 | .str _,_,k=>by simpa [Akm] using k
 | .tuple ds,_,k=>by
  simp only[Akm] at k ⊢
  obtain⟨a,xs,e,h,ks⟩:=k
  exact⟨a,xs,e,ht _ _ h,Ags.keep ht ks⟩
 | .none,_,k=>by simp[Akm] at k
 | .bool _,_,k=>by simp[Akm] at k
 | .list _,_,k=>by simp[Akm] at k
 | .dict _,_,k=>by simp[Akm] at k
theorem Ags.keep {H H':Hp}(ht : ∀ b xs,H b=some (.tup xs)->H' b=some (.tup xs)) : ∀ {ds:List aA} {vs:List V},Ags H ds vs->Ags H' ds vs
 | [],_,k=>by simpa [Ags] using k
 | d::ds,_,k=>by
  simp only[Ags] at k ⊢
  obtain⟨x,r,e,k1,k2⟩:=k
  exact⟨x,r,e,Akm.keep ht k1,Ags.keep ht k2⟩
end
def Alm (H:Hp)(ks:List aA)(a:aD):Prop:=bU ks=true/\dA ks≤6 /\ ∃ xs,H a=some (.tup xs)/\Ags H ks xs
theorem Alm.keep {H H':Hp}(k:Alm H ks a)(ht : ∀ b xs,H b=some (.tup xs)->H' b=some (.tup xs)):Alm H' ks a:=
 ⟨k.1,k.2.1,k.2.2.choose,ht _ _ k.2.2.choose_spec.1,k.2.2.choose_spec.2.keep ht⟩
def A7s (h:aY)(a:aD)(its:Array aE):Prop:=IsTup h a its /\ ∃ o,h.get? a=some o/\o.dict=none
theorem A7s.new (h:aY)(its:Array aE):A7s (h.push { cls:=.type "tuple",data:=.seq its }) h.objs.size its:=⟨IsTup.new _ _,_,dQ _ rfl,rfl⟩
section
variable (P:cB)(w:bN)
def Adc (H:Hp)(h:aY)(a:aD):HO->Prop
 | .lst xs=>xs.length≤sizeLine /\ ∃ (its:List aE) (n:Nat),Vals xs its/\h.get? a=some { cls:=.type "list",data:=.seq its.toArray n }
 | .tup xs=>xs.length≤sizeLine /\ ∃ its:List aE,Vals xs its/\A7s h a its.toArray
 | .dK ep kvs=>kvs.length≤sizeLine/\(a == iE)=false /\ ∃ vs,KV kvs vs/\h.DictAt (fJ P w) a vs ep
 | .dT ep kvs=>kvs.length≤sizeLine/\(a == iE)=false /\ ∃ xs:List (List aA×aD×aE),
   iF (fun(p:List aA×V) (q:List aA×aD×aE)=>p.1=q.1/\Alm H p.1 q.2.1/\RelV p.2 q.2.2) kvs xs /\
   ∃ o es,h.get? a=some o/\o.ExactDict/\o.data = .dict es ep/\es.toList=xs.map (entryOfKey (iA P w))/\(xs.map (·.1)).Nodup
 | .set S n=>h.SetOf (intKind P w) a S n
 | .ins C dx fs=>H dx=some (.own a)/\fs.length≤1000/\dx≠a/\h.get? a=some (Bn C dx) /\
   ∃ mA,h.Ns1 dx mA/\(∀ f,Atp (fs.lookup f) (mA f))/\PySem.Within mA (fs.map (·.1))
 | .own _=>∃ o,h.get? a=some o
 | .xd fs=>∃ mA,h.Ns1 a mA /\ ∀ f,Atp (fs.lookup f) (mA f)
 | .rng lo hi=>∃ t u v,h.get? a=some { cls:=.type "range",data:=.fields #[.int lo t,.int hi u,.int 1 v] }
 | .frz o u=>h.get? a=some o/\Adc H h a u
 | .tbl ps=>h.get? a=some { cls:=.none,data:=.fields ps }
 | .met f x=>h.get? a=some (Bh (.ref f) (.ref x))
 | .ext φ=>φ h/\(∃ o,h.get? a=some o) /\ ∀ h1 h2:aY,φ h1->(∀ o,h1.get? a=some o->h2.get? a=some o)->φ h2
def HOk (H:Hp)(h:aY):Prop:=∀ a o,H a=some o->Adc P w H h a o
end
section
variable {P:cB}{w:bN}{H H':Hp}{o:HO}
theorem Adc.lt (x:Adc P w H h a o):a<h.objs.size:=by
 cases o with
 | lst xs=>obtain⟨_,_,_,_,e⟩:=x; exact cA e
 | tup xs=>obtain⟨_,_,_,p⟩:=x; exact p.1.lt
 | dK ep kvs=>obtain⟨_,_,_,_,o,_,e,_⟩:=x; exact cA e
 | dT ep kvs=>obtain⟨_,_,_,_,o,_,e,_⟩:=x; exact cA e
 | set S n=>obtain⟨o,_,_,_,e,_⟩:=x; exact cA e
 | ins C dx fs=>obtain⟨_,_,_,e,_⟩:=x; exact cA e
 | own y=>obtain⟨_,e⟩:=x; exact cA e
 | xd fs=>obtain⟨_,⟨_,_,_,e,_⟩,_⟩:=x; exact cA e
 | rng lo hi=>obtain⟨_,_,_,e⟩:=x; exact cA e
 | frz ob u=>obtain⟨e,_⟩:=x; exact cA e
 | tbl ps=>exact cA (show h.get? a=some _ from x)
 | met f y=>exact cA (show h.get? a=some _ from x)
 | ext φ=>obtain⟨_,⟨_,e⟩,_⟩:=x; exact cA e
theorem Paired.mapP {α β:Type}{F G:α->β->Prop} : ∀ {l₁:List α} {l₂:List β},iF F l₁ l₂->(∀ a b,F a b->G a b)->iF G l₁ l₂:=by
 intro l₁ l₂ h
 induction h with
 | nil=>exact fun _=>.nil
 | cons r _ ih=>exact fun f=>.cons (f _ _ r) (ih f)
theorem Adc.stay (x:Adc P w H h a o)(k : ∀ b u,(b=a \/ H b=some (.own a))->h.get? b=some u->h'.get? b=some u)
  (ho : ∀ b,H b=some (.own a)->H' b=some (.own a)) (ht : ∀ b xs,H b=some (.tup xs)->H' b=some (.tup xs)):Adc P w H' h' a o:=by
 induction o with
 | lst xs=>obtain⟨z,its,n,r,e⟩:=x; exact⟨z,its,n,r,k _ _ (.inl rfl) e⟩
 | tup xs=>obtain⟨z,its,r,⟨ob,e,c⟩,ob2,e2,c2⟩:=x; exact⟨z,its,r,⟨ob,k _ _ (.inl rfl) e,c⟩,ob2,k _ _ (.inl rfl) e2,c2⟩
 | dK ep kvs=>obtain⟨z,y,vs,r,ob,es,e,c⟩:=x; exact⟨z,y,vs,r,ob,es,k _ _ (.inl rfl) e,c⟩
 | dT ep kvs=>
  obtain⟨z,y,xs,r,ob,es,e,c⟩:=x
  exact⟨z,y,xs,Paired.mapP r fun p q z=>⟨z.1,z.2.1.keep ht,z.2.2⟩,ob,es,k _ _ (.inl rfl) e,c⟩
 | set S n=>obtain⟨ob,es,ep,t,e,c⟩:=x; exact⟨ob,es,ep,t,k _ _ (.inl rfl) e,c⟩
 | ins C dx fs=>
  obtain⟨d,z,ne,e,mA,⟨od,es,ep,e2,c⟩,r⟩:=x
  exact⟨ho _ d,z,ne,k _ _ (.inl rfl) e,mA,⟨od,es,ep,k _ _ (.inr d) e2,c⟩,r⟩
 | own y=>obtain⟨ob,e⟩:=x; exact⟨ob,k _ _ (.inl rfl) e⟩
 | xd fs=>obtain⟨mA,⟨od,es,ep,e,c⟩,r⟩:=x; exact⟨mA,⟨od,es,ep,k _ _ (.inl rfl) e,c⟩,r⟩
 | rng lo hi=>obtain⟨t,u,v,e⟩:=x; exact⟨t,u,v,k _ _ (.inl rfl) e⟩
 | frz ob u ih=>obtain⟨e,q⟩:=x; exact⟨k _ _ (.inl rfl) e,ih q⟩
 | tbl ps=>
  have e:h.get? a=some { cls:=.none,data:=.fields ps }:=x
  show h'.get? a=some { cls:=.none,data:=.fields ps }
  exact k a _ (.inl rfl) e
 | met f y=>
  have e:h.get? a=some (Bh (.ref f) (.ref y)):=x
  show h'.get? a=some (Bh (.ref f) (.ref y))
  exact k a _ (.inl rfl) e
 | ext φ=>obtain⟨p,⟨o,e⟩,st⟩:=x; exact⟨st _ _ p fun o q=>k _ _ (.inl rfl) q,⟨o,k _ _ (.inl rfl) e⟩,st⟩
theorem HOk.lt (x:HOk P w H h)(e:H a=some o):a<h.objs.size:=(x a o e).lt
theorem HOk.fresh (x:HOk P w H h)(e:h.objs.size≤a):H a=none:=by
 cases q:H a with
 | none=>rfl
 | some u=>exact absurd (jV (x.lt q) e) (lB _)
theorem HOk.kept (x:HOk P w H h)(k : ∀ b u,h.get? b=some u->h'.get? b=some u):HOk P w H h':=fun a o e=>
 (x a o e).stay (fun b u _ q=>k b u q) (fun _ q=>q) fun _ _ q=>q
theorem HOk.laid (x:HOk P w H h)(k : ∀ b u,h.get? b=some u->h'.get? b=some u)(hp:h.objs.size≤a)(new:Adc P w (upd H a o) h' a o):HOk P w (upd H a o) h':=fun b u e=>by
 have hn:=x.fresh hp
 by_cases hb:b=a
 ·subst hb; rw[eO] at e; cases e; exact new
 ·rw[cP hb] at e
  exact(x b u e).stay (fun c v _ q=>k c v q) (fun c q=>by rw[cP (jT q hn)]; exact q) fun c xs q=>by rw[cP (jT q hn)]; exact q
end
def Rd (H:Hp)(a:aD)(u:HO):Prop:=H a=some u \/ ∃ o,H a=some (.frz o u)
theorem Rd.ok {P:cB}{w:bN}{H:Hp}{u:HO}(r:Rd H a u)(x:HOk P w H h):Adc P w H h a u:=by
 rcases r with r | ⟨o,r⟩
 ·exact x a u r
 ·obtain⟨_,q⟩:=x a _ r
  exact q
def xY:Option HO->Prop
 | some (.lst _)=>True
 | some (.dK _ _)=>True
 | some (.dT _ _)=>True
 | some (.set _ _)=>True
 | some (.ins _ _ _)=>True
 | some (.ext _)=>True
 | _=>False
section
variable {P:cB}{w:bN}{H:Hp}{x e:aD}{o':HO}
theorem HOk.write (ok:HOk P w H h)(mu:xY (H x))(he:e=x \/ H e=some (.own x))(k : ∀ b u,b≠e->h.get? b=some u->h'.get? b=some u)(heo : ∃ u,h'.get? e=some u)
  (new:Adc P w (upd H x o') h' x o'):HOk P w (upd H x o') h':=fun b u q=>by
 have nown : ∀ c y,H c=some (.own y)->c≠x:=fun c y r z=>by subst z; rw[r] at mu; exact mu
 have ntup : ∀ c xs,H c=some (.tup xs)->c≠x:=fun c xs r z=>by subst z; rw[r] at mu; exact mu
 by_cases hb:b=x
 ·subst hb; rw[eO] at q; cases q; exact new
 ·rw[cP hb] at q
  by_cases hbe:b=e
  ·have q':H b=some (.own x):=by
    rcases he with z | z
    ·exact absurd (hbe.trans z) hb
    ·rw[hbe]; exact z
   rw[q] at q'; cases q'
   obtain⟨v,hv⟩:=heo
   exact⟨v,by rw[hbe]; exact hv⟩
  ·refine(ok b u q).stay (fun c v hc r=>k c v ?_ r) (fun c r=>by rw[cP (nown c b r)]; exact r) fun c xs r=>by rw[cP (ntup c xs r)]; exact r
   rcases hc with rfl | hc
   ·exact hbe
   ·rintro rfl
    rcases he with z | z
    ·exact nown c b hc z
    ·rw[hc] at z; cases z; exact hb rfl
end
structure Un (fs ex:List aD)(H H':Hp)(h h':aY):Prop where
 keep : ∀ b o,h.get? b=some o->H b=none->b∉fs->b∉ex->h'.get? b=some o
 slot : ∀ b o,h.get? b=some o->H b=none->b∈fs->b∉ex -> ∃ sl,h'.get? b=some { o with slots:=sl }
 free : ∀ b o,h.get? b=some o->H b=none->b∉ex->H' b=none
 there : ∀ b o,h.get? b=some o->b∉ex -> ∃ o',h'.get? b=some o'
 tups : ∀ b xs,H b=some (.tup xs)->H' b=some (.tup xs)
 frzs : ∀ b o u,H b=some (.frz o u)->H' b=some (.frz o u)
 tbls : ∀ b ps,H b=some (.tbl ps) -> ∃ more,H' b=some (.tbl (ps++more))
section
variable {fs fs' ex ex':List aD}{H H1 H2:Hp}{h1 h2:aY}{x e:aD}{o:HO}
theorem Un.any (u:Un fs ex H H1 h h1){ob:bG}(q:h.get? b=some ob)(n:H b=none)(hx:b∉ex) : ∃ sl,h1.get? b=some { ob with slots:=sl }:=by
 by_cases hb:b∈fs
 ·exact u.slot b ob q n hb hx
 ·exact⟨ob.slots,u.keep b ob q n hb hx⟩
theorem Un.kept (k : ∀ b u,h.get? b=some u->h'.get? b=some u):Un fs ex H H h h':=
 ⟨fun b ob q _ _ _=>k b ob q,fun b ob q _ _ _=>⟨ob.slots,k b ob q⟩,fun _ _ _ n _=>n,fun b ob q _=>⟨ob,k b ob q⟩,fun _ _ q=>q,fun _ _ _ q=>q,fun _ ps q=>⟨#[],by rw[q]; simp⟩⟩
theorem Un.refl:Un fs ex H H h h:=Un.kept fun _ _ q=>q
theorem Un.laid (k : ∀ b u,h.get? b=some u->h'.get? b=some u)(hp:h.objs.size≤a)(hn:H a=none):Un fs ex H (upd H a o) h h' where
 keep:=fun b u q _ _ _=>k b u q
 slot:=fun b u q _ _ _=>⟨u.slots,k b u q⟩
 free:=fun b u q n _=>by rw[cP (dX (jV (cA q) hp))]; exact n
 there:=fun b u q _=>⟨u,k b u q⟩
 tups:=fun b xs q=>by rw[cP (jT q hn)]; exact q
 frzs:=fun b u xs q=>by rw[cP (jT q hn)]; exact q
 tbls:=fun b ps q=>⟨#[],by rw[cP (jT q hn),q]; simp⟩
theorem Un.write (mu:xY (H x))(he:e=x \/ H e=some (.own x))(k : ∀ b u,b≠e->h.get? b=some u->h'.get? b=some u)(heo : ∃ u,h'.get? e=some u):Un fs ex H (upd H x o) h h':=by
 have hx : ∀ b,H b=none->b≠x:=fun b n z=>by subst z; rw[n] at mu; exact mu
 have hb : ∀ b,H b=none->b≠e:=fun b n z=>by
  subst z
  rcases he with r | r
  ·exact hx b n r
  ·rw[n] at r; cases r
 have hm : ∀ b u,H b=some u -> ¬ xY (some u)->b≠x:=fun b u q nm z=>by subst z; rw[q] at mu; exact nm mu
 refine⟨fun b u q n _ _=>k b u (hb b n) q,fun b u q n _ _=>⟨u.slots,k b u (hb b n) q⟩,fun b u q n _=>by rw[cP (hx b n)]; exact n,fun b u q _=>?_,
  fun b xs q=>by rw[cP (hm b _ q fun z=>z)]; exact q,fun b u xs q=>by rw[cP (hm b _ q fun z=>z)]; exact q,fun b ps q=>⟨#[],by rw[cP (hm b _ q fun z=>z),q]; simp⟩⟩
 by_cases hbe:b=e
 ·subst hbe; exact heo
 ·exact⟨u,k b u hbe q⟩
end
def trk (h:aY)(H:Hp):List aD:=(cF h.objs.size).filter fun a=>(H a).isSome
def pN (h:aY)(H:Hp):aY:=PySem.W.hideAll h (trk h H)
theorem Yo (h:aY)(H:Hp):(pN h H).objs.size=h.objs.size:=PySem.W.hideAll_size _ _
theorem Ua{H:Hp}(e:h.get? b=some o)(n:H b=none):(pN h H).get? b=some o:=
 PySem.W.hideAll_get _ e fun hm=>by
  have q:(H b).isSome=true:=(BI.mp hm).2
  rw[n] at q; simp at q
theorem Nk{H:Hp}(e:(pN h H).get? b=some o):h.get? b=some o/\H b=none:=by
 have e':h.get? b=some o:=PySem.W.of_hideAll (trk h H) e
 refine⟨e',?_⟩
 cases q:H b with
 | none=>rfl
 | some x=>
  have hm:b∈trk h H:=BI.mpr ⟨qE.mpr (cA e'),by simp[q]⟩
  have z:(pN h H).get? b=none:=PySem.W.hideAll_none (trk h H) hm
  rw[z] at e; cases e
def Mo (g h:aY)(L:aD):List (aD×bG):=(cF h.objs.size).filterMap fun a=>if a=L \/ (g.get? a).isSome=true then none else(h.get? a).map fun o=>(a,o)
def rest (g h:aY)(L d:aD):List (aD×bG):=(Mo g h L).filter fun p=>decide (p.1≠d)
structure Mod (K:aK)(mg:aC->Option aE)(base:aY):Prop where
 kin:K.In base
 glob:base.Ns dW mg
 blt : ∃ mb,base.Ns builtinsNs mb /\ ∀ x:aC,x ≠ "__name__" -> mb x=nO x
 nolimit:base.NoLimit
structure Cx where
 prog:cB
 w:bN
 K:aK
 mg:aC->Option aE
 base:aY
 A:cO
 N:List aC
 s₀:aJ
 H₀:Hp
 env:Env
 outer:List Env
 stack:List Env
 ex:List aD
 fn:aC->Bool
 calm:Bool
 pn:List (aD×bG)
 xe:aE->aJ->Prop
def frs (l:List Env):List aD:=l.filterMap (·.frame)
abbrev Cx.fs (X:Cx):List aD:=frs X.outer
def hJ (sc:iV)(x:aC):Prop:=sc.names.lookup x=some .local \/ sc.names.lookup x=some .cell \/ sc.names.lookup x=some .free
def jY (sc:iV)(x:aC):Prop:=sc.names.lookup x=some .local \/ sc.names.lookup x=some .cell
def Look (env:Env)(h:aY)(m:aC->Option aE)(x:aC)(u:aE):Prop:=
 (env.kindOf x=some .local/\m x=some u) \/ ((env.kindOf x=some .cell \/ env.kindOf x=some .free) /\ ∃ c,env.cells.lookup x=some c/\h.IsCell c (some u))
structure Cx.Ok (X:Cx):Prop where
 mod:Mod X.K X.mg X.base
 kind:X.env.scope.kind = .function
 glob:X.env.globals=dW
 blt:X.env.builtins=builtinsNs
 above:X.s₀.heap.objs.size≤X.env.locals
 inj : ∀ x y c,X.env.cells.lookup x=some c->X.env.cells.lookup y=some c->x=y
 has : ∀ x,(X.env.kindOf x=some .cell \/ X.env.kindOf x=some .free) -> ∃ c,X.env.cells.lookup x=some c
 cab : ∀ x c,X.fn x=true->X.env.cells.lookup x=some c->X.s₀.heap.objs.size≤c
 hd:X.calm=true->X.A.handled=none
 frames:X.A.frames=some X.stack
 stk:X.stack=X.outer \/ (X.stack=X.env::X.outer/\X.env.frame=some X.env.locals)
 exf : ∀ b∈X.ex,b≠X.env.locals /\ ∀ x c,X.env.cells.lookup x=some c->c≠b
 bs : ∀ b o,X.base.get? b=some o->X.s₀.heap.get? b=some o/\X.H₀ b=none
 bsz:X.base.objs.size≤X.s₀.heap.objs.size
 noex : ∀ b o,X.base.get? b=some o->b∉X.ex
 exfs : ∀ b∈X.ex,b∉X.fs
 funs:X.s₀.heap.FunFrames X.base X.outer
 frf : ∀ b∈X.fs,X.H₀ b=none
structure Inv (X:Cx)(pins:List (aD×bG))(σ:List (Option V))(H:Hp)(s:aJ):Prop where
 ok:X.Ok
 os:s.os=X.s₀.os
 bare:sA s.gens
 base:Un X.fs X.ex X.H₀ H X.s₀.heap s.heap
 loc : ∃ m,s.heap.Ns X.env.locals m /\ ∀ (i:Nat) (x:aC) (v:V),X.N[i]?=some x->σ[i]?=some (some v)->hJ X.env.scope x -> ∃ u,RelV v u/\Look X.env s.heap m x u
 cell : ∀ x c,X.env.cells.lookup x=some c -> ∃ v,s.heap.IsCell c v
 free:H X.env.locals=none
 freeC : ∀ x c,X.env.cells.lookup x=some c->H c=none
 pin : ∀ p∈X.pn++pins,s.heap.get? p.1=some p.2/\H p.1=none/\p.1≠X.env.locals/\p.1∉X.fs /\ ∀ v,p.2.data ≠ .cell v
 hok:HOk X.prog X.w H s.heap
 len:σ.length=X.N.length
section
variable {X:Cx}{σ:List (Option V)}{H H':Hp}
theorem Cx.Ok.nofr (ok:X.Ok)(e:X.base.get? b=some o):b∉X.fs:=fun hb=>by
 have:=(ok.funs.mem hb).1
 rw[e] at this; cases this
theorem Inv.bs (I:Inv X pins σ H s) : ∀ b o,X.base.get? b=some o->s.heap.get? b=some o/\H b=none:=fun b o e=>
 ⟨I.base.keep b o (I.ok.bs b o e).1 (I.ok.bs b o e).2 (I.ok.nofr e) (I.ok.noex b o e),I.base.free b o (I.ok.bs b o e).1 (I.ok.bs b o e).2 (I.ok.noex b o e)⟩
theorem Inv.bk (I:Inv X pins σ H s) : ∀ b o,X.base.get? b=some o->s.heap.get? b=some o:=fun b o e=>(I.bs b o e).1
theorem Inv.mod (I:Inv X pins σ H s):Mod X.K X.mg X.base:=I.ok.mod
theorem Inv.kIn (I:Inv X pins σ H s):X.K.In s.heap:=I.ok.mod.kin.keeps I.bk
theorem Inv.lt (I:Inv X pins σ H s):X.env.locals<s.heap.objs.size:=let ⟨_,hn,_⟩:=I.loc; hn.lt
theorem Inv.sz (I:Inv X pins σ H s):X.s₀.heap.objs.size≤s.heap.objs.size:=dS I.ok.above (qC I.lt)
theorem Inv.nofs (I:Inv X pins σ H s)(h:s.heap.objs.size≤a):a∉X.fs:=fun hb=>by
 obtain⟨_,o,ho,_⟩:=I.ok.funs.mem hb
 exact absurd (jV (cA ho) (dS I.sz h)) (lB _)
theorem Inv.cne (I:Inv X pins σ H s) : ∀ x c,X.env.cells.lookup x=some c->c≠X.env.locals:=fun x c e z=>by
 obtain⟨v,o,ho,hd⟩:=I.cell x c e
 obtain⟨m,⟨o',es,ep,ho',hd',_⟩,_⟩:=I.loc
 rw[z,ho'] at ho; cases ho; rw[hd'] at hd; cases hd
theorem Inv.funs (I:Inv X pins σ H s):s.heap.FunFrames X.base X.outer:=by
 have all : ∀ (l:List Env),(∀ b∈frs l,b∈X.fs)->X.s₀.heap.FunFrames X.base l->s.heap.FunFrames X.base l:=by
  intro l
  induction l with
  | nil=>intro _ _; trivial
  | cons env r ih=>
   intro hs hl
   obtain⟨hk,⟨L,o,hf,hn,ho,hd⟩,hr⟩:=hl
   have hL:L∈X.fs:=hs L (by unfold frs; rw[GE,hf]; exact bO)
   obtain⟨sl,e⟩:=I.base.slot L o ho (I.ok.frf L hL) hL fun z=>I.ok.exfs L z hL
   exact⟨hk,⟨L,_,hf,hn,e,hd⟩,ih (fun b hb=>hs b (by unfold frs; rw[GE,hf]; exact bT _ hb)) hr⟩
 exact all X.outer (fun _ hb=>hb) I.ok.funs
theorem Inv.stack (I:Inv X pins σ H s):s.heap.FunFrames X.base X.stack:=by
 rcases I.ok.stk with e | ⟨e,hf⟩
 ·rw[e]; exact I.funs
 ·rw[e]
  obtain⟨m,hn,_⟩:=I.loc
  refine .cons (by rw[I.ok.kind]; decide) hf hn ?_ I.funs
  exact Heap.get?_none_of_le (dS I.ok.bsz I.ok.above)
theorem Inv.stkSub (I:Inv X pins σ H s) : ∀ b∈frs X.stack,b∈X.env.locals::X.fs:=fun b hb=>by
 rcases I.ok.stk with e | ⟨e,hf⟩
 ·rw[e] at hb; exact bT _ hb
 ·rw[e] at hb
  unfold frs at hb
  rw[GE,hf] at hb
  exact hb
theorem Inv.stkFree (I:Inv X pins σ H s) : ∀ b∈frs X.stack,H b=none:=fun b hb=>by
 rcases cY.mp (I.stkSub b hb) with e | hb
 ·rw[e]; exact I.free
 ·obtain⟨_,o,ho,_⟩:=I.ok.funs.mem hb
  exact I.base.free b o ho (I.ok.frf b hb) fun z=>I.ok.exfs b z hb
theorem Inv.step {g':Array BN}{d':Drawn}(I:Inv X pins σ H s)
  (hch : ∀ b∈ch,(b∈X.ex \/ X.s₀.heap.objs.size≤b)/\b≠X.env.locals/\(∀ x c,X.env.cells.lookup x=some c->c≠b) /\ ∀ p∈X.pn++pins,p.1≠b)
  (keep : ∀ b o,b≠X.env.locals->b∉X.fs->b∉ch->s.heap.get? b=some o->H b=none->h'.get? b=some o)
  (slot : ∀ b o,b≠X.env.locals->b∈X.fs->b∉ch->s.heap.get? b=some o->H b=none -> ∃ sl,h'.get? b=some { o with slots:=sl }) (free : ∀ b o,b∉ch->s.heap.get? b=some o->H b=none->H' b=none)
  (there : ∀ b o,b∉ch->s.heap.get? b=some o -> ∃ o',h'.get? b=some o')
  (tups : ∀ b xs,H b=some (.tup xs)->H' b=some (.tup xs)) (frzs : ∀ b o u,H b=some (.frz o u)->H' b=some (.frz o u)) (tbls : ∀ b ps,H b=some (.tbl ps) -> ∃ more,H' b=some (.tbl (ps++more)))
  (ns : ∀ m,s.heap.Ns X.env.locals m->h'.Ns X.env.locals m) (hok:HOk X.prog X.w H' h') (hg:sA g') :
  Inv X pins σ H' { s with heap:=h',gens:=g',drawn:=d',toks:=t' }:=by
 have neL : ∀ b o,X.s₀.heap.get? b=some o->b≠X.env.locals:=fun b o e=>dX (jV (cA e) I.ok.above)
 have neC : ∀ b o,X.s₀.heap.get? b=some o->b∉X.ex->b∉ch:=fun b o e hx hb=>by
  rcases(hch b hb).1 with z | z
  ·exact hx z
  ·exact absurd (jV (cA e) z) (lB _)
 have cellK : ∀ x c,X.env.cells.lookup x=some c -> ∀ v,s.heap.IsCell c v->h'.IsCell c v:=fun x c e v gh=>by
  obtain⟨o,ho,hd⟩:=gh
  have nch:c∉ch:=fun z=>(hch c z).2.2.1 x c e rfl
  by_cases hc:c∈X.fs
  ·obtain⟨sl,q⟩:=slot c o (I.cne x c e) hc nch ho (I.freeC x c e)
   exact⟨_,q,hd⟩
  ·exact⟨o,keep c o (I.cne x c e) hc nch ho (I.freeC x c e),hd⟩
 refine⟨I.ok,I.os,hg,⟨fun b o e n hb hx=>?_,fun b o e n hb hx=>?_,fun b o e n hx=>?_,fun b o e hx=>?_,fun b xs e=>tups b xs (I.base.tups b xs e),fun b o xs e=>frzs b o xs (I.base.frzs b o xs e),fun b ps e=>?_⟩,?_,fun x c e=>?_,?_,fun x c e=>?_,fun p hp=>?_,hok,I.len⟩
 ·exact keep b o (neL b o e) hb (neC b o e hx) (I.base.keep b o e n hb hx) (I.base.free b o e n hx)
 ·obtain⟨sl,e1⟩:=I.base.slot b o e n hb hx
  obtain⟨sl',e2⟩:=slot b _ (neL b o e) hb (neC b o e hx) e1 (I.base.free b o e n hx)
  exact⟨sl',e2⟩
 ·obtain⟨o',e1⟩:=I.base.there b o e hx
  exact free b o' (neC b o e hx) e1 (I.base.free b o e n hx)
 ·obtain⟨o',e1⟩:=I.base.there b o e hx
  exact there b o' (neC b o e hx) e1
 ·obtain⟨m1,e1⟩:=I.base.tbls b ps e
  obtain⟨m2,e2⟩:=tbls b _ e1
  exact⟨m1++m2,by rw[e2,Array.append_assoc]⟩
 ·obtain⟨m,hn,hl⟩:=I.loc
  refine⟨m,ns m hn,fun i x v e1 e2 e3=>?_⟩
  obtain⟨u,r,l⟩:=hl i x v e1 e2 e3
  refine⟨u,r,?_⟩
  rcases l with l | ⟨k,c,e,z⟩
  ·exact .inl l
  ·exact .inr ⟨k,c,e,cellK x c e _ z⟩
 ·obtain⟨v,z⟩:=I.cell x c e
  exact⟨v,cellK x c e v z⟩
 ·obtain⟨m,⟨o,_,_,ho,_⟩,_⟩:=I.loc
  exact free _ o (fun z=>(hch _ z).2.1 rfl) ho I.free
 ·obtain⟨v,o,ho,hd⟩:=I.cell x c e
  exact free c o (fun z=>(hch c z).2.2.1 x c e rfl) ho (I.freeC x c e)
 ·obtain⟨e,n,ne,nf,d⟩:=I.pin p hp
  have nch:p.1∉ch:=fun z=>(hch p.1 z).2.2.2 p hp rfl
  exact⟨keep p.1 p.2 ne nf nch e n,free p.1 p.2 nch e n,ne,nf,d⟩
theorem Inv.un(I:Inv X pins σ H s)(u:Un X.fs [] H H' s.heap h')(hok:HOk X.prog X.w H' h'):Inv X pins σ H' { s with heap:=h',toks:=t' }:=by
 obtain⟨m,⟨o,es,ep,ho,r⟩,_⟩:=id I.loc
 obtain⟨sl,hL⟩:=u.any ho I.free (by simp)
 exact I.step (g':=s.gens) (d':=s.drawn) (ch:=[]) (fun _ z=>nomatch z) (fun b o _ hb _ e n=>u.keep b o e n hb (by simp)) (fun b o _ hb _ e n=>u.slot b o e n hb (by simp)) (fun b o _ e n=>u.free b o e n (by simp)) (fun b o _ e=>u.there b o e (by simp)) u.tups u.frzs u.tbls (fun m' hm=>by
  obtain⟨o',es',ep',ho',r'⟩:=hm
  rw[ho] at ho'; cases ho'
  exact⟨_,es',ep',hL,r'⟩) hok I.bare
theorem Inv.call {g':Array BN}{d':Drawn}(I:Inv X pins σ H s)(u:Un (frs X.stack) ch H H' s.heap h')(hok:HOk X.prog X.w H' h')(hg:sA g')
  (hch : ∀ b∈ch,(b∈X.ex \/ X.s₀.heap.objs.size≤b)/\b≠X.env.locals/\(∀ x c,X.env.cells.lookup x=some c->c≠b) /\ ∀ p∈X.pn++pins,p.1≠b) :
  Inv X pins σ H' { s with heap:=h',gens:=g',drawn:=d',toks:=t' }:=by
 obtain⟨m,⟨o,es,ep,ho,r⟩,_⟩:=id I.loc
 obtain⟨sl,hL⟩:=u.any ho I.free fun z=>(hch _ z).2.1 rfl
 exact I.step (ch:=ch) hch (fun b o hL hb hc e n=>u.keep b o e n (fun z=>(cY.mp (I.stkSub b z)).elim hL hb) hc) (fun b o _ _ hc e n=>u.any e n hc) (fun b o hc e n=>u.free b o e n hc) (fun b o hc e=>u.there b o e hc) u.tups u.frzs u.tbls (fun m' hm=>by
  obtain⟨o',es',ep',ho',r'⟩:=hm
  rw[ho] at ho'; cases ho'
  exact⟨_,es',ep',hL,r'⟩) hok hg
theorem Inv.turned{it:aD}(I:Inv X pins σ H s)(k : ∀ b o,b≠it->s.heap.get? b=some o->h'.get? b=some o)(hn:H it=none)(hL:it≠X.env.locals)
  (h1:it∈X.ex \/ X.s₀.heap.objs.size≤it) (h2 : ∀ x c,X.env.cells.lookup x=some c->c≠it) (h3 : ∀ p∈X.pn++pins,p.1≠it):Inv X pins σ H { s with heap:=h',toks:=t' }:=by
 have nit : ∀ b u,H b=some u->b≠it:=fun b u e z=>by rw[z,hn] at e; cases e
 refine I.step (g':=s.gens) (d':=s.drawn) (ch:=[it]) (fun b hb=>?_) (fun b o _ _ hc e _=>k b o (fun z=>hc (by simp[z])) e) (fun b o _ _ hc e _=>⟨o.slots,k b o (fun z=>hc (by simp[z])) e⟩) (fun _ _ _ _ n=>n)
  (fun b o hc e=>⟨o,k b o (fun z=>hc (by simp[z])) e⟩) (fun _ _ e=>e) (fun _ _ _ e=>e) (fun b ps e=>⟨#[],by rw[e]; simp⟩) (fun m hm=>?_) (fun b u e=>?_) I.bare
 ·have e:b=it:=by simpa using hb
  subst e
  exact⟨h1,hL,h2,h3⟩
 ·obtain⟨o,es,ep,ho,r⟩:=hm
  exact⟨o,es,ep,k _ o (gZ hL) ho,r⟩
 ·refine(I.hok b u e).stay (fun c v hc q=>k c v ?_ q) (fun _ q=>q) fun _ _ q=>q
  rcases hc with z | z
  ·rw[z]; exact nit b u e
  ·exact nit c _ z
theorem Inv.tok (I:Inv X pins σ H s)(t:Nat):Inv X pins σ H { s with toks:=t }:=I.un (h':=s.heap) (t':=t) Un.refl I.hok
theorem Inv.kept(I:Inv X pins σ H s)(k : ∀ b u,s.heap.get? b=some u->h'.get? b=some u):Inv X pins σ H { s with heap:=h',toks:=t' }:=I.un (Un.kept k) (I.hok.kept k)
theorem Inv.laid{o:HO}(I:Inv X pins σ H s)(k : ∀ b u,s.heap.get? b=some u->h'.get? b=some u)(hp:s.heap.objs.size≤a)(new:Adc X.prog X.w (upd H a o) h' a o) :
  Inv X pins σ (upd H a o) { s with heap:=h',toks:=t' }:=I.un (Un.laid k hp (I.hok.fresh hp)) (I.hok.laid k hp new)
theorem Inv.write {x e:aD}{o:HO}(I:Inv X pins σ H s)(mu:xY (H x))(he:e=x \/ H e=some (.own x))(k : ∀ b u,b≠e->s.heap.get? b=some u->h'.get? b=some u)(heo : ∃ u,h'.get? e=some u)
  (new:Adc X.prog X.w (upd H x o) h' x o):Inv X pins σ (upd H x o) { s with heap:=h',toks:=t' }:=I.un (Un.write mu he k heo) (I.hok.write mu he k heo new)
theorem Inv.pins_of {pins':List (aD×bG)}(I:Inv X pins σ H s)(h : ∀ p∈pins',s.heap.get? p.1=some p.2/\H p.1=none/\p.1≠X.env.locals/\p.1∉X.fs /\ ∀ v,p.2.data ≠ .cell v):Inv X pins' σ H s:=
 ⟨I.ok,I.os,I.bare,I.base,I.loc,I.cell,I.free,I.freeC,fun p hp=>(fY.mp hp).elim (fun z=>I.pin p (BJ _ z)) (h p),I.hok,I.len⟩
theorem SM {N:List aC}(hN:N.Nodup){j:Nat}(a:N[i]?=some x)(b:N[j]?=some x):i=j:=by
 obtain⟨h1,e1⟩:=dD.mp a
 obtain⟨h2,e2⟩:=dD.mp b
 exact(List.getElem_inj hN).mp (e1.trans e2.symm)
theorem WD{v:V}{Q:Unit->aJ->Prop}(I:Inv X pins σ H s)(hN:X.N.Nodup)(hi:X.N[i]?=some x)(hx:jY X.env.scope x)(r:RelV v u)
  (h : ∀ s',Inv X pins (σ.set i (some v)) H s'->(∃ a,oZ a s.heap s'.heap/\(a=X.env.locals \/ X.env.cells.lookup x=some a))->Q () s') (hf:X.fn x=true \/ X.env.scope.names.lookup x=some .local:=by first | exact .inl rfl | exact .inr rfl | assumption):aN M A (storeName X.env x u) Q E s:=by
 obtain⟨m,hn,hl⟩:=id I.loc
 have hcls:(X.env.scope.kind == .class||(X.env.scope.kind == .module&&X.env.locals != X.env.globals))=false:=by rw[I.ok.kind]; rfl
 have hiσ:i<σ.length:=by rw[I.len]; exact(dD.mp hi).1
 have cne:=I.cne
 have tracked : ∀ {a:aD} {h':aY},(∃ o,s.heap.get? a=some o/\H a=none)->oZ a s.heap h'->HOk X.prog X.w H h':=fun {a h'} ha hs b ob e=>by
  obtain⟨_,_,hfree⟩:=ha
  refine(I.hok b ob e).stay (fun c w' hc q=>(hs.2 c ?_).trans q) (fun _ q=>q) fun _ _ q=>q
  rintro rfl
  rcases hc with rfl | hc
  ·rw[hfree] at e; cases e
  ·rw[hfree] at hc; cases hc
 rcases hx with hk | hk
 ·refine wpAny_storeName_local hk hn (fun h' hn' hs=>?_) hcls
  obtain⟨oL,_,_,hoL,_⟩:=id hn
  refine h _ ⟨I.ok,I.os,I.bare,⟨fun b o e n hb hx=>?_,fun b o e n hb hx=>?_,I.base.free,fun b o e hx=>?_,I.base.tups,I.base.frzs,I.base.tbls⟩,⟨_,hn',fun j y v' e1 e2 e3=>?_⟩,fun y c e=>?_,I.free,I.freeC,fun p hp=>?_,tracked ⟨oL,hoL,I.free⟩ hs,by simpa using I.len⟩ ⟨_,hs,.inl rfl⟩
  ·exact(hs.2 b (dX (jV (cA e) I.ok.above))).trans (I.base.keep b o e n hb hx)
  ·obtain⟨sl,e1⟩:=I.base.slot b o e n hb hx
   exact⟨sl,(hs.2 b (dX (jV (cA e) I.ok.above))).trans e1⟩
  ·obtain⟨o',e1⟩:=I.base.there b o e hx
   exact⟨o',(hs.2 b (dX (jV (cA e) I.ok.above))).trans e1⟩
  ·by_cases hj:j=i
   ·subst hj
    rw[hi] at e1; cases e1
    rw[nR hiσ] at e2
    cases e2
    exact⟨u,r,.inl ⟨hk,by simp⟩⟩
   ·rw[lW (gZ hj)] at e2
    obtain⟨u',r',q⟩:=hl j y v' e1 e2 e3
    refine⟨u',r',?_⟩
    rcases q with⟨k,e⟩ | ⟨k,c,e,z⟩
    ·refine .inl ⟨k,?_⟩
     have:y≠x:=fun e=>hj (SM hN e1 (e ▸ hi))
     simp[this,e]
    ·exact .inr ⟨k,c,e,z.sameBut hs (cne y c e)⟩
  ·obtain⟨w',z⟩:=I.cell y c e
   exact⟨w',z.sameBut hs (cne y c e)⟩
  ·obtain⟨e,n,ne,nf,d⟩:=I.pin p hp
   exact⟨(hs.2 p.1 ne).trans e,n,ne,nf,d⟩
 ·have hfn:X.fn x=true:=by
   rcases hf with z | z
   ·exact z
   ·rw[z] at hk; cases hk
  obtain⟨c,hc⟩:=I.ok.has x (.inl hk)
  obtain⟨w',z⟩:=I.cell x c hc
  refine wpAny_storeName_cell I.ok.kind hk hc z (fun h' hc' hs=>?_)
  obtain⟨oc,hoc,hocd⟩:=id z
  refine h { s with heap:=h' } ⟨I.ok,I.os,I.bare,⟨fun b o e n hb hx=>?_,fun b o e n hb hx=>?_,I.base.free,fun b o e hx=>?_,I.base.tups,I.base.frzs,I.base.tbls⟩,⟨m,hn.sameBut hs (gZ (cne x c hc)),fun j y v' e1 e2 e3=>?_⟩,fun y c' e=>?_,I.free,I.freeC,fun p hp=>?_,tracked ⟨oc,hoc,I.freeC x c hc⟩ hs,by simpa using I.len⟩ ⟨c,hs,.inr hc⟩
  ·exact(hs.2 b (dX (jV (cA e) (I.ok.cab x c hfn hc)))).trans (I.base.keep b o e n hb hx)
  ·obtain⟨sl,e1⟩:=I.base.slot b o e n hb hx
   exact⟨sl,(hs.2 b (dX (jV (cA e) (I.ok.cab x c hfn hc)))).trans e1⟩
  ·obtain⟨o',e1⟩:=I.base.there b o e hx
   exact⟨o',(hs.2 b (dX (jV (cA e) (I.ok.cab x c hfn hc)))).trans e1⟩
  ·by_cases hj:j=i
   ·subst hj
    rw[hi] at e1; cases e1
    rw[nR hiσ] at e2
    cases e2
    exact⟨u,r,.inr ⟨.inl hk,c,hc,hc'⟩⟩
   ·rw[lW (gZ hj)] at e2
    obtain⟨u',r',q⟩:=hl j y v' e1 e2 e3
    refine⟨u',r',?_⟩
    rcases q with q | ⟨k,c',e,z'⟩
    ·exact .inl q
    ·refine .inr ⟨k,c',e,z'.sameBut hs ?_⟩
     rintro rfl
     exact hj (SM hN e1 (I.ok.inj _ _ _ e hc ▸ hi))
  ·by_cases hcc:c'=c
   ·subst hcc; exact⟨_,hc'⟩
   ·obtain⟨w2,z2⟩:=I.cell y c' e
    exact⟨w2,z2.sameBut hs hcc⟩
  ·obtain⟨e,n,ne,nf,d⟩:=I.pin p hp
   refine⟨(hs.2 p.1 ?_).trans e,n,ne,nf,d⟩
   intro q
   rw[q,hoc] at e
   have q':oc=p.2:=eY e
   exact d w' (by rw[← q']; exact hocd)
theorem SX{v:V}{Q:Unit->aJ->Prop}(I:Inv X pins σ H s)(hN:X.N.Nodup)(hi:X.N[i]?=some x)(hx:jY X.env.scope x)(r:RelV v u)
  (h : ∀ s',Inv X pins (σ.set i (some v)) H s'->Q () s') (hf:X.fn x=true \/ X.env.scope.names.lookup x=some .local:=by first | exact .inl rfl | exact .inr rfl | assumption):aN M A (storeName X.env x u) Q E s:=
 WD I hN hi hx r (fun s' I' _=>h s' I') hf
theorem Inv.call'(I:Inv X pins σ H s)(ho:s'.os=s.os)(u:Un (frs X.stack) ch H H' s.heap s'.heap)(hok:HOk X.prog X.w H' s'.heap)(hg:sA s'.gens)
  (hch : ∀ b∈ch,(b∈X.ex \/ X.s₀.heap.objs.size≤b)/\b≠X.env.locals/\(∀ x c,X.env.cells.lookup x=some c->c≠b) /\ ∀ p∈X.pn++pins,p.1≠b):Inv X pins σ H' s':=by
 obtain⟨h',g',d',t',o'⟩:=s'
 have e:o'=s.os:=ho
 subst e
 exact I.call (g':=g') (t':=t') (d':=d') u hok hg hch
end
abbrev XK:=aE->Option aD->Hp->Prop
abbrev St:=List (Option V)
abbrev VK:=V->Hp->Prop
abbrev TE:=St->Hp->VK->Prop
abbrev TT:=St->Hp->(Bool->Hp->Prop)->Prop
abbrev TA:=St->Hp->(List V->Hp->Prop)->Prop
structure Ends where
 nx:St->Hp->Prop
 rt:VK
 bk:St->Hp->Prop:=fun _ _=>False
 ct:St->Hp->Prop:=fun _ _=>False
abbrev TS:=Ends->St->Hp->Prop
def EP (X:Cx)(pins:List (aD×bG))(σ:St)(Q:VK)(u:aE)(s':aJ):Prop:=∃ v H',Inv X pins σ H' s'/\RelV v u/\Q v H'
def TP (X:Cx)(pins:List (aD×bG))(σ:St)(Q:Bool->Hp->Prop)(b:Bool)(s':aJ):Prop:=∃ H',Inv X pins σ H' s'/\Q b H'
def AP (X:Cx)(pins:List (aD×bG))(σ:St)(Q:List V->Hp->Prop)(us:List aE)(s':aJ):Prop:=∃ vs H',Inv X pins σ H' s'/\Vals vs us/\Q vs H'
def SP (X:Cx)(pins:List (aD×bG))(D:Ends)(f:Flow)(s':aJ):Prop:=
 match f with
 | .next=>∃ σ' H',Inv X pins σ' H' s'/\D.nx σ' H'
 | .brk=>∃ σ' H',Inv X pins σ' H' s'/\D.bk σ' H'
 | .cont=>∃ σ' H',Inv X pins σ' H' s'/\D.ct σ' H'
 | .ret u=>∃ v σ' H',Inv X pins σ' H' s'/\RelV v u/\D.rt v H'
def PE (X:Cx)(e:aS)(t:TE):Prop:=
 ∀ (pins:List (aD×bG)) (s:aJ) (σ:St) (H:Hp) (Q:VK),Inv X pins σ H s->t σ H Q->aN (aW X.prog X.w) X.A (bM e X.env) (EP X pins σ Q) X.xe s
def PT (X:Cx)(e:aS)(t:TT):Prop:=
 ∀ (pins:List (aD×bG)) (s:aJ) (σ:St) (H:Hp) (Q:Bool->Hp->Prop),Inv X pins σ H s->t σ H Q->aN (aW X.prog X.w) X.A (isTrue e X.env (bM e X.env)) (TP X pins σ Q) X.xe s
def PW (X:Cx)(e:aS)(t:TT):Prop:=
 ∀ (whole:Sem aE) (pins:List (aD×bG)) (s:aJ) (σ:St) (H:Hp) (Q:Bool->Hp->Prop),Inv X pins σ H s->t σ H Q->aN (aW X.prog X.w) X.A (isTrue e X.env whole) (TP X pins σ Q) X.xe s
theorem PW.pt {X:Cx}{t:TT}(h:PW X e t):PT X e t:=h _
def PA (X:Cx)(es:List aS)(t:TA):Prop:=
 ∀ (pos:bR) (pins:List (aD×bG)) (s:aJ) (σ:St) (H:Hp) (Q:List V->Hp->Prop),Inv X pins σ H s->t σ H Q->aN (aW X.prog X.w) X.A (spliced (eW pos (bK es X.env))) (AP X pins σ Q) X.xe s
def PS (X:Cx)(st:bZ)(t:TS):Prop:=
 ∀ (pins:List (aD×bG)) (s:aJ) (σ:St) (H:Hp) (D:Ends),Inv X pins σ H s->t D σ H->aN (aW X.prog X.w) X.A (exec st X.env) (SP X pins D) X.xe s
def PSs (X:Cx)(st:List bZ)(t:TS):Prop:=
 ∀ (pins:List (aD×bG)) (s:aJ) (σ:St) (H:Hp) (D:Ends),Inv X pins σ H s->t D σ H->aN (aW X.prog X.w) X.A (execs st X.env) (SP X pins D) X.xe s
theorem thn {α:Type}{t:Sem α}{Q Q':α->aJ->Prop}(h:aN M A t Q E s)(hQ : ∀ a s,Q a s->Q' a s):aN M A t Q' E s:=lR h hQ fun _ _ x=>x
section
variable {X:Cx}
abbrev OS (i:Nat):TE:=fun σ H Q=>∃ v,σ[i]?=some (some v)/\Q v H
abbrev tC (v:V):TE:=fun _ H Q=>Q v H
theorem jC(hN:X.N[i]?=some x)(hv:hJ X.env.scope x)(hd:(x == ("__debug__" : aC))=false:=by decide)(hcd:(x == ("__classdict__" : aC))=false:=by decide):PE X (.Name x pos) (OS i):=by
 intro pins s σ H Q I h
 obtain⟨v,e,h⟩:=h
 obtain⟨m,hn,hl⟩:=I.loc
 obtain⟨u,r,l⟩:=hl i x v hN e hv
 have fin:EP X pins σ Q u s:=⟨v,H,I,r,h⟩
 rcases l with⟨hk,hm⟩ | ⟨hk,c,hc,hcell⟩
 ·exact wpAny_Name (wpAny_loadName_local I.ok.kind hk hn hm fin) hd
 ·rcases hk with hk | hk
  ·exact wpAny_Name (wpAny_loadName_cell I.ok.kind hk hc hcell fin) hd
  ·exact wpAny_Name (wpAny_loadName_free I.ok.kind hk hc hcell fin hcd) hd
theorem ZL {i j pos}:PE X (.Constant (.int i) j pos) (tC (.int i)):=fun _ _ _ H _ I h=>wpAny_Constant_int ⟨.int i,H,I.tok _,⟨_,rfl⟩,h⟩
theorem Fd {b j pos}:PE X (.Constant (.bool b) j pos) (tC (.bl b)):=fun _ _ _ H _ I h=>Constant_bool ⟨.bl b,H,I,rfl,h⟩
theorem ZJ {j pos}:PE X (.Constant .none j pos) (tC .non):=fun _ _ _ H _ I h=>Constant_none ⟨.non,H,I,rfl,h⟩
theorem Jj {x j pos}:PE X (.Constant (.str x) j pos) (tC (.str x)):=fun _ _ _ H _ I h=>Calls.Constant_str ⟨.str x,H,I.tok _,⟨_,rfl⟩,h⟩
def Gl (X:Cx)(x:aC):Prop:=X.env.kindOf x=some .globalImplicit
theorem Ay{σ:St}{H:Hp}(I:Inv X pins σ H s)(hg:Gl X x)(hm:X.mg x=some u)(h:Q u s)
  (hd:(x == ("__debug__" : aC))=false:=by decide):aN (aW X.prog X.w) X.A (bM (.Name x pos) X.env) Q E s:=
 Calls.Name_function_global I.ok.kind hg (Calls.loadGlobal_global (by rw[I.ok.glob]; exact I.mod.glob.keeps I.bk) hm h) hd
theorem yO{σ:St}{H:Hp}(I:Inv X pins σ H s)(hg:Gl X x)(hm:X.mg x=none)(hv:nO x=some u)(h:Q u s)
  (hn:x ≠ "__name__":=by decide) (hd:(x == ("__debug__" : aC))=false:=by decide):aN (aW X.prog X.w) X.A (bM (.Name x pos) X.env) Q E s:=by
 obtain⟨mb,h1,h2⟩:=I.mod.blt
 exact Calls.Name_function_global I.ok.kind hg (Calls.loadGlobal_builtin (by rw[I.ok.glob]; exact I.mod.glob.keeps I.bk) hm (by rw[I.ok.blt]; exact h1.keeps I.bk) ((h2 x hn).trans hv) h) hd
theorem Mb{v:V}(hg:Gl X x)(hm:X.mg x=some u)(r:RelV v u)(hd:(x == ("__debug__" : aC))=false:=by decide):PE X (.Name x pos) (tC v):=
 fun _ _ _ H _ I h=>Ay I hg hm ⟨v,H,I,r,h⟩ hd
theorem Ky{v:V}(hg:Gl X x)(hm:X.mg x=none)(hv:nO x=some u)(r:RelV v u)(hn:x ≠ "__name__":=by decide)(hd:(x == ("__debug__" : aC))=false:=by decide):PE X (.Name x pos) (tC v):=
 fun _ _ _ H _ I h=>yO I hg hm hv ⟨v,H,I,r,h⟩ hn hd
variable {a b:aS}{ta tb:TE}
def tB (t:TE):TT:=fun σ H Q=>t σ H fun x H1=>∃ c,x = .bl c/\Q c H1
theorem Ir{t:TE}(h:PE X e t)(he : ∀ whole,isTrue e X.env whole=(do let v ← whole; standAt e.pos; pT [v] (truthy v)):=by intro _; rfl):PT X e (tB t):=by
 intro pins s σ H Q I hw
 refine isTrue_plain (thn (h pins s σ H _ I hw) fun v s1 ⟨x,H1,I1,r1,q1⟩=>?_) (he _)
 obtain⟨d,rfl,q⟩:=q1
 cases r1
 exact MW ⟨H1,I1,q⟩
variable {tA tB':TT}{rest:List aS}
def Eb (t u:TT):TT:=fun σ H Q=>t σ H fun c H1=>if c=true then u σ H1 Q else Q false H1
def tOr (t u:TT):TT:=fun σ H Q=>t σ H fun c H1=>if c=true then Q true H1 else u σ H1 Q
def Dl (t:TT):TT:=fun σ H Q=>t σ H fun c H1=>Q (!c) H1
theorem Ar (ha:PT X a tA):PW X (.BoolOp .And [a] pos) tA:=by
 intro wh pins s σ H Q I h
 refine isTrue_and (thn (ha pins s σ H Q I h) fun c s1 e=>?_)
 cases c with
 | true=>exact isTrue_and_nil e
 | false=>exact e
theorem Gn (ha:PT X a tA):PW X (.BoolOp .Or [a] pos) tA:=by
 intro wh pins s σ H Q I h
 refine isTrue_or (thn (ha pins s σ H Q I h) fun c s1 e=>?_)
 cases c with
 | false=>exact isTrue_or_nil e
 | true=>exact e
theorem ZH (ha:PT X a tA)(hb:PW X (.BoolOp .And (b::rest) pos) tB'):PW X (.BoolOp .And (a::b::rest) pos) (Eb tA tB'):=by
 intro wh pins s σ H Q I h
 refine isTrue_and (thn (ha pins s σ H _ I h) fun c s1 gh=>?_)
 obtain⟨H1,I1,q1⟩:=gh
 cases c with
 | true=>exact hb wh pins s1 σ H1 Q I1 q1
 | false=>exact⟨H1,I1,q1⟩
theorem Ez (ha:PT X a tA)(hb:PW X (.BoolOp .Or (b::rest) pos) tB'):PW X (.BoolOp .Or (a::b::rest) pos) (tOr tA tB'):=by
 intro wh pins s σ H Q I h
 refine isTrue_or (thn (ha pins s σ H _ I h) fun c s1 gh=>?_)
 obtain⟨H1,I1,q1⟩:=gh
 cases c with
 | true=>exact⟨H1,I1,q1⟩
 | false=>exact hb wh pins s1 σ H1 Q I1 q1
theorem Hc (ha:PT X a tA):PT X (.UnaryOp .Not a pos) (Dl tA):=by
 intro pins s σ H Q I h
 exact isTrue_not (ha pins s σ H (fun c H1=>Q (!c) H1) I h)
def En (ta tb:TE):TE:=fun σ H Q=>ta σ H fun x H1=>∃ c,x = .bl c/\if c=true then tb σ H1 Q else Q (.bl false) H1
theorem ZG {op}{t:TE}(h:PE X a t):PE X (.BoolOp op [a] pos) t:=fun pins s σ H Q I hw=>BoolOp_one (h pins s σ H Q I hw)
theorem ZE (ha:PE X a ta)(hb:PE X (.BoolOp .And (b::rest) pos) tb):PE X (.BoolOp .And (a::b::rest) pos) (En ta tb):=by
 intro pins s σ H Q I h
 refine BoolOp_and (thn (ha pins s σ H _ I h) fun v s1 gh=>?_)
 obtain⟨x,H1,I1,r1,q1⟩:=gh
 obtain⟨c,rfl,q1⟩:=q1
 cases r1
 refine MW ?_
 cases c with
 | true=>exact hb pins s1 σ H1 Q I1 q1
 | false=>exact⟨.bl false,H1,I1,rfl,q1⟩
def tIf (t:TT)(ta tb:TE):TE:=fun σ H Q=>t σ H fun c H1=>if c=true then ta σ H1 Q else tb σ H1 Q
theorem SS(hc:PT X c tA)(ha:PE X a ta)(hb:PE X b tb):PE X (.IfExp c a b pos) (tIf tA ta tb):=by
 intro pins s σ H Q I h
 refine wpAny_IfExp (thn (hc pins s σ H _ I h) fun d s1 gh=>?_)
 obtain⟨H1,I1,q1⟩:=gh
 cases d with
 | true=>exact ha pins s1 σ H1 Q I1 q1
 | false=>exact hb pins s1 σ H1 Q I1 q1
end
def SqL (K:aK)(H:Hp)(a:aD)(xs:List V):Prop:=
 Rd H a (.lst xs) \/
  ∃ (o:bG) (its:Array aE) (n:Nat),K.lookup a=some o/\o.cls = .type "list" /\ o.dict=none/\o.data = .seq its n/\its.size≤sizeLine/\Vals xs its.toList
def SqT (K:aK)(H:Hp)(a:aD)(xs:List V):Prop:=
 Rd H a (.tup xs) \/
  ∃ (o:bG) (its:Array aE) (n:Nat),K.lookup a=some o/\o.cls = .type "tuple" /\ o.data = .seq its n/\its.size≤sizeLine/\Vals xs its.toList
def Di:aE->Option V
 | .none=>some .non
 | .bool b=>some (.bl b)
 | .int i _=>some (.int i)
 | .str x _=>some (.str x)
 | .bytes b _=>some (.byt b)
 | .float b _=>some (.flt b)
 | .ref a=>some (.ref a)
 | .type n=>some (.ty n)
 | _=>none
theorem RelV.abs {x:V}(r:RelV x u):Di u=some x:=by
 cases x with
 | non=>cases r; rfl
 | bl _=>cases r; rfl
 | int _=>obtain⟨t,rfl⟩:=r; rfl
 | str _=>obtain⟨t,rfl⟩:=r; rfl
 | byt _=>obtain⟨t,rfl⟩:=r; rfl
 | flt _=>obtain⟨t,rfl⟩:=r; rfl
 | ref _=>cases r; rfl
 | ty _=>cases r; rfl
theorem RelV.inj {x y:V}(r:RelV x u)(q:RelV y u):x=y:=eY (r.abs.symm.trans q.abs)
theorem Vals.inj : ∀ {xs ys:List V} {us:List aE},Vals xs us->Vals ys us->xs=ys:=by
 intro xs ys us h
 induction h generalizing ys with
 | nil=>intro h; cases h; rfl
 | cons r _ ih=>
  intro h
  cases h with
  | cons r' t'=>rw[r.inj r',ih t']
section
variable {X:Cx}{σ:St}{H:Hp}{xs ys:List V}
theorem SqL.of(h:H a=some (.lst xs)):SqL K H a xs:=.inl (.inl h)
theorem SqT.of(h:H a=some (.tup xs)):SqT K H a xs:=.inl (.inl h)
theorem Inv.list (I:Inv X pins σ H s)(h:SqL X.K H a xs) : ∃ its:List aE,Vals xs its/\PlainL s.heap a its.toArray/\xs.length≤sizeLine:=by
 rcases h with h | ⟨o,its,n,hk,hc,hd,hs,hz,r⟩
 ·obtain⟨z,its,n,r,e⟩:=h.ok I.hok
  exact⟨its,r,⟨_,n,e,rfl,rfl,rfl⟩,z⟩
 ·refine⟨its.toList,r,⟨o,n,I.kIn a o hk,hc,hd,by simpa using hs⟩,?_⟩
  have e:=r.length
  simp only[BR] at e
  omega
theorem Inv.tuple (I:Inv X pins σ H s)(h:SqT X.K H a xs) : ∃ its:List aE,Vals xs its/\IsTup s.heap a its.toArray/\xs.length≤sizeLine:=by
 rcases h with h | ⟨o,its,n,hk,hc,hs,hz,r⟩
 ·obtain⟨z,its,r,p⟩:=h.ok I.hok
  exact⟨its,r,p.1,z⟩
 ·refine⟨its.toList,r,⟨o,I.kIn a o hk,hc,n,by simpa using hs⟩,?_⟩
  have e:=r.length
  simp only[BR] at e
  omega
theorem Inv.list_inj (I:Inv X pins σ H s)(h:SqL X.K H a xs)(h':SqL X.K H a ys):xs=ys:=by
 obtain⟨its,r,⟨o,n,e,_,_,d⟩,_⟩:=I.list h
 obtain⟨its',r',⟨o',n',e',_,_,d'⟩,_⟩:=I.list h'
 rw[e] at e'; cases e'
 rw[d] at d'
 injection d' with d1 _
 have:its=its':=by simpa using congrArg Array.toList d1
 subst this
 exact r.inj r'
theorem Inv.tuple_inj (I:Inv X pins σ H s)(h:SqT X.K H a xs)(h':SqT X.K H a ys):xs=ys:=by
 obtain⟨its,r,⟨o,e,_,n,d⟩,_⟩:=I.tuple h
 obtain⟨its',r',⟨o',e',_,n',d'⟩,_⟩:=I.tuple h'
 rw[e] at e'; cases e'
 rw[d] at d'
 injection d' with d1 _
 have:its=its':=by simpa using congrArg Array.toList d1
 subst this
 exact r.inj r'
end
abbrev Cx.wish (X:Cx)(E:aE->aJ->Prop):Cx:={ X with xe:=E }
abbrev Cx.nox (X:Cx):Cx:=X.wish fun _ _=>False
theorem Cx.Ok.wish {X:Cx}(ok:X.Ok)(E:aE->aJ->Prop):(X.wish E).Ok:=
 ⟨ok.mod,ok.kind,ok.glob,ok.blt,ok.above,ok.inj,ok.has,ok.cab,ok.hd,ok.frames,ok.stk,ok.exf,ok.bs,ok.bsz,ok.noex,ok.exfs,ok.funs,ok.frf⟩
theorem Cx.Ok.unwish {X:Cx}(ok:(X.wish E).Ok):X.Ok:=
 ⟨ok.mod,ok.kind,ok.glob,ok.blt,ok.above,ok.inj,ok.has,ok.cab,ok.hd,ok.frames,ok.stk,ok.exf,ok.bs,ok.bsz,ok.noex,ok.exfs,ok.funs,ok.frf⟩
section
variable {X:Cx}{σ:St}{H:Hp}
theorem Inv.wish (I:Inv X pins σ H s)(E:aE->aJ->Prop):Inv (X.wish E) pins σ H s:=⟨I.ok.wish E,I.os,I.bare,I.base,I.loc,I.cell,I.free,I.freeC,I.pin,I.hok,I.len⟩
theorem Inv.unwish (I:Inv (X.wish E) pins σ H s):Inv X pins σ H s:=⟨I.ok.unwish,I.os,I.bare,I.base,I.loc,I.cell,I.free,I.freeC,I.pin,I.hok,I.len⟩
theorem SP.unwish {D:Ends}{f:Flow}(h:SP (X.wish E) pins D f s'):SP X pins D f s':=by
 cases f with
 | next=>obtain⟨σ',H',I,q⟩:=h; exact⟨σ',H',I.unwish,q⟩
 | brk=>obtain⟨σ',H',I,q⟩:=h; exact⟨σ',H',I.unwish,q⟩
 | cont=>obtain⟨σ',H',I,q⟩:=h; exact⟨σ',H',I.unwish,q⟩
 | ret u=>obtain⟨v,σ',H',I,r,q⟩:=h; exact⟨v,σ',H',I.unwish,r,q⟩
theorem PSs.nox {st:List bZ}{t:TS}(h:PSs X.nox st t):PSs X st t:=fun pins s σ H D I hw=>
 lR (h pins s σ H D (I.wish _) hw) (fun _ _ q=>q.unwish) fun _ _ z=>qI z
end
section
variable {X:Cx}{st:bZ}{rest:List bZ}{t u:TS}{te:TE}
def Fn:TS:=fun D σ H=>D.nx σ H
def Do (t u:TS):TS:=fun D σ H=>t { D with nx:=u D } σ H
theorem ZZ:PSs X [] Fn:=fun _ _ σ H _ I h=>NC ⟨σ,H,I,h⟩
theorem Vp (h1:PS X st t)(h2:PSs X rest u):PSs X (st::rest) (Do t u):=by
 intro pins s σ H D I h
 refine wpAny_execs_cons (thn (h1 pins s σ H { D with nx:=u D } I h) fun f s1 q=>?_)
 cases f with
 | next=>
  obtain⟨σ',H',I',q⟩:=q
  exact h2 pins s1 σ' H' D I' q
 | ret v=>exact q
 | brk=>exact q
 | cont=>exact q
theorem Lo (h1:PS X st t):PSs X [st] t:=by
 intro pins s σ H D I h
 refine wpAny_execs_cons (thn (h1 pins s σ H D I h) fun f s1 q=>?_)
 cases f with
 | next=>exact NC q
 | ret v=>exact q
 | brk=>exact q
 | cont=>exact q
theorem Inv.quiet{σ:St}{H:Hp}(I:Inv X pins σ H s):interactive X.env=false:=by simp[interactive,I.ok.kind]
def Et (te:TE):TS:=fun D σ H=>te σ H fun _ H1=>D.nx σ H1
theorem yS (he:PE X e te)(hs:jU e none pos.line X.env=pure false:=by rfl):PS X (.Expr e pos) (Et te):=by
 intro pins s σ H D I h
 exact wpAny_Expr_any (thn (he pins s σ H _ I h) fun v s1 ⟨x,H1,I1,r1,q1⟩=>⟨σ,H1,I1,q1⟩) I.quiet hs
def Eh (te:TE):TS:=fun D σ H=>te σ H D.rt
theorem CG (he:PE X e te):PS X (.Return (some e) pos) (Eh te):=by
 intro pins s σ H D I h
 exact wpAny_Return_some (thn (he pins s σ H _ I h) fun v s1 ⟨x,H1,I1,r1,q1⟩=>⟨x,σ,H1,I1,r1,q1⟩)
def Dp (c:TT)(t u:TS):TS:=fun D σ H=>c σ H fun b H1=>if b=true then t D σ H1 else u D σ H1
theorem PP{a b:List bZ}{tc:TT}(hc:PT X c tc)(ha:PSs X a t)(hb:PSs X b u):PS X (.If c a b pos) (Dp tc t u):=by
 intro pins s σ H D I h
 refine wpAny_If (thn (hc pins s σ H _ I h) fun d s1 gh=>?_)
 obtain⟨H1,I1,q1⟩:=gh
 cases d with
 | true=>exact ha pins s1 σ H1 D I1 q1
 | false=>exact hb pins s1 σ H1 D I1 q1
end
abbrev TG:=V->St->Hp->(St->Hp->Prop)->Prop
abbrev TGs:=List V->St->Hp->(St->Hp->Prop)->Prop
def PG (X:Cx)(target:aS)(t:TG):Prop:=
 ∀ (pins:List (aD×bG)) (s:aJ) (σ:St) (H:Hp) (v:V) (u:aE) (Q:St->Hp->Prop),Inv X pins σ H s->RelV v u->t v σ H Q ->
  aN (aW X.prog X.w) X.A (kM target X.env u) (fun _ s'=>∃ σ' H',Inv X pins σ' H' s'/\Q σ' H') X.xe s
def PGs (X:Cx)(ts:List aS)(t:TGs):Prop:=
 ∀ (pins:List (aD×bG)) (s:aJ) (σ:St) (H:Hp) (vs:List V) (us:List aE) (Q:St->Hp->Prop),Inv X pins σ H s->Vals vs us->t vs σ H Q ->
  aN (aW X.prog X.w) X.A (assignInOrder ((iU ts X.env).map (·.2)) us) (fun _ s'=>∃ σ' H',Inv X pins σ' H' s'/\Q σ' H') X.xe s
abbrev GV:=V->V->V->Hp->(Hp->Prop)->Prop
def PL (X:Cx)(t:GV):Prop:=
 ∀ (pins:List (aD×bG)) (s:aJ) (σ:St) (H:Hp) (o i v:V) (ov iv u:aE) (Q:Hp->Prop),Inv X pins σ H s->RelV o ov->RelV i iv->RelV v u->t o i v H Q ->
  aN (aW X.prog X.w) X.A (setItem ov iv u) (fun _ s'=>∃ H',Inv X pins σ H' s'/\Q H') X.xe s
section
variable {X:Cx}
def FG (i:Nat):TG:=fun v σ H Q=>Q (σ.set i (some v)) H
theorem vV(hN:X.N.Nodup)(hi:X.N[i]?=some x)(hx:jY X.env.scope x)(hf:X.fn x=true \/ X.env.scope.names.lookup x=some .local:=by first | exact .inl rfl | exact .inr rfl | assumption):PG X (.Name x pos) (FG i):=by
 intro pins s σ H v u Q I r h
 exact wpAny_assign_Name (SX I hN hi hx r (fun s' I'=>⟨_,H,I',h⟩) hf)
def Ds:TGs:=fun vs σ H Q=>vs=[]/\Q σ H
def Ft (t:TG)(u:TGs):TGs:=fun vs σ H Q=>∃ v r,vs=v::r/\t v σ H fun σ' H'=>u r σ' H' Q
theorem ZO:PGs X [] Ds:=by
 intro pins s σ H vs us Q I r h
 obtain⟨e,h⟩:=h
 subst e
 cases r
 exact assignInOrder_nil ⟨σ,H,I,h⟩
theorem DP{t:TG}{u:TGs}(h1:PG X e t)(h2:PGs X es u)
  (hs:(iU (e::es) X.env).map (·.2)=kM e X.env::(iU es X.env).map (·.2):=by rfl):PGs X (e::es) (Ft t u):=by
 intro pins s σ H vs us Q I r h
 obtain⟨v,vr,e1,h⟩:=h
 subst e1
 cases r with
 | cons r rr=>
  rw[hs]
  refine assignInOrder_cons (thn (h1 pins s σ H _ _ _ I r h) fun _ s1 gh=>?_)
  obtain⟨σ1,H1,I1,q1⟩:=gh
  exact h2 pins s1 σ1 H1 _ _ Q I1 rr q1
def Dx (K:aK)(n:Nat)(t:TGs):TG:=fun v σ H Q=>∃ a xs,v = .ref a/\SqT K H a xs/\xs.length=n/\t xs σ H Q
theorem QO{t:TGs}{n:Nat}(hc:X.calm=true)(h:PGs X es t)
  (hn:(iU es X.env).length=n:=by rfl) (hst:(iU es X.env).findIdx? (·.1)=none:=by rfl):PG X (.Tuple es k pos) (Dx X.K n t):=by
 intro pins s σ H v u Q I r hw
 obtain⟨a,xs,e1,hq,hl,hw⟩:=hw
 subst e1
 cases r
 obtain⟨its,rv,ht,hz⟩:=I.tuple hq
 refine assign_Tuple_tuple (I.ok.hd hc) ht (by simp[hn,← hl,rv.length]) hst fun h' hx=>?_
 have I1:Inv X pins σ H { s with heap:=h' }:=I.kept (t':=s.toks) fun b o e=>hx b o (dX (cA e)) e
 exact h pins _ σ H xs _ Q I1 (by simpa using rv) hw
def Dj (to ti:TE)(t:GV):TG:=fun v σ H Q=>to σ H fun o H1=>ti σ H1 fun i H2=>t o i v H2 fun H3=>Q σ H3
theorem Iv {o i:aS}{to ti:TE}{t:GV}(ho:PE X o to)(hi:PE X i ti)(hs:PL X t)
  (ha : ∀ v,kM (.Subscript o i pos) X.env v=(do
   let ov ← pT [v] (bM o X.env)
   let iv ← pT [v,ov] (bM i X.env)
   standAt pos
   pT [v,ov,iv] (setItem ov iv v)
   release [v,ov,iv] []):=by intro _; rfl):PG X (.Subscript o i pos) (Dj to ti t):=by
 intro pins s σ H v u Q I r h
 rw[ha]
 refine aH (kH (thn (ho pins s σ H _ I h) fun ov s1 gh=>?_))
 obtain⟨x,H1,I1,r1,q1⟩:=gh
 refine aH (kH (thn (hi pins s1 σ H1 _ I1 q1) fun iv s2 gh=>?_))
 obtain⟨y,H2,I2,r2,q2⟩:=gh
 refine aH (wpAny_standAt (aH (kH (thn (hs pins s2 σ H2 x y v ov iv u _ I2 r1 r2 r q2) fun _ s3 gh=>?_))))
 obtain⟨H3,I3,q3⟩:=gh
 exact wpAny_release ⟨σ,H3,I3,q3⟩
def GX (te:TE)(g:TG):TS:=fun D σ H=>te σ H fun x H1=>g x σ H1 D.nx
theorem Hj{te:TE}{g:TG}(he:PE X e te)(hg:PG X tg g)(hs:swapsWithSole [tg] e pos.line X.env=pure false:=by rfl)(hw:swappedStores [tg] e X.env=pure none:=by rfl)
  (h1:(iU [tg] X.env).map (·.2)=[kM tg X.env]:=by rfl):PS X (.Assign [tg] e pos) (GX te g):=by
 intro pins s σ H D I h
 refine wpAny_Assign_stores (thn (he pins s σ H _ I h) fun v s1 ⟨x,H1,I1,r1,q1⟩=>?_) hs hw
 rw[h1]
 exact thn (hg pins s1 σ H1 x v _ I1 r1 q1) fun _ s2 q=>q
theorem HU{te:TE}{pos':bR}(hN:X.N.Nodup)(hi:X.N[i]?=some x)(hx:jY X.env.scope x)(he:PE X e te)(hs:jU e (some (.Name x pos')) pos.line X.env=pure false:=by rfl)(hf:X.fn x=true \/ X.env.scope.names.lookup x=some .local:=by first | exact .inl rfl | exact .inr rfl | assumption) :
  PS X (.Assign [.Name x pos'] e pos) (GX te (FG i)):=by
 intro pins s σ H D I h
 refine wpAny_Assign_Name (thn (he pins s σ H _ I h) fun v s1 ⟨y,H1,I1,r1,q1⟩=>?_) hs
 exact SX I1 hN hi hx r1 (fun s2 I2=>⟨_,H1,I2,q1⟩) hf
end
section
variable {X:Cx}
def Ke (c:TT)(tb:TS):TS:=fun D σ H=>∃ W:Nat->St->Hp->Prop,(∃ m,W m σ H) /\ ∀ m σ H,W m σ H ->
 c σ H fun b H1=>if b=true then ∃ N:St->Hp->Prop,(∀ σ' H',N σ' H' -> ∃ m',m'<m/\W m' σ' H')/\tb { D with nx:=N,ct:=N,bk:=D.nx } σ H1 else D.nx σ H1
theorem Ul{tc:TT}{tb:TS}(hp:BB (aW X.prog X.w) X.A X.env X.xe)(hc:PT X c tc)(hb:PSs X body tb):PS X (.While c body [] pos) (Ke tc tb):=by
 intro pins s σ H D I h
 obtain⟨W,⟨m0,w0⟩,turn⟩:=h
 refine wpAny_While (codeAny_whileLoop (fun n s'=>∃ σ' H',Inv X pins σ' H' s'/\W n σ' H') ?_ m0 ⟨σ,H,I,w0⟩)
 rintro n s1 ⟨σ1,H1,I1,w1⟩
 refine xG hp (thn (hc pins s1 σ1 H1 _ I1 (turn n σ1 H1 w1)) fun b s2 gh=>?_)
 obtain⟨H2,I2,q2⟩:=gh
 cases b with
 | true=>
  obtain⟨N,hN,q2⟩:=q2
  rw[if_pos rfl]
  refine xG hp (thn (hb pins s2 σ1 H2 _ I2 q2) fun f s3 q3=>?_)
  cases f with
  | next=>
   obtain⟨σ3,H3,I3,n3⟩:=q3
   obtain⟨m',hm,w3⟩:=hN σ3 H3 n3
   exact⟨m',hm,σ3,H3,I3,w3⟩
  | cont=>
   obtain⟨σ3,H3,I3,n3⟩:=q3
   obtain⟨m',hm,w3⟩:=hN σ3 H3 n3
   exact⟨m',hm,σ3,H3,I3,w3⟩
  | brk=>exact q3
  | ret v=>exact q3
 | false=>
  rw[if_neg jG]
  exact NC ⟨σ1,H2,I2,q2⟩
end
structure It where
 go:Nat->Hp->Prop
 yld:Nat->Hp->V->Hp->Prop
 stop:Nat->Hp->Prop
def jA (X:Cx)(pins:List (aD×bG))(H:Hp)(b:aD):Prop:=
 H b=none/\b≠X.env.locals/\b∉X.fs/\(b∈X.ex \/ X.s₀.heap.objs.size≤b)/\(∀ x c,X.env.cells.lookup x=some c->c≠b) /\ ∀ p∈X.pn++pins,p.1≠b
theorem Inv.fpOk {X:Cx}{σ:St}{H H':Hp}(I:Inv X pins σ H s)(hb:s.heap.objs.size≤b)(hn:H' b=none):jA X pins H' b:=by
 refine⟨hn,nQ (jV I.lt hb),I.nofs hb,.inr (dS I.sz hb),fun x c e z=>?_,fun p hp z=>?_⟩
 ·obtain⟨v,q⟩:=I.cell x c e
  exact absurd (jV q.lt (by rw[z]; exact hb)) (lB _)
 ·exact absurd (jV (cA (I.pin p hp).1) (by rw[z]; exact hb)) (lB _)
structure Turn (P:cB)(w:bN)(K:aK)(tg:aS)(J:It)(fp:List aD)(it:aD)(tn:Nat->aY->Prop):Prop where
 mem:it∈fp
 obj : ∀ i h,tn i h -> ∀ b∈fp,∃ o,h.get? b=some o /\ ∀ v,o.data ≠ .cell v
 keep : ∀ i h h',tn i h->(∀ b∈fp,∀ o,h.get? b=some o->h'.get? b=some o)->tn i h'
 item : ∀ (X:Cx),X.prog=P->X.w=w->X.K=K->X.calm=true -> ∀ (i:Nat) (pins:List (aD×bG)) (s:aJ) (σ:St) (H:Hp) (E:aE->aJ->Prop),Inv X pins σ H s->(∀ b∈fp,jA X pins H b)->tn i s.heap->J.go i H ->
  aN (aW P w) X.A (iT (.ref it)) (fun r s1=>∃ u,r=some u /\
   aN (aW P w) X.A (NG tg (.ref it) u) (fun _ s2=>∃ x H',Inv X pins σ H' s2/\RelV x u/\J.yld i H x H'/\tn (i+1) s2.heap /\ ∀ b∈fp,H' b=none) E s1) E s
 done : ∀ (X:Cx),X.prog=P->X.w=w->X.K=K->X.calm=true -> ∀ (i:Nat) (pins:List (aD×bG)) (s:aJ) (σ:St) (H:Hp) (E:aE->aJ->Prop),Inv X pins σ H s->(∀ b∈fp,jA X pins H b)->tn i s.heap->J.stop i H ->
  aN (aW P w) X.A (iT (.ref it)) (fun r s1=>r=none/\Inv X pins σ H s1) E s
 self : ∀ (A:cO) (i:Nat) (s:aJ) (Q:aE->aJ->Prop) (E:aE->aJ->Prop),tn i s.heap->Q (.ref it) s->aN (aW P w) A (nN (.ref it)) Q E s
abbrev TI:=St->Hp->(It->Hp->Prop)->Prop
def PIE (X:Cx)(pins:List (aD×bG))(σ:St)(tg:aS)(R:It->Hp->Prop)(itv:aE)(s2:aJ):Prop:=
 ∃ (it:aD) (fp:List aD) (tn:Nat->aY->Prop) (J:It) (H':Hp),itv = .ref it/\Inv X pins σ H' s2/\Turn X.prog X.w X.K tg J fp it tn/\tn 0 s2.heap/\(∀ b∈fp,jA X pins H' b)/\R J H'
def PI (X:Cx)(tg iter:aS)(wi:TI):Prop:=
 ∀ (pins:List (aD×bG)) (s:aJ) (σ:St) (H:Hp) (R:It->Hp->Prop),Inv X pins σ H s->wi σ H R ->
  aN (aW X.prog X.w) X.A (bM iter X.env) (fun v s1=>aN (aW X.prog X.w) X.A (nN v) (PIE X pins σ tg R) X.xe s1) X.xe s
theorem AM{it:aD}{n:String}{vs:Array aE}{Q:Unit->aJ->Prop}(ho:s.heap.get? it=some o)(hc:o.cls = .type n)(hd:o.data = .fields vs)
    (hn:["enumerate","zip","dict_itemiterator","dict_reverseitemiterator","odict_iterator","itertools.zip_longest","itertools.pairwise"].contains n=false) (hQ:Q () s):aN M A (NG tg (.ref it) u) Q E s:=by
  unfold NG
  cases tg <;> first
    | exact aT hQ
    | (cases u <;> first
        | exact aT hQ
        | (refine aH (wpAny_load ho ?_)
           rw[hc,hd]
           show aN M A (if (["enumerate","zip","dict_itemiterator","dict_reverseitemiterator","odict_iterator","itertools.zip_longest","itertools.pairwise"].contains n&&vs[0]? == some (jF _))=true then _ else _) Q E s
           rw[if_neg (by intro h; rw[hn,Bool.false_and] at h; cases h)]
           exact aT hQ))
def GR (K:aK)(a:aD):It:=
 ⟨fun i H=>∃ xs x,SqL K H a xs/\xs[i]?=some x,fun i H x H'=>H'=H /\ ∀ xs,SqL K H a xs->xs[i]?=some x,fun i H=>∃ xs,SqL K H a xs/\xs.length≤i⟩
def GP (K:aK)(a:aD):It:=
 ⟨fun i H=>∃ xs x,SqT K H a xs/\xs[i]?=some x,fun i H x H'=>H'=H /\ ∀ xs,SqT K H a xs->xs[i]?=some x,fun i H=>∃ xs,SqT K H a xs/\xs.length≤i⟩
def BV (lo:Int)(n:Nat):It:=⟨fun i _=>i<n,fun i H x H'=>H'=H/\x = .int (lo+i),fun i _=>n≤i⟩
theorem Wp {P:cB}{w:bN}(a it:aD):Turn P w K tg (GR K a) [it] it (fun i h=>h.IsListIter it a i) where
 mem:=by simp
 obj:=fun i h st b hb=>by
  have e:b=it:=by simpa using hb
  subst e
  obtain⟨o,e,c,d⟩:=st
  exact⟨o,e,fun v z=>by rw[d] at z; cases z⟩
 keep:=fun i h h' st k=>st.at fun o e=>k it (by simp) o e
 item:=by
  intro X hP hw hK hc i pins s σ H E I hf st hg
  subst hP hw hK
  obtain⟨xs,x,hq,hx⟩:=hg
  obtain⟨its,rv,p,hz⟩:=I.list hq
  obtain⟨u,hu,ru⟩:=rv.get hx
  obtain⟨f0,f1,f2,f3,f4,f5⟩:=hf it (by simp)
  refine wpAny_pyNext_list_item st p.isList (x:=u) (by simpa using hu) fun h' st' sb=>?_
  have I1:Inv X pins σ H { s with heap:=h' }:=I.turned (t':=s.toks) (fun b o hb e=>(sb.2 b hb).trans e) f0 f1 f3 f4 f5
  obtain⟨o,e,c,d⟩:=id st'
  exact⟨u,rfl,AM (s:={ s with heap:=h' }) e c d (by decide) ⟨x,H,I1,ru,⟨rfl,fun ys hy=>by rw[I.list_inj hy hq]; exact hx⟩,st',fun b hb=>(hf b hb).1⟩⟩
 done:=by
  intro X hP hw hK hc i pins s σ H E I hf st hg
  subst hP hw hK
  obtain⟨xs,hq,hx⟩:=hg
  obtain⟨its,rv,p,hz⟩:=I.list hq
  obtain⟨f0,f1,f2,f3,f4,f5⟩:=hf it (by simp)
  have hl:=rv.length
  exact wpAny_pyNext_list_end (I.ok.hd hc) st p.isList (by simp; omega) fun h' eb=>⟨rfl,I.turned (t':=s.toks) (fun b o hb e=>eb b o hb e) f0 f1 f3 f4 f5⟩
 self:=fun _ _ _ _ _ st h=>wpAny_pyIter_listiter st h
theorem Pf {P:cB}{w:bN}(a it:aD):Turn P w K tg (GP K a) [it] it (fun i h=>h.IsTupleIter it a i) where
 mem:=by simp
 obj:=fun i h st b hb=>by
  have e:b=it:=by simpa using hb
  subst e
  obtain⟨o,e,c,d⟩:=st
  exact⟨o,e,fun v z=>by rw[d] at z; cases z⟩
 keep:=fun i h h' st k=>st.at fun o e=>k it (by simp) o e
 item:=by
  intro X hP hw hK hc i pins s σ H E I hf st hg
  subst hP hw hK
  obtain⟨xs,x,hq,hx⟩:=hg
  obtain⟨its,rv,p,hz⟩:=I.tuple hq
  obtain⟨u,hu,ru⟩:=rv.get hx
  obtain⟨f0,f1,f2,f3,f4,f5⟩:=hf it (by simp)
  refine wpAny_pyNext_tuple_item st (show s.heap.IsTuple a its.toArray from p) (x:=u) (by simpa using hu) fun h' st' sb=>?_
  have I1:Inv X pins σ H { s with heap:=h' }:=I.turned (t':=s.toks) (fun b o hb e=>(sb.2 b hb).trans e) f0 f1 f3 f4 f5
  obtain⟨o,e,c,d⟩:=id st'
  exact⟨u,rfl,AM (s:={ s with heap:=h' }) e c d (by decide) ⟨x,H,I1,ru,⟨rfl,fun ys hy=>by rw[I.tuple_inj hy hq]; exact hx⟩,st',fun b hb=>(hf b hb).1⟩⟩
 done:=by
  intro X hP hw hK hc i pins s σ H E I hf st hg
  subst hP hw hK
  obtain⟨xs,hq,hx⟩:=hg
  obtain⟨its,rv,p,hz⟩:=I.tuple hq
  obtain⟨f0,f1,f2,f3,f4,f5⟩:=hf it (by simp)
  have hl:=rv.length
  exact wpAny_pyNext_tuple_end (I.ok.hd hc) st (show s.heap.IsTuple a its.toArray from p) (by simp; omega) fun h' eb=>⟨rfl,I.turned (t':=s.toks) (fun b o hb e=>eb b o hb e) f0 f1 f3 f4 f5⟩
 self:=fun _ _ _ _ _ st h=>wpAny_pyIter_tupleiter st h
theorem Ox {P:cB}{w:bN}(it:aD)(lo:Int)(n:Nat):Turn P w K tg (BV lo n) [it] it (fun i h=>IsRangeIter h it (lo+(i:Nat)*1) ((n:Int) - (i:Nat)) 1) where
 mem:=by simp
 obj:=fun i h st b hb=>by
  have e:b=it:=by simpa using hb
  subst e
  exact⟨_,st,fun v z=>by
   have z':Data.fields _=Data.cell v:=z
   cases z'⟩
 keep:=fun i h h' st k=>k it (by simp) _ st
 item:=by
  intro X hP hw hK hc i pins s σ H E I hf st hg
  subst hP hw hK
  obtain⟨f0,f1,f2,f3,f4,f5⟩:=hf it (by simp)
  have W:=Walks.range (prog:=X.prog) (w:=X.w) (I.ok.hd hc) it lo 1 n
  refine W.item i s _ _ hg st fun v h' tk hv st' kk=>?_
  obtain⟨t,rfl⟩:=hv
  have I1:Inv X pins σ H { s with heap:=h',toks:=tk }:=I.turned (fun b o hb e=>kk b o (by simpa using hb) e) f0 f1 f3 f4 f5
  refine⟨_,rfl,AM (s:={ s with heap:=h',toks:=tk }) (n:="range_iterator") st' rfl rfl (by decide) ⟨.int (lo+i),H,I1,⟨t,?_⟩,⟨rfl,rfl⟩,st',fun b hb=>(hf b hb).1⟩⟩
  rw[Int.mul_one]
 done:=by
  intro X hP hw hK hc i pins s σ H E I hf st hg
  subst hP hw hK
  obtain⟨f0,f1,f2,f3,f4,f5⟩:=hf it (by simp)
  exact wpAny_pyNext_range_end (I.ok.hd hc) st (by have:n≤i:=hg; omega) fun h' eb=>⟨rfl,I.turned (t':=s.toks) (fun b o hb e=>eb b o hb e) f0 f1 f3 f4 f5⟩
 self:=fun _ _ _ _ _ st h=>wpAny_pyIter_rangeiter st h
section
variable {X:Cx}
def Ep (K:aK)(tl:TE):TI:=fun σ H R=>tl σ H fun x H1=>∃ a,x = .ref a/\(∃ xs,SqL K H1 a xs)/\R (GR K a) H1
def Dr (K:aK)(tl:TE):TI:=fun σ H R=>tl σ H fun x H1=>∃ a,x = .ref a/\(∃ xs,SqT K H1 a xs)/\R (GP K a) H1
theorem Nd {l:aS}{tl:TE}(hl:PE X l tl):PI X tg l (Ep X.K tl):=by
 intro pins s σ H R I h
 refine thn (hl pins s σ H _ I h) fun v s1 gh=>?_
 obtain⟨x,H1,I1,r1,q1⟩:=gh
 obtain⟨a,e,⟨xs,hq⟩,q⟩:=q1
 subst e
 cases r1
 obtain⟨its,rv,p,hz⟩:=I1.list hq
 refine FN p.isList ?_
 refine⟨s1.heap.objs.size,[s1.heap.objs.size],_,_,H1,rfl,I1.kept (t':=s1.toks) fun b o e=>cC _ e,Wp a _,⟨_,dQ _ rfl,rfl,rfl⟩,fun b hb=>?_,q⟩
 have e:b=s1.heap.objs.size:=by simpa using hb
 subst e
 exact I1.fpOk (bI _) (I1.hok.fresh (bI _))
theorem Gw {l:aS}{tl:TE}(hl:PE X l tl):PI X tg l (Dr X.K tl):=by
 intro pins s σ H R I h
 refine thn (hl pins s σ H _ I h) fun v s1 gh=>?_
 obtain⟨x,H1,I1,r1,q1⟩:=gh
 obtain⟨a,e,⟨xs,hq⟩,q⟩:=q1
 subst e
 cases r1
 obtain⟨its,rv,p,hz⟩:=I1.tuple hq
 refine wpAny_pyIter_tuple (show s1.heap.IsTuple a its.toArray from p) ?_
 refine⟨s1.heap.objs.size,[s1.heap.objs.size],_,_,H1,rfl,I1.kept (t':=s1.toks) fun b o e=>cC _ e,Pf a _,⟨_,dQ _ rfl,rfl,rfl⟩,fun b hb=>?_,q⟩
 have e:b=s1.heap.objs.size:=by simpa using hb
 subst e
 exact I1.fpOk (bI _) (I1.hok.fresh (bI _))
theorem Vb{σ:St}{H:Hp}{R:It->Hp->Prop}{lo hi:Int}{t u v:Tok}{tk:Nat}(I:Inv X pins σ H s)(h1 : -(2 ^ 62)≤lo)(h2:lo<2 ^ 62)(h3 : -(2 ^ 62)≤hi)(h4:hi<2 ^ 62)
  (q:R (BV lo (hi - lo).toNat) H):aN (aW X.prog X.w) X.A (nN (.ref s.heap.objs.size)) (PIE X pins σ tg R) E { s with heap:=s.heap.push { cls:=.type "range",data:=.fields #[.int lo t,.int hi u,.int 1 v] },toks:=tk }:=by
 refine wpAny_pyIter_range (IsRange.new ..) (small_one h1 h2 h3 h4) ?_
 have I1:Inv X pins σ H { s with heap:=s.heap.push { cls:=.type "range",data:=.fields #[.int lo t,.int hi u,.int 1 v] },toks:=tk }:=I.kept fun b o e=>cC _ e
 refine⟨(s.heap.push { cls:=.type "range",data:=.fields #[.int lo t,.int hi u,.int 1 v] }).objs.size,[(s.heap.push { cls:=.type "range",data:=.fields #[.int lo t,.int hi u,.int 1 v] }).objs.size],_,_,H,rfl,
  I1.kept (t':=tk) fun b o e=>cC _ e,Ox _ lo (hi - lo).toNat,?_,fun b hb=>?_,q⟩
 ·have e1:lo+((0:Nat):Int)*1=lo:=by simp
  have e2:(((hi - lo).toNat:Nat):Int) - ((0:Nat):Int)=Builtin.Range.rangeSize lo hi 1:=by rw[rangeSize_one]; split <;> omega
  show IsRangeIter _ _ (lo+((0:Nat):Int)*1) ((((hi - lo).toNat:Nat):Int) - ((0:Nat):Int)) 1
  rw[e1,e2]
  exact dQ _ rfl
 ·have e:b=(s.heap.push { cls:=.type "range",data:=.fields #[.int lo t,.int hi u,.int 1 v] }).objs.size:=by simpa using hb
  subst e
  exact I1.fpOk (bI _) (I1.hok.fresh (bI _))
def Fg (ta:TA):TI:=fun σ H R=>ta σ H fun vs H1=>∃ j:Int,vs=[.int j] /\ -(2 ^ 62)≤j/\j<2 ^ 62/\R (BV 0 j.toNat) H1
theorem Ws {a:aS}{ta:TA}(hg:Gl X "range")(hm:X.mg "range" = none)(ha:PA X [a] ta)(hs:bK [a] X.env=[(false,bM a X.env)]:=by rfl):PI X tg (.Call (.Name "range" p) [a] [] pos) (Fg ta):=by
 intro pins s σ H R I h
 refine Call_ (yO I hg hm boot_range (Bv (thn (ha pos pins s σ H _ I h) fun us s1 ⟨vs,H1,I1,r1,q1⟩=>?_) hs rfl))
 obtain⟨j,e,q1,q2,q⟩:=q1
 subst e
 cases r1 with
 | cons r rr=>
  cases rr
  obtain⟨t,rfl⟩:=r
  exact call_range_1 (Vb I1 (by omega) (by omega) q1 q2 (by simpa using q))
def Dm (wi:TI)(g:TG)(tb:TS):TS:=fun D σ H=>wi σ H fun J H1=>∃ W:Nat->Nat->St->Hp->Prop,(∃ m,W 0 m σ H1) /\ ∀ i m σ H,W i m σ H ->
 (J.stop i H/\D.nx σ H) \/ (J.go i H /\ ∃ N:St->Hp->Prop,(∀ σ' H',N σ' H' -> ∃ m',m'<m/\W (i+1) m' σ' H') /\ ∀ x H',J.yld i H x H'->g x σ H' fun σ2 H2=>tb { D with nx:=N,ct:=N,bk:=D.nx } σ2 H2)
def yN (fp:List aD)(h:aY):List (aD×bG):=fp.filterMap fun b=>(h.get? b).map fun o=>(b,o)
theorem EL(hb:b∈fp)(e:h.get? b=some o):(b,o)∈yN fp h:=xP.mpr ⟨b,hb,by rw[e]; rfl⟩
theorem Yb{p:aD×bG}(hp:p∈yN fp h):p.1∈fp/\h.get? p.1=some p.2:=by
 obtain⟨b,hb,e⟩:=xP.mp hp
 cases q:h.get? b with
 | none=>rw[q] at e; cases e
 | some o=>
  rw[q] at e
  have e':(b,o)=p:=eY e
  subst e'
  exact⟨hb,q⟩
theorem Inv.pinned{σ:St}{H:Hp}(I:Inv X pins σ H s)(hf : ∀ b∈fp,jA X pins H b)(ho : ∀ b∈fp,∃ o,s.heap.get? b=some o /\ ∀ v,o.data ≠ .cell v):Inv X (pins++yN fp s.heap) σ H s:=
 I.pins_of fun p hp=>(fY.mp hp).elim (fun z=>I.pin p (mR _ z)) fun z=>by
  obtain⟨hb,e⟩:=Yb z
  obtain⟨f0,f1,f2,_⟩:=hf p.1 hb
  obtain⟨o,e',d⟩:=ho p.1 hb
  rw[e] at e'; cases e'
  exact⟨e,f0,f1,f2,d⟩
theorem Inv.unpinned {pl:List (aD×bG)}{σ:St}{H:Hp}(I:Inv X (pins++pl) σ H s):Inv X pins σ H s:=I.pins_of fun p hp=>I.pin p (mR _ (BJ _ hp))
theorem Iy {iter:aS}{wi:TI}{g:TG}{tb:TS}(hp:BB (aW X.prog X.w) X.A X.env X.xe)(hc:X.calm=true)(hi:PI X tg iter wi)(hg:PG X tg g)(hb:PSs X body tb)
  (hs : ∀ x,uE iter X.env x=pure x:=by intro _; rfl):PS X (.For tg iter body [] pos) (Dm wi g tb):=by
 intro pins s σ H D I h
 refine wpAny_For (thn (hi pins s σ H _ I h) fun v s1 h1=>thn h1 fun itv s2 h2=>?_) hs
 obtain⟨it,fp,tn,J,H2,e,I2,T,st2,f2,W,⟨m0,w0⟩,turn⟩:=h2
 subst e
 have stat : ∀ {H':Hp},(∀ b∈fp,H' b=none) -> ∀ b∈fp,jA X pins H' b:=fun hn b hb=>⟨hn b hb,(f2 b hb).2⟩
 refine codeAny_forLoop_any (fun n s'=>∃ i σ' H',Inv X pins σ' H' s'/\tn i s'.heap/\(∀ b∈fp,H' b=none)/\W i n σ' H') ?_ m0 ⟨0,σ,H2,I2,st2,fun b hb=>(f2 b hb).1,w0⟩
 rintro n s3 ⟨i,σ3,H3,I3,st3,fr3,w3⟩
 rcases turn i n σ3 H3 w3 with⟨stop,qn⟩ | ⟨go,N,hN,step⟩
 ·refine xG hp (thn (T.done X rfl rfl rfl hc i pins s3 σ3 H3 X.xe I3 (stat fr3) st3 stop) fun r s4 gh=>?_)
  obtain⟨hr,I4⟩:=gh
  subst hr
  exact NC ⟨σ3,H3,I4,qn⟩
 ·refine xG hp (thn (T.item X rfl rfl rfl hc i pins s3 σ3 H3 X.xe I3 (stat fr3) st3 go) fun r s4 gh=>?_)
  obtain⟨u,hr,h4⟩:=gh
  subst hr
  refine xG hp (thn h4 fun _ s5 gh=>?_)
  obtain⟨x,H5,I5,r5,y5,st5,fr5⟩:=gh
  have I5':=I5.pinned (stat fr5) (T.obj _ _ st5)
  refine xG hp (thn (hg _ s5 σ3 H5 x u _ I5' r5 (step x H5 y5)) fun _ s6 gh=>?_)
  obtain⟨σ6,H6,I6,q6⟩:=gh
  refine xG hp (thn (hb _ s6 σ6 H6 _ I6 q6) fun f s7 q7=>?_)
  have again : ∀ {σ7:St} {H7:Hp},Inv X (pins++yN fp s5.heap) σ7 H7 s7->N σ7 H7 -> ∃ m,m<n /\ ∃ i σ' H',Inv X pins σ' H' s7/\tn i s7.heap/\(∀ b∈fp,H' b=none)/\W i m σ' H':=fun {σ7 H7} I7 n7=>by
   obtain⟨m',hm,w7⟩:=hN σ7 H7 n7
   refine⟨m',hm,i+1,σ7,H7,I7.unpinned,T.keep _ _ _ st5 fun b hb o e=>(I7.pin (b,o) (mR _ (mR _ (EL hb e)))).1,fun b hb=>?_,w7⟩
   obtain⟨o,e,d⟩:=T.obj _ _ st5 b hb
   exact(I7.pin (b,o) (mR _ (mR _ (EL hb e)))).2.1
  cases f with
  | next=>obtain⟨σ7,H7,I7,n7⟩:=q7; exact again I7 n7
  | cont=>obtain⟨σ7,H7,I7,n7⟩:=q7; exact again I7 n7
  | brk=>obtain⟨σ7,H7,I7,q7⟩:=q7; exact⟨σ7,H7,I7.unpinned,q7⟩
  | ret v=>obtain⟨x7,σ7,H7,I7,r7,q7⟩:=q7; exact⟨x7,σ7,H7,I7.unpinned,r7,q7⟩
end
abbrev R2:=V->V->Hp->VK->Prop
def OpR (X:Cx)(f:aE->aE->Sem aE)(r:R2):Prop:=
 ∀ (pins:List (aD×bG)) (s:aJ) (σ:St) (H:Hp) (x y:V) (v u:aE) (Q:VK),Inv X pins σ H s->RelV x v->RelV y u->r x y H Q ->
  aN (aW X.prog X.w) X.A (f v u) (EP X pins σ Q) X.xe s
def UnR (X:Cx)(f:aE->Sem aE)(r:V->Hp->VK->Prop):Prop:=
 ∀ (pins:List (aD×bG)) (s:aJ) (σ:St) (H:Hp) (x:V) (v:aE) (Q:VK),Inv X pins σ H s->RelV x v->r x H Q ->
  aN (aW X.prog X.w) X.A (f v) (EP X pins σ Q) X.xe s
def Aek (X:Cx)(f:aE)(r:List V->Hp->VK->Prop):Prop:=
 ∀ (pins:List (aD×bG)) (s:aJ) (σ:St) (H:Hp) (xs:List V) (us:List aE) (Q:VK),Inv X pins σ H s->Vals xs us->r xs H Q ->
  aN (aW X.prog X.w) X.A (call f us) (EP X pins σ Q) X.xe s
def tOp (r:R2)(ta tb:TE):TE:=fun σ H Q=>ta σ H fun x H1=>tb σ H1 fun y H2=>r x y H2 Q
def tUn (r:V->Hp->VK->Prop)(ta:TE):TE:=fun σ H Q=>ta σ H fun x H1=>r x H1 Q
def rI (C:Int->Int->Prop)(g:Int->Int->V):R2:=fun x y H Q=>∃ i j,x = .int i/\y = .int j/\C i j/\Q (g i j) H
def rI0 (g:Int->Int->V):R2:=fun x y H Q=>∃ i j,x = .int i/\y = .int j/\Q (g i j) H
def rU (g:Int->V):V->Hp->VK->Prop:=fun x H Q=>∃ i,x = .int i/\Q (g i) H
section
variable {X:Cx}{a b:aS}{ta tb tc:TE}
theorem HH (ha:PE X a ta)(hb:PE X b tb){σ:St}{H:Hp}{R:V->V->Hp->Prop}(I:Inv X pins σ H s)
  (h:ta σ H fun x H1=>tb σ H1 fun y H2=>R x y H2) {Q:aE->aJ->Prop} {f:aE->aE->Sem aE}
  (hf : ∀ v u s2 x y H2,Inv X pins σ H2 s2->RelV x v->RelV y u->R x y H2->aN (aW X.prog X.w) X.A (f v u) Q X.xe s2) :
  aN (aW X.prog X.w) X.A (bM a X.env) (fun v s₁=>aN (aW X.prog X.w) X.A (bM b X.env) (fun u s₂=>aN (aW X.prog X.w) X.A (f v u) Q X.xe s₂) X.xe s₁) X.xe s:=by
 refine thn (ha pins s σ H _ I h) fun v s1 gh=>?_
 obtain⟨x,H1,I1,r1,q1⟩:=gh
 refine thn (hb pins s1 σ H1 _ I1 q1) fun u s2 gh=>?_
 obtain⟨y,H2,I2,r2,q2⟩:=gh
 exact hf v u s2 x y H2 I2 r1 r2 q2
theorem Fj {op:Operator}{r:R2}(ho:OpR X (kK op) r)(ha:PE X a ta)(hb:PE X b tb):PE X (.BinOp a op b pos) (tOp r ta tb):=by
 intro pins s σ H Q I h
 exact wpAny_BinOp (HH ha hb I h fun v u s2 x y H2 I2 rx ry q=>ho pins s2 σ H2 x y v u Q I2 rx ry q)
theorem Es {op:UnaryOp}{r:V->Hp->VK->Prop}(ho:UnR X (unaryOp op) r)(ha:PE X a ta):PE X (.UnaryOp op a pos) (tUn r ta):=by
 intro pins s σ H Q I h
 exact UnaryOp_ (thn (ha pins s σ H _ I h) fun v s1 ⟨x,H1,I1,r1,q1⟩=>ho pins s1 σ H1 x v Q I1 r1 q1)
theorem opI{C:Int->Int->Prop}{g:Int->Int->Int}
  (rule : ∀ (i j:Int) (t u:Tok) (s:aJ) (Q:aE->aJ->Prop) (E:aE->aJ->Prop),C i j->Q (.int (g i j) s.toks) { s with toks:=s.toks+1 }->aN (aW X.prog X.w) X.A (f (.int i t) (.int j u)) Q E s) :
  OpR X f (rI C fun i j=>.int (g i j)):=by
 intro pins s σ H x y v u Q I rx ry h
 obtain⟨i,j,rfl,rfl,hc,q⟩:=h
 obtain⟨t,rfl⟩:=rx
 obtain⟨t',rfl⟩:=ry
 exact rule i j t t' s _ _ hc ⟨.int (g i j),H,I.tok _,⟨_,rfl⟩,q⟩
theorem OV{g:Int->Int->Int}
  (rule : ∀ (i j:Int) (t u:Tok) (s:aJ) (Q:aE->aJ->Prop) (E:aE->aJ->Prop),Q (.int (g i j) s.toks) { s with toks:=s.toks+1 }->aN (aW X.prog X.w) X.A (f (.int i t) (.int j u)) Q E s) :
  OpR X f (rI0 fun i j=>.int (g i j)):=by
 intro pins s σ H x y v u Q I rx ry h
 obtain⟨i,j,rfl,rfl,q⟩:=h
 obtain⟨t,rfl⟩:=rx
 obtain⟨t',rfl⟩:=ry
 exact rule i j t t' s _ _ ⟨.int (g i j),H,I.tok _,⟨_,rfl⟩,q⟩
theorem PD{g:Int->Int->Bool}
  (rule : ∀ (i j:Int) (t u:Tok) (s:aJ) (Q:aE->aJ->Prop) (E:aE->aJ->Prop),Q (.bool (g i j)) s->aN (aW X.prog X.w) X.A (f (.int i t) (.int j u)) Q E s) :
  OpR X f (rI0 fun i j=>.bl (g i j)):=by
 intro pins s σ H x y v u Q I rx ry h
 obtain⟨i,j,rfl,rfl,q⟩:=h
 obtain⟨t,rfl⟩:=rx
 obtain⟨t',rfl⟩:=ry
 exact rule i j t t' s _ _ ⟨.bl (g i j),H,I,rfl,q⟩
def Ed (i j:Int):Prop:=0<j/\j<1073741824
def Dt (i j:Int):Prop:=0≤j/\j≤1000000/\i.natAbs<2 ^ 64
def Bhc (i j:Int):Prop:=(-(2 ^ 64)<i/\i<2 ^ 64) \/ (-(2 ^ 64)<j/\j<2 ^ 64)
theorem Bhc.ok {i j:Int}(h:Bhc i j):IntMulOk i j:=by
 rcases h with⟨h1,h2⟩ | ⟨h1,h2⟩
 ·exact .of_left (intBits_le_64 h1 h2)
 ·exact .of_right (intBits_le_64 h1 h2)
theorem Bfv:OpR X (kK .Add) (rI0 fun i j=>.int (i+j)):=OV fun _ _ _ _ _ _ _ q=>add_int q
theorem Kb:OpR X (kK .Sub) (rI0 fun i j=>.int (i - j)):=OV fun _ _ _ _ _ _ _ q=>sub_int q
theorem Ib:OpR X (kK .Mult) (rI Bhc fun i j=>.int (i*j)):=opI fun _ _ _ _ _ _ _ hc q=>mul_int q hc.ok
theorem Lf:OpR X (kK .FloorDiv) (rI Ed fun i j=>.int (i / j)):=opI fun i j _ _ _ _ _ hc q=>by
 have h1:(0:Int)<j:=hc.1
 have h2:j<1073741824:=hc.2
 exact floordiv_int (by omega) (by rw[Int.fdiv_eq_ediv_of_nonneg i (by omega)]; exact q) (.inl (PyProof.noPylong_small (by omega)))
theorem Gg:OpR X (kK .Mod) (rI (fun _ j=>0<j) fun i j=>.int (i%j)):=opI fun i j _ _ _ _ _ hc q=>by
 have h1:(0:Int)<j:=hc
 exact mod_int' (by omega) (by rw[Int.fmod_eq_emod_of_nonneg i (by omega)]; exact q)
theorem Hf:OpR X (kK .Pow) (rI Dt fun i j=>.int (i ^ j.toNat)):=opI fun _ _ _ _ _ _ _ hc q=>pow_int_small hc.1 hc.2.1 hc.2.2 q
theorem unI {f:aE->Sem aE}{g:Int->Int}
  (rule : ∀ (i:Int) (t:Tok) (s:aJ) (Q:aE->aJ->Prop) (E:aE->aJ->Prop),Q (.int (g i) s.toks) { s with toks:=s.toks+1 }->aN (aW X.prog X.w) X.A (f (.int i t)) Q E s) :
  UnR X f (rU fun i=>.int (g i)):=by
 intro pins s σ H x v Q I rx h
 obtain⟨i,rfl,q⟩:=h
 obtain⟨t,rfl⟩:=rx
 exact rule i t s _ _ ⟨.int (g i),H,I.tok _,⟨_,rfl⟩,q⟩
theorem Hk:UnR X (unaryOp .USub) (rU fun i=>.int (-i)):=unI fun _ _ _ _ _ q=>neg_int q
end
section
variable {X:Cx}{a b:aS}{ta tb tc:TE}
theorem HW{σ:St}{H:Hp}{Q:VK}{k k':Bool}(I:Inv X pins σ H s)(q:Q (.bl k) H)(e:k=k'):EP X pins σ Q (.bool k') s:=by
 subst e
 exact⟨.bl k,H,I,rfl,q⟩
theorem Bcr:OpR X (kJ .Lt) (rI0 fun i j=>.bl (decide (i<j))):=PD fun _ _ _ _ _ _ _ q=>lt_int q
theorem FE:OpR X (kJ .Gt) (rI0 fun i j=>.bl (decide (j<i))):=PD fun _ _ _ _ _ _ _ q=>gt_int q
theorem KL:OpR X (kJ .Lt) (fun x y H Q=>∃ i j,x = .str i/\y = .str j/\Q (.bl (decide (i.cps.toList<j.cps.toList))) H):=by
 intro pins s σ H x y v u Q I rx ry h
 obtain⟨i,j,rfl,rfl,q⟩:=h
 obtain⟨t,rfl⟩:=rx
 obtain⟨t',rfl⟩:=ry
 exact lt_str (HW I q rfl)
theorem Xa:OpR X (kJ .In) (fun x y H Q=>∃ i j,x = .str i/\y = .str j/\Q (.bl (!(Cw j i 0 j.length 1).isEmpty)) H):=by
 intro pins s σ H x y v u Q I rx ry h
 obtain⟨i,j,rfl,rfl,q⟩:=h
 obtain⟨t,rfl⟩:=rx
 obtain⟨t',rfl⟩:=ry
 exact in_str (HW I q rfl)
theorem DJ:OpR X (kJ .IsNot) (fun x y H Q=>y = .non/\Q (.bl (!decide (x = .non))) H):=by
 intro pins s σ H x y v u Q I rx ry h
 obtain⟨rfl,q⟩:=h
 cases ry
 refine isnot_none_gen (HW I q ?_)
 cases x <;> first
  | (cases rx; rfl)
  | (obtain⟨t,rfl⟩:=rx; rfl)
theorem OpR.or{r r':R2}(h:OpR X f r)(h':OpR X f r'):OpR X f (fun x y H Q=>r x y H Q \/ r' x y H Q):=by
 intro pins s σ H x y v u Q I rx ry q
 rcases q with q | q
 ·exact h pins s σ H x y v u Q I rx ry q
 ·exact h' pins s σ H x y v u Q I rx ry q
theorem fE (b:aS)(h:op ≠ .In:=by decide)(h2:op ≠ .NotIn:=by decide):uF op b=false:=by
 have e1:(op == CmpOp.In)=false:=by cases op <;> first | rfl | exact absurd rfl h
 have e2:(op == CmpOp.NotIn)=false:=by cases op <;> first | rfl | exact absurd rfl h2
 cases b <;> simp[uF,e1,e2]
theorem QV{r:R2}(ho:OpR X (kJ op) r)(ha:PE X a ta)(hb:PE X b tb)(hm:uF op b=false):PE X (.Compare a [op] [b] pos) (tOp r ta tb):=by
 intro pins s σ H Q I h
 exact wpAny_Compare1 (HH ha hb I h fun v u s2 x y H2 I2 rx ry q=>ho pins s2 σ H2 x y v u Q I2 rx ry q) hm
def Fm (t:TE):TT:=fun σ H Q=>t σ H fun x H'=>∃ k,x = .bl k/\Q k H'
theorem Ax{r:R2}(ho:OpR X (kJ op) r)(ha:PE X a ta)(hb:PE X b tb)(hm:uF op b=false):PT X (.Compare a [op] [b] pos) (Fm (tOp r ta tb)):=by
 intro pins s σ H Q I h
 refine wpAny_isTrue_Compare1 (thn (ha pins s σ H _ I h) fun v s1 ⟨x,H1,I1,r1,q1⟩=>thn (hb pins s1 σ H1 _ I1 q1) fun u s2 ⟨y,H2,I2,r2,q2⟩=>
  thn (ho pins s2 σ H2 x y v u _ I2 r1 r2 q2) fun c s3 ⟨z,H3,I3,r3,k,e,q3⟩=>?_) hm
 subst e
 cases r3
 exact MW ⟨H3,I3,q3⟩
theorem qS:(sizeLine:Nat)<2 ^ 63:=by rw[xI]; decide
theorem Axa:OpR X (kK .Add) (fun x y H Q=>∃ i j,x = .str i/\y = .str j/\i.length+j.length≤sizeLine/\Q (.str (i++j)) H):=by
 intro pins s σ H x y v u Q I rx ry h
 obtain⟨i,j,rfl,rfl,hz,q⟩:=h
 obtain⟨t,rfl⟩:=rx
 obtain⟨t',rfl⟩:=ry
 exact add_str (fun t' tk=>⟨.str (i++j),H,I.tok _,⟨_,rfl⟩,q⟩) hz
theorem vals1 {x:V}(r:Vals [x] us) : ∃ u,us=[u]/\RelV x u:=by
 cases r with
 | cons r1 r2=>cases r2; exact⟨_,rfl,r1⟩
theorem vals2 {x y:V}(r:Vals [x,y] us) : ∃ u w',us=[u,w']/\RelV x u/\RelV y w':=by
 cases r with
 | cons r1 r2=>
  cases r2 with
  | cons r3 r4=>cases r4; exact⟨_,_,rfl,r1,r3⟩
theorem VP (hc:X.calm=true):Aek X (.builtin "max") (fun xs H Q=>∃ i j,xs=[.int i,.int j]/\Q (.int (if j > i then j else i)) H):=by
 intro pins s σ H xs us Q I r h
 obtain⟨i,j,rfl,q⟩:=h
 obtain⟨u,w',rfl,⟨t,rfl⟩,⟨t',rfl⟩⟩:=vals2 r
 refine max_two_ints (I.ok.hd hc) fun h' tk k=>⟨_,H,I.kept k,?_,q⟩
 by_cases hj:j > i
 ·rw[if_pos hj,if_pos hj]; exact⟨_,rfl⟩
 ·rw[if_neg hj,if_neg hj]; exact⟨_,rfl⟩
end
structure ObjM (h:aY)(x dx C:aD)(mA:aC->Option aE):Prop where
 obj:h.get? x=some (Bn C dx)
 ns:h.Ns1 dx mA
 ne:dx≠x
theorem Nz{mA:aC->Option aE}(n:h.Ns1 dx mA) : ∃ od,h.get? dx=some od /\ ∀ name,Bi name od=some (mA name):=by
 obtain⟨o,es,ep,ho,hd,hk,_,hm⟩:=n
 refine⟨o,ho,fun name=>?_⟩
 have e:=hm name
 unfold nsFind findBy at e
 rw[← Array.find?_toList] at e
 unfold Bi
 rw[hd]
 dsimp only
 split
 ·rename_i y q
  rw[q] at e
  exact congrArg some e
 ·rename_i q
  rw[q] at e
  have a:es.toList.any (·.refKey)=false:=by
   rw[List.any_eq_false]
   intro y hy
   obtain⟨z,t,hkey⟩:=hk y (Array.mem_toList_iff.mp hy)
   simp[DictEntry.refKey,hkey]
  have a' : ¬ es.toList.any (·.refKey)=true:=by rw[a]; exact jG
  rw[if_neg a']
  exact congrArg some e
theorem ObjM.look{x:aD}{mA:aC->Option aE}(I:ObjM h x dx C mA) : ∃ od,PySem.W.InstAt h x (Bn C dx) C (some od) /\ ∀ name,Bi name od=some (mA name):=
 let ⟨od,ho,hl⟩:=Nz I.ns
 ⟨od,⟨I.obj,rfl,rfl,ho⟩,hl⟩
theorem Atp.some_of {v:V}{o:Option aE}(r:Atp (some v) o) : ∃ u,o=some u/\RelV v u:=by
 cases o with
 | none=>exact(show False from r).elim
 | some u=>exact⟨u,rfl,r⟩
theorem Atp.none_of {o:Option aE}(r:Atp none o):o=none:=by
 cases o with
 | none=>rfl
 | some u=>exact(show False from r).elim
section
variable {P:cB}{w:bN}{H H':Hp}{fs fs':List (aC×V)}
theorem Ms (hok:HOk P w H h)(e:H a=some (.ins C dx fs)) : ∃ mA,ObjM h a dx C mA/\(∀ f,Atp (fs.lookup f) (mA f))/\PySem.Within mA (fs.map (·.1))/\fs.length≤1000/\H dx=some (.own a):=by
 obtain⟨d,z,ne,ob,mA,n,r,q⟩:=(show Adc P w H h a (.ins C dx fs) from hok a _ e)
 exact⟨mA,⟨ob,n,ne⟩,r,q,z,d⟩
end
structure Cls (K:aK)(C:aD):Prop where
 pg:PySem.W.plainGet K C Str.empty=true
 hd:PySem.W.hasDictIn K C=true
 po:PySem.W.plainOver K C=true
 sa:PySem.W.findIn K (.ref C) "__setattr__" = some (some (.builtin "object.__setattr__"))
theorem Cls.get(c:Cls K C)(f:aC):PySem.W.plainGet K C f=true:=c.pg
section
variable {X:Cx}{σ:St}{H:Hp}{c:aE}{b:Bool}
inductive TyOf (K:aK)(H:Hp):V->aE->Prop where
 | non:TyOf K H .non (.type "NoneType")
 | bl (x:Bool):TyOf K H (.bl x) (.type "bool")
 | int (i:Int):TyOf K H (.int i) (.type "int")
 | str (x:aC):TyOf K H (.str x) (.type "str")
 | flt (x:UInt64):TyOf K H (.flt x) (.type "float")
 | lst {a:aD} {xs:List V} (e:H a=some (.lst xs)):TyOf K H (.ref a) (.type "list")
 | frz {a:aD} {o:bG} {xs:List V} (e:H a=some (.frz o (.lst xs))):TyOf K H (.ref a) (.type "list")
 | tup {a:aD} {xs:List V} (e:H a=some (.tup xs)):TyOf K H (.ref a) (.type "tuple")
 | dK {a:aD} {ep:Nat} {kvs:List (aI×V)} (e:H a=some (.dK ep kvs)):TyOf K H (.ref a) (.type "dict")
 | dT {a:aD} {ep:Nat} {kvs:List (List aA×V)} (e:H a=some (.dT ep kvs)):TyOf K H (.ref a) (.type "dict")
 | ins {a C dx:aD} {fs:List (aC×V)} (e:H a=some (.ins C dx fs)) (cl:Cls K C) (ha:PySem.W.findIn K (.ref C) "__class__" = some (some (.builtin "object.__class__")))
   (hn:PySem.W.specialIn K (.builtin "object.__class__") "__get__" = some (some (.builtin "getset_descriptor.__get__"))) (htk:PySem.W.takesIn K (.builtin "object.__class__")=some true)
   (hm:PySem.W.mroIn K C (.type "object")=some true):TyOf K H (.ref a) (.ref C)
theorem Wx {x:V}{t:aE}(I:Inv X pins σ H s)(rx:RelV x u)(ty:TyOf X.K H x t)(e:Bm X.K t c=some b)(h : ∀ tk,Q (.bool b) { s with toks:=tk }) :
  aN (aW X.prog X.w) A (call (.builtin "isinstance") [u,c]) Q E s:=by
 cases ty with
 | non=>cases(show u=dY from rx); exact mM PySem.W.kitx_none I.kIn pY e (fun z=>nomatch z) h
 | bl y=>cases(show u=Value.bool y from rx); exact mM PySem.W.kitx_bool I.kIn pY e (fun z=>nomatch z) h
 | int i=>obtain⟨t,q⟩:=(show ∃ t,u=uH i t from rx); cases q; exact mM PySem.W.kitx_int I.kIn pY e (fun z=>nomatch z) h
 | str y=>obtain⟨t,q⟩:=(show ∃ t,u=uG y t from rx); cases q; exact mM PySem.W.kitx_str I.kIn pY e (fun z=>nomatch z) h
 | flt y=>obtain⟨t,q⟩:=(show ∃ t,u=Value.float y t from rx); cases q; exact mM PySem.W.kitx_float I.kIn pY e (fun z=>nomatch z) h
 | @lst a xs ea=>
  cases(show u=eX a from rx)
  obtain⟨_,_,n,_,h1⟩:=(show Adc X.prog X.w H s.heap a (.lst xs) from I.hok a _ ea)
  exact mM Bj I.kIn ⟨_,h1,rfl⟩ e (fun z=>nomatch z) h
 | @frz a ob xs ea=>
  cases(show u=eX a from rx)
  obtain⟨_,_,_,n,_,h1⟩:=(show Adc X.prog X.w H s.heap a (.frz ob (.lst xs)) from I.hok a _ ea)
  exact mM Bj I.kIn ⟨_,h1,rfl⟩ e (fun z=>nomatch z) h
 | @tup a xs ea=>
  cases(show u=eX a from rx)
  obtain⟨_,_,_,p⟩:=(show Adc X.prog X.w H s.heap a (.tup xs) from I.hok a _ ea)
  obtain⟨o,h1,h2,_⟩:=p.1
  exact mM PySem.W.kitx_tuple I.kIn ⟨o,h1,h2⟩ e (fun z=>nomatch z) h
 | @dK a ep kvs ea=>
  cases(show u=eX a from rx)
  obtain⟨_,_,vs,_,p⟩:=(show Adc X.prog X.w H s.heap a (.dK ep kvs) from I.hok a _ ea)
  obtain⟨o,es,h1,h2,_⟩:=p
  exact mM Bl I.kIn ⟨o,h1,h2.1⟩ e (fun z=>nomatch z) h
 | @dT a ep kvs ea=>
  cases(show u=eX a from rx)
  obtain⟨_,_,xs,_,o,es,h1,h2,_⟩:=(show Adc X.prog X.w H s.heap a (.dT ep kvs) from I.hok a _ ea)
  exact mM Bl I.kIn ⟨o,h1,h2.1⟩ e (fun z=>nomatch z) h
 | @ins a C dx fs ea cl ha hn htk hm=>
  cases(show u=eX a from rx)
  obtain⟨mA,O,_⟩:=Ms I.hok ea
  obtain⟨od,J,_⟩:=O.look
  exact mM (PySem.W.kitx_own (cl.get _) cl.hd ha hn htk hm) I.kIn J e (fun z=>nomatch z) h
end
structure Room (k:Nat)(A:cO):Prop where
 hd:A.handled=none
 dp:A.depth+3*k+5<recursionLimit
 un:A.units+16*k+200<cLine
theorem Room.mono {j:Nat}(r:Room k A)(h:j≤k):Room j A:=⟨r.hd,by have:=r.dp; omega,by have:=r.un; omega⟩
theorem Room.deeper(r:Room (k+1) A)(env:Env):Room k (A.deeper env):=
 ⟨r.hd,by have:=r.dp; show A.depth+1+3*k+5<_; omega,by have:=r.un; show A.units+3+16*k+200<_; omega⟩
theorem Room.depth(r:Room k A):A.depth<recursionLimit:=by have:=r.dp; omega
theorem Room.units(r:Room k A):A.units+64<cLine:=by have:=r.un; omega
abbrev OZ:TA:=fun _ H Q=>Q [] H
abbrev HS (ta:TE)(tr:TA):TA:=fun σ H Q=>ta σ H fun x H1=>tr σ H1 fun xs H2=>Q (x::xs) H2
section
variable {X:Cx}{te:TE}{t:TA}
theorem lJ:PA X [] OZ:=fun _ _ _ _ H Q I h=>Calls.spliced_nil ⟨[],H,I,.nil,h⟩
theorem iR (ha:PE X e te)(hr:PA X es t)(hs:bK (e::es) X.env=(false,bM e X.env)::bK es X.env:=by rfl):PA X (e::es) (HS te t):=by
 intro pos pins s σ H Q I h
 rw[hs]
 show aN _ _ (spliced ((false,bM e X.env)::eW pos (bK es X.env))) _ _ s
 refine Cu (thn (ha pins s σ H _ I h) fun u s1 gh=>?_)
 obtain⟨x,H1,I1,r1,q1⟩:=gh
 exact thn (hr pos pins s1 σ H1 _ I1 q1) fun us s2 ⟨xs,H2,I2,r2,q2⟩=>⟨x::xs,H2,I2,.cons r1 r2,q2⟩
def Dh (t:TA):TE:=fun σ H Q=>t σ H fun xs H1=>xs.length≤sizeLine /\ ∀ p,H1 p=none->Q (.ref p) (upd H1 p (.tup xs))
def Ec (t:TA):TE:=fun σ H Q=>t σ H fun xs H1=>xs.length≤sizeLine /\ ∀ p,H1 p=none->Q (.ref p) (upd H1 p (.lst xs))
theorem YT {x1}(h:PA X es t):PE X (.Tuple es x1 pos) (Dh t):=by
 intro pins s σ H Q I hq
 refine wpAny_Tuple_spliced (thn (h pos pins s σ H _ I hq) fun us s1 ⟨xs,H1,I1,r,z,q⟩=>⟨by rw[← r.length]; exact z,?_⟩)
 have hf:H1 s1.heap.objs.size=none:=I1.hok.fresh (bI _)
 refine⟨.ref s1.heap.objs.size,upd H1 s1.heap.objs.size (.tup xs),I1.laid (t':=s1.toks) (fun b u e=>cC _ e) (bI _) ?_,rfl,q _ hf⟩
 exact⟨z,us,r,⟨_,dQ _ rfl,rfl,_,rfl⟩,_,dQ _ rfl,rfl⟩
theorem Hz (h:PA X es t):PE X (.List es pos) (Ec t):=by
 intro pins s σ H Q I hq
 refine wpAny_List_spliced (thn (h pos pins s σ H _ I hq) fun us s1 ⟨xs,H1,I1,r,z,q⟩=>⟨by rw[← r.length]; exact z,?_⟩)
 have hf:H1 s1.heap.objs.size=none:=I1.hok.fresh (bI _)
 refine⟨.ref s1.heap.objs.size,upd H1 s1.heap.objs.size (.lst xs),I1.laid (t':=s1.toks) (fun b u e=>cC _ e) (bI _) ?_,rfl,q _ hf⟩
 exact⟨z,us,0,r,dQ _ rfl⟩
end
abbrev Sp:=List V->Hp->VK->XK->Prop
abbrev CXT:=List Env->Hp->aJ->XK->aE->aJ->Prop
structure Env0 (P:cB)(w:bN)(K:aK)(mg:aC->Option aE)(base:aY)(A:cO)(outer:List Env)(s:aJ)(H:Hp):Prop where
 frames:A.frames=some outer
 mod:Mod K mg base
 bs : ∀ b o,base.get? b=some o->s.heap.get? b=some o/\H b=none
 bsz:base.objs.size≤s.heap.objs.size
 funs:s.heap.FunFrames base outer
 frf : ∀ b∈frs outer,H b=none
 hok:HOk P w H s.heap
 bare:sA s.gens
def CE (outer:List Env)(P:cB)(w:bN)(H:Hp)(s:aJ)(Q:VK)(u:aE)(s':aJ):Prop:=
 ∃ v H',s'.os=s.os/\sA s'.gens/\Un (frs outer) [] H H' s.heap s'.heap/\HOk P w H' s'.heap/\RelV v u/\Q v H'
def CR (CX:CXT)(outer:List Env)(P:cB)(w:bN)(H:Hp)(s:aJ)(Q:VK)(E:XK)(r:Result)(s':aJ):Prop:=
 match r with
 | .ok (.ret u)=>CE outer P w H s Q u s'
 | .ok _=>False
 | .error e=>CX outer H s E e s'
structure FnOk (P:cB)(w:bN)(K:aK)(mg:aC->Option aE)(base:aY)(CX:CXT)(k:Nat)(f:aD)(fd:hE)(ps:List aC)(sp:Sp):Prop where
 len : ∀ vs H Q E,sp vs H Q E->vs.length=ps.length
 run : ∀ (A:cO) (outer:List Env) (s:aJ) (H:Hp) (args:Args) (us:List aE) (vs:List V) (Q:VK) (E:XK),Room k A->Env0 P w K mg base A outer s H->BindsTo s fd args (ps.zip us)->Vals vs us->sp vs H Q E ->
  pW (aW P w) A (.call (.ref f) args) (CR CX outer P w H s Q E) s
theorem FnOk.imp {P:cB}{w:bN}{CX:CXT}{f:aD}{fd:hE}{sp sp':Sp}(F:FnOk P w K mg base CX k f fd ps sp)
  (h : ∀ vs H Q E,sp' vs H Q E->sp vs H Q E):FnOk P w K mg base CX k f fd ps sp':=
 ⟨fun vs H Q E q=>F.len vs H Q E (h _ _ _ _ q),fun A outer s H args us vs Q E hr he hb hv hs=>F.run A outer s H args us vs Q E hr he hb hv (h _ _ _ _ hs)⟩
section
variable {X:Cx}{σ:St}{H:Hp}
theorem Inv.env0 (I:Inv X pins σ H s):Env0 X.prog X.w X.K X.mg X.base X.A X.stack s H:=
 ⟨I.ok.frames,I.ok.mod,I.bs,dS I.ok.bsz I.sz,I.stack,I.stkFree,I.hok,I.bare⟩
theorem Inv.after {Q:VK}(I:Inv X pins σ H s)(h:CE X.stack X.prog X.w H s Q u s'):EP X pins σ Q u s':=by
 obtain⟨v,H',os,bare,un,hok,r,q⟩:=h
 obtain⟨hh,g,d,t,os'⟩:=s'
 obtain rfl:os'=s.os:=os
 exact⟨v,H',I.call (h':=hh) (g':=g) (d':=d) (t':=t) (ch:=[]) un hok bare (fun b z=>absurd z (by simp)),r,q⟩
end
def PV (sp:Sp)(dvs:List V)(E:XK)(t:TA):TE:=fun σ H Q=>t σ H fun vs H1=>sp (vs++dvs) H1 Q E
def Binds (K:aK)(fd:hE)(ps:List aC)(ds:List aE):Prop:=
 ∀ (s:aJ) (us:List aE),K.In s.heap->(us++ds).length=ps.length->BindsTo s fd ⟨us,[]⟩ (ps.zip (us++ds))
theorem Binds.all{fd:hE}(h : ∀ us:List aE,us.length=ps.length->AW fd ⟨us,[]⟩=pure (ps.zip us)):Binds K fd ps []:=fun s us _ hl=>by
 rw[mS] at hl ⊢
 exact .of_eq (h us hl)
def Passes (CX:CXT)(X:Cx)(E:XK):Prop:=∀ (pins:List (aD×bG)) (σ:St) (H:Hp) (s:aJ) (e:aE) (s':aJ),Inv X pins σ H s->CX X.stack H s E e s'->X.xe e s'
section
variable {X:Cx}{CX:CXT}{f:aD}{fd:hE}{sp:Sp}{dvs:List V}{ds:List aE}{E:XK}{m:aC}{apos:bR}{o:aS}{ta:TE}{t:TA}
theorem Ij{σ:St}{H:Hp}{Q:VK}{vs:List V}(F:FnOk X.prog X.w X.K X.mg X.base CX k f fd ps sp)(hr:Room k X.A)(hb:Binds X.K fd ps ds)(hd:Vals dvs ds)(hx:Passes CX X E)
  (I:Inv X pins σ H s) (r:Vals vs us) (h:sp (vs++dvs) H Q E):aN (aW X.prog X.w) X.A (call (.ref f) us) (EP X pins σ Q) X.xe s:=by
 have r2:Vals (vs++dvs) (us++ds):=r.append hd
 have hl:(us++ds).length=ps.length:=by rw[← r2.length]; exact F.len _ _ _ _ h
 refine wpAny_call (codeAny_mono (F.run X.A X.stack s H ⟨us,[]⟩ (us++ds) (vs++dvs) Q E hr I.env0 (hb s us I.kIn hl) r2 h) fun r s' hq=>?_)
 cases r with
 | error e=>exact hx pins σ H s e s' I hq
 | ok fl=>
  cases fl with
  | ret u=>exact I.after hq
  | next=>exact qI hq
  | brk=>exact qI hq
  | cont=>exact qI hq
theorem Mv (F:FnOk X.prog X.w X.K X.mg X.base CX k f fd ps sp)(hr:Room k X.A)(hg:Gl X x)(hm:X.mg x=some (.ref f))(hk:uI X.K (.ref f)=true)(hb:Binds X.K fd ps ds)(hd:Vals dvs ds)(hx:Passes CX X E)
  (ha:PA X (e::es) t) (hdb:(x == ("__debug__" : aC))=false:=by decide) (he:bK (e::es) X.env=(false,bM e X.env)::bK es X.env:=by rfl) (hpl:(eW pos (bK es X.env)).any (·.1)=false:=by rfl) :
  PE X (.Call (.Name x p) (e::es) [] pos) (PV sp dvs E t):=by
 intro pins s σ H Q I h
 refine Be (Ay I hg hm ?_ hdb)
 refine PySem.W.callWith_K (h₀:=X.base) I.ok.mod.kin hk (thn (ha pos pins s σ H _ I h) fun us s1 ⟨vs,H1,I1,r,q⟩=>⟨I1.kIn,?_⟩) he hpl
 exact Ij F hr hb hd hx I1 r q
end
structure FnScope (N P:List aC)(sc:iV):Prop where
 kind:sc.kind = .function
 co:sc.isCoroutine=false
 gen:sc.isGenerator=false
 nd:N.Nodup
 pre:N.take P.length=P
 par : ∀ x∈P,sc.names.lookup x=some .local \/ sc.names.lookup x=some .cell
 nofree : ∀ y∈sc.names,y.2 ≠ .free
theorem VU {kindOf:aC->Option mP} : ∀ {binds:List (aC×aE)} {m:aC->Option aE},(∀ v,(x,v)∉binds)->bindL kindOf binds m x=m x
 | [],_,_=>rfl
 | (n,v)::r,m,h=>by
  unfold bindL
  rw[VU fun w hw=>h w (bT _ hw)]
  split
  ·have:x≠n:=by rintro rfl; exact h v bO
   simp[this]
  ·rfl
theorem WN {kindOf:aC->Option mP} : ∀ {binds:List (aC×aE)} {m:aC->Option aE},(∀ v,(x,v)∉binds)->bindC kindOf binds m x=m x
 | [],_,_=>rfl
 | (n,v)::r,m,h=>by
  unfold bindC
  rw[WN fun w hw=>h w (bT _ hw)]
  split
  ·rfl
  ·have:x≠n:=by rintro rfl; exact h v bO
   simp[this]
theorem WM {kindOf:aC->Option mP}{x:aC}{v:aE} : ∀ {P:List aC} {vs:List aE} {i:Nat} {m:aC->Option aE},P.Nodup->P[i]?=some x->vs[i]?=some v->kindOf x=some .local ->
  bindL kindOf (P.zip vs) m x=some v
 | [],_,_,_,_,h,_,_=>by simp at h
 | _::_,[],_,_,_,_,h,_=>by simp at h
 | p::P,w::vs,0,m,nd,h1,h2,hk=>by
  simp at h1 h2; subst h1; subst h2
  show bindL kindOf ((p,w)::P.zip vs) m p=_
  unfold bindL
  rw[VU fun v hv=>(jW.mp nd).1 (Bz hv).1,if_pos hk]
  simp
 | p::P,w::vs,i+1,m,nd,h1,h2,hk=>by
  show bindL kindOf ((p,w)::P.zip vs) m x=_
  unfold bindL
  exact WM (i:=i) (jW.mp nd).2 (by simpa using h1) (by simpa using h2) hk
theorem UX {kindOf:aC->Option mP}{x:aC}{v:aE} : ∀ {P:List aC} {vs:List aE} {i:Nat} {m:aC->Option aE},P.Nodup->P[i]?=some x->vs[i]?=some v->kindOf x≠some .local ->
  bindC kindOf (P.zip vs) m x=some v
 | [],_,_,_,_,h,_,_=>by simp at h
 | _::_,[],_,_,_,_,h,_=>by simp at h
 | p::P,w::vs,0,m,nd,h1,h2,hk=>by
  simp at h1 h2; subst h1; subst h2
  show bindC kindOf ((p,w)::P.zip vs) m p=_
  unfold bindC
  rw[WN fun v hv=>(jW.mp nd).1 (Bz hv).1,if_neg hk]
  simp
 | p::P,w::vs,i+1,m,nd,h1,h2,hk=>by
  show bindC kindOf ((p,w)::P.zip vs) m x=_
  unfold bindC
  exact UX (i:=i) (jW.mp nd).2 (by simpa using h1) (by simpa using h2) hk
def start (N:List aC)(vs:List V):St:=vs.map some++BH (N.length - vs.length) none
def sJ (CX:CXT)(P:cB)(w:bN)(K:aK)(mg:aC->Option aE)(base:aY)(N:List aC)(qual:aC)(scope:iV)(f:aD)(cd:aE)(A:cO)(outer:List Env)(s:aJ)(H:Hp)(E:XK):Cx where
 prog:=P
 w:=w
 K:=K
 mg:=mg
 base:=base
 A:=A.deeper (pV qual scope s.heap.objs.size f cd)
 N:=N
 s₀:=s
 H₀:=H
 env:=pV qual scope s.heap.objs.size f cd
 outer:=outer
 stack:=pV qual scope s.heap.objs.size f cd::outer
 ex:=[]
 calm:=true
 fn:=fun _=>true
 pn:=[]
 xe:=fun e s'=>aN (aW P w) (A.deeper (pV qual scope s.heap.objs.size f cd)) (leaving (pV qual scope s.heap.objs.size f cd) e) (fun _ s''=>CX outer H s E e s'') (fun e' s''=>CX outer H s E e' s'') s'
theorem SB {sc:iV}{n:Nat}(h:sc.names.lookup x=some .cell) : ∃ c,(cellsFrom n sc.names []).lookup x=some c:=by
 have q:=PySem.W.cellsFrom_some sc.names n [] (.inl h)
 exact FU.mp q
theorem Oi {CX:CXT}{P:cB}{w:bN}{N:List aC}{qual:aC}{scope:iV}{f:aD}{cd:aE}{outer:List Env}{s1:aJ}{H:Hp}{E:XK}{vs:List V}
  (S:FnScope N ps scope) (hd:A.handled=none) (e0:Env0 P w K mg base A outer s H) (hl:vs.length=ps.length) (r:Vals vs us)
  (x:InCallC s s.heap.objs.size (bindL (pV qual scope s.heap.objs.size f cd).kindOf (ps.zip us) fun _=>none) (cellsFrom (s.heap.objs.size+1) scope.names []) (bindC (pV qual scope s.heap.objs.size f cd).kindOf (ps.zip us) fun _=>none) s1) :
  Inv (sJ CX P w K mg base N qual scope f cd A outer s H E) [] (start N vs) H s1:=by
 have hpl:ps.length≤N.length:=by have:=congrArg List.length S.pre; rw[BK] at this; omega
 obtain⟨h1,tk,rfl,hk⟩:=x.done
 have noA : ∀ b:aD,b∉(sJ CX P w K mg base N qual scope f cd A outer s H E).ex:=fun b z=>absurd (show b∈([]:List aD) from z) (by simp)
 refine⟨⟨e0.mod,S.kind,rfl,rfl,bI _,fun y z c h1 h2=>?_,fun y hy=>?_,fun y c _ h=>?_,fun _=>hd,Around.frames_deeper e0.frames,.inr ⟨rfl,rfl⟩,fun b z=>absurd z (noA b),e0.bs,e0.bsz,fun b _ _=>noA b,fun b z=>absurd z (noA b),e0.funs,e0.frf⟩,
  rfl,e0.bare,Un.kept hk,⟨_,x.toInCall.ns,fun i y v h1 h2 h3=>?_⟩,fun y c h=>⟨_,x.cell y c h⟩,e0.hok.fresh (bI _),fun y c h=>?_,fun p hp=>absurd (show p∈([]:List (aD×bG)) from hp) (by simp),e0.hok.kept hk,?_⟩
 ·exact name_of_addr x.apart (FR h1) (FR h2)
 ·have hy:scope.names.lookup y=some .cell \/ scope.names.lookup y=some .free:=hy
  rcases hy with hy | hy
  ·exact SB hy
  ·exact absurd rfl (S.nofree _ (FR hy))
 ·exact qC (x.above y c (FR h))
 ·have hi:i<vs.length:=by
   unfold start at h2
   by_cases hi:i<vs.length
   ·exact hi
   ·rw[Yz (by simpa using hi)] at h2
    rw[List.getElem?_replicate] at h2
    split at h2 <;> cases h2
  have ha:vs[i]?=some v:=by
   unfold start at h2
   rw[Ce (by simpa using hi),eQ] at h2
   cases e:vs[i]? with
   | none=>rw[e] at h2; cases h2
   | some a=>rw[e] at h2; cases h2; rfl
  obtain⟨u,hu,rv⟩:=r.get ha
  have hp:ps[i]?=some y:=by
   rw[← S.pre,List.getElem?_take_of_lt (by omega)]; exact h1
  have ndP:ps.Nodup:=by rw[← S.pre]; exact S.nd.sublist (List.take_sublist _ _)
  refine⟨u,rv,?_⟩
  rcases S.par y (fL hp) with k | k
  ·exact .inl ⟨k,WM ndP hp hu k⟩
  ·obtain⟨c,e⟩:=SB (n:=s.heap.objs.size+1) k
   refine .inr ⟨.inl k,c,e,?_⟩
   have q:=x.cell y c e
   rw[UX ndP hp hu (by show scope.names.lookup y≠_; rw[k]; decide)] at q
   exact q
 ·exact e0.hok.fresh (qC (x.above y c (FR h)))
 ·unfold start
  show _=N.length
  rw[qF,cZ,List.length_replicate]
  omega
theorem Fo {CX:CXT}{P:cB}{w:bN}{f:aD}{name qual:aC}{params:Arguments}{scope:iV}{dV kV doc pm cdv ct oc:aE}{an od:Option aD}
  {osl:Array (Option aE)} {N ps:List aC} {sp:Sp} (lk:K.lookup f=some ⟨oc,od,.func (lU name qual params body scope dV kV doc pm an cdv ct),osl⟩) (hcd:AX K cdv qual=true) (S:FnScope N ps scope)
  (len : ∀ vs H Q E,sp vs H Q E->vs.length=ps.length)
  (hbody : ∀ (A:cO) (outer:List Env) (s:aJ) (H:Hp) (vs:List V) (Q:VK) (E:XK),Room k (A.deeper (pV qual scope s.heap.objs.size f cdv))->sp vs H Q E ->
   ∃ t,PSs (sJ CX P w K mg base N qual scope f cdv A outer s H E) body t/\t { nx:=fun _ H'=>Q .non H',rt:=Q } (start N vs) H) :
  FnOk P w K mg base CX (k+1) f (lU name qual params body scope dV kV doc pm an cdv ct) ps sp:=by
 refine⟨len,fun A outer s H args us vs Q E hr e0 hb r hsp=>?_⟩
 have hl:=len _ _ _ _ hsp
 have KX:K.In s.heap:=e0.mod.kin.keeps fun b o e=>(e0.bs b o e).1
 have lim:s.heap.NoLimit:=e0.mod.nolimit.keeps fun b o e=>(e0.bs b o e).1
 have hkind : ∀ y∈ps.zip us,scope.names.lookup y.1=some .local \/ (scope.names.lookup y.1=some .cell/\((cellsFrom (s.heap.objs.size+1) scope.names []).lookup y.1).isSome=true):=fun⟨n,v⟩ hy=>by
  rcases S.par n (Bz hy).1 with q | q
  ·exact .inl q
  ·exact .inr ⟨q,PySem.W.cellsFrom_some _ _ _ (.inl q)⟩
 refine codeAny_call_function hr.depth (KX _ _ lk) rfl S.co S.gen rfl (PySem.W.codeRec_of KX hcd) (hb _ _ _ _ ?_)
 refine wpAny_newFunctionEnv_cells S.kind hkind fun env he s1 x=>?_
 subst he
 refine⟨lim.keeps x.toInCall.keep,codeAny_func ?_⟩
 obtain⟨t,ht,hq⟩:=hbody A outer s H vs Q E (hr.deeper _) hsp
 have I:Inv (sJ CX P w K mg base N qual scope f cdv A outer s H E) [] (start N vs) H s1:=Oi S hr.hd e0 hl r x
 refine lR (ht [] s1 (start N vs) H _ I hq) (fun fl s' hs=>?_) fun e s' hs=>hs
 have fin : ∀ {σ':St} {H':Hp} {v:V} {u:aE},Inv (sJ CX P w K mg base N qual scope f cdv A outer s H E) [] σ' H' s'->RelV v u->Q v H'->CE outer P w H s Q u s':=
  fun {σ' H' v u} J rv q=>⟨v,H',J.os,J.bare,J.base,J.hok,rv,q⟩
 cases fl with
 | ret u=>
  obtain⟨v,σ',H',J,rv,q⟩:=hs
  exact fin J rv q
 | next=>
  obtain⟨σ',H',J,q⟩:=hs
  exact fin (v:=V.non) (u:=dY) J rfl q
 | brk=>
  obtain⟨_,_,_,q⟩:=hs
  exact qI q
 | cont=>
  obtain⟨_,_,_,q⟩:=hs
  exact qI q
section
variable {X:Cx}{t:TA}{id T:String}{r:List V->Hp->VK->Prop}
def tCB (r:List V->Hp->VK->Prop)(t:TA):TE:=fun σ H Q=>t σ H fun vs H1=>r vs H1 Q
theorem SE (hc:Aek X (.builtin id) r)(hg:Gl X x)(hm:X.mg x=none)(hv:nO x=some (.builtin id))(ha:PA X (e::es) t)(hn:x ≠ "__name__":=by decide)(hdb:(x == ("__debug__" : aC))=false:=by decide)
  (he:bK (e::es) X.env=(false,bM e X.env)::bK es X.env:=by rfl) (hpl:(eW pos (bK es X.env)).any (·.1)=false:=by rfl):PE X (.Call (.Name x p) (e::es) [] pos) (tCB r t):=by
 intro pins s σ H Q I h
 refine Be (yO I hg hm hv ?_ hn hdb)
 exact PyProof.Rows.callWith_builtin1 (thn (ha pos pins s σ H _ I h) fun us s1 ⟨vs,H1,I1,r1,q1⟩=>hc pins s1 σ H1 vs us Q I1 r1 q1) he hpl
theorem KP (hc:Aek X (.type T) r)(hg:Gl X x)(hm:X.mg x=none)(hv:nO x=some (.type T))(ha:PA X (e::es) t)(hn:x ≠ "__name__":=by decide)(hdb:(x == ("__debug__" : aC))=false:=by decide)
  (he:bK (e::es) X.env=(false,bM e X.env)::bK es X.env:=by rfl) (hpl:(eW pos (bK es X.env)).any (·.1)=false:=by rfl):PE X (.Call (.Name x p) (e::es) [] pos) (tCB r t):=by
 intro pins s σ H Q I h
 refine Be (yO I hg hm hv ?_ hn hdb)
 exact Bv (thn (ha pos pins s σ H _ I h) fun us s1 ⟨vs,H1,I1,r1,q1⟩=>hc pins s1 σ H1 vs us Q I1 r1 q1) he hpl
end
section
variable {κ:Type}[DecidableEq κ]
def eG (kvs:List (κ×V))(k:κ):Option V:=(kvs.find? fun kv=>decide (kv.1=k)).map (·.2)
def putK (kvs:List (κ×V))(k:κ)(v:V):List (κ×V):=
 if (kvs.any fun kv=>decide (kv.1=k))=true then kvs.map (fun kv=>if kv.1=k then(kv.1,v) else kv) else kvs++[(k,v)]
theorem kZ {p:κ×V}{r:List (κ×V)}{k:κ}(e:p.1=k):eG (p::r) k=some p.2:=by simp[eG,fZ,e]
theorem kE {p:κ×V}{r:List (κ×V)}{k:κ}(e : ¬ p.1=k):eG (p::r) k=eG r k:=by simp[eG,fZ,e]
theorem tU (k:κ) : ∀ kvs:List (κ×V),(kvs.any fun kv=>decide (kv.1=k))=(eG kvs k).isSome
 | []=>rfl
 | p::r=>by
  rw[xS]
  by_cases e:p.1=k
  ·simp only[kZ e,decide_eq_true e,GL,Option.isSome_some]
  ·rw[kE e,decide_eq_false e,Bool.false_or]; exact tU k r
theorem UE (k j:κ)(y:V) : ∀ kvs:List (κ×V),eG (kvs.map fun kv=>if kv.1=k then(kv.1,y) else kv) j=(eG kvs j).map fun x=>if j=k then y else x
 | []=>rfl
 | p::r=>by
  have ih:=UE k j y r
  rw[dH]
  by_cases h:p.1=k
  ·rw[if_pos h]
   by_cases e:p.1=j
   ·rw[kZ (p:=(p.1,y)) e,kZ e,oU,if_pos (e.symm.trans h)]
   ·rw[kE (p:=(p.1,y)) e,kE e,ih]
  ·rw[if_neg h]
   by_cases e:p.1=j
   ·rw[kZ (p:=p) e,kZ e,oU,if_neg (fun z=>h (e.trans z))]
   ·rw[kE (p:=p) e,kE e,ih]
theorem VV (k j:κ)(y:V) : ∀ kvs:List (κ×V),eG kvs k=none->eG (kvs++[(k,y)]) j=if j=k then some y else eG kvs j
 | [],_=>by
  by_cases e:k=j
  ·rw[if_pos e.symm]; exact kZ (p:=(k,y)) e
  ·rw[if_neg (fun z=>e z.symm)]; exact kE (p:=(k,y)) e
 | p::r,hn=>by
  rw[rW]
  have hk : ¬ p.1=k:=fun z=>by rw[kZ z] at hn; cases hn
  rw[kE hk] at hn
  have ih:=VV k j y r hn
  by_cases e:p.1=j
  ·rw[kZ e,kZ e,if_neg (fun z=>hk (e.trans z))]
  ·rw[kE e,kE e,ih]
theorem Vm (kvs:List (κ×V))(k j:κ)(y:V):eG (putK kvs k y) j=if j=k then some y else eG kvs j:=by
 unfold putK
 by_cases a:(kvs.any fun kv=>decide (kv.1=k))=true
 ·rw[if_pos a,UE]
  rw[tU] at a
  by_cases e:j=k
  ·obtain⟨x,hx⟩:=FU.mp a
   rw[if_pos e,e,hx,oU,if_pos rfl]
  ·rw[if_neg e]
   cases eG kvs j with
   | none=>rfl
   | some x=>rw[oU,if_neg e]
 ·rw[if_neg a]
  refine VV k j y kvs ?_
  rw[tU] at a
  cases q:eG kvs k with
  | none=>rfl
  | some x=>rw[q] at a; exact(a rfl).elim
theorem zS (kvs:List (κ×V))(k:κ)(v:V):(putK kvs k v).length≤kvs.length+1:=by
 unfold putK
 split
 ·rw[cZ]; omega
 ·rw[qF,fN,Cd]; omega
theorem Atp.isSome_eq {o:Option V}{u:Option aE}(r:Atp o u):o.isSome=u.isSome:=by
 cases o with
 | none=>cases u with
  | none=>rfl
  | some _=>exact(show False from r).elim
 | some _=>cases u with
  | none=>exact(show False from r).elim
  | some _=>rfl
theorem Atp.getD {o:Option V}{u:Option aE}{d:V}{d':aE}(r:Atp o u)(rd:RelV d d'):RelV (o.getD d) (u.getD d'):=by
 cases o with
 | none=>cases u with
  | none=>exact rd
  | some _=>exact(show False from r).elim
 | some _=>cases u with
  | none=>exact(show False from r).elim
  | some _=>exact r
theorem KV.val {kvs:List (κ×V)}{vs:List (κ×aE)}(r:KV kvs vs)(k:κ):Atp (eG kvs k) (xH vs k):=by
 unfold KV at r
 induction r with
 | nil=>exact pY
 | @cons p q ps qs h t ih=>
  obtain⟨h1,h2⟩:=h
  by_cases e:p.1=k
  ·have e':q.1=k:=h1.symm.trans e
   have b:xH (q::qs) k=some q.2:=by simp[xH,fZ,e']
   rw[kZ e,b]; exact h2
  ·have e' : ¬ q.1=k:=fun z=>e (h1.trans z)
   have b:xH (q::qs) k=xH qs k:=by simp[xH,fZ,e']
   rw[kE e,b]; exact ih
theorem KV.any {kvs:List (κ×V)}{vs:List (κ×aE)}(r:KV kvs vs)(k:κ):(kvs.any fun kv=>decide (kv.1=k))=vs.any fun kv=>decide (kv.1=k):=by
 unfold KV at r
 induction r with
 | nil=>rfl
 | cons h t ih=>rw[xS,xS,ih,h.1]
theorem KV.repl {kvs:List (κ×V)}{vs:List (κ×aE)}(r:KV kvs vs)(k:κ){y:V}(ry:RelV y u) :
  KV (kvs.map fun kv=>if kv.1=k then(kv.1,y) else kv) (vs.map fun kv=>if kv.1=k then(kv.1,u) else kv):=by
 unfold KV at r ⊢
 induction r with
 | nil=>exact .nil
 | @cons p q ps qs h t ih=>
  rw[dH,dH]
  refine .cons ?_ ih
  obtain⟨h1,h2⟩:=h
  by_cases e:p.1=k
  ·rw[if_pos e,if_pos (h1.symm.trans e)]; exact⟨h1,ry⟩
  ·rw[if_neg e,if_neg (fun z=>e (h1.trans z))]; exact⟨h1,h2⟩
theorem KV.put {kvs:List (κ×V)}{vs:List (κ×aE)}(r:KV kvs vs)(k:κ){y:V}(ry:RelV y u):KV (putK kvs k y) (uD vs k u):=by
 unfold putK uD
 rw[r.any k]
 by_cases e:(vs.any fun kv=>decide (kv.1=k))=true
 ·rw[if_pos e,if_pos e]; exact r.repl k ry
 ·rw[if_neg e,if_neg e]; exact Paired.snoc r ⟨rfl,ry⟩
theorem KV.length {kvs:List (κ×V)}{vs:List (κ×aE)}(r:KV kvs vs):kvs.length=vs.length:=uK r
end
theorem uY {P:cB}{w:bN}{k:aI}(r:RelV (kV k) u):(fJ P w).is k u=true:=by
 cases k with
 | inl i=>obtain⟨t,e⟩:=(show ∃ t,u=uH i t from r); subst e; exact LM P w i t
 | inr x=>obtain⟨t,e⟩:=(show ∃ t,u=uG x t from r); subst e; exact LS P w x t
abbrev KT (H:Hp):List (List aA×V)->List (List aA×aD×aE)->Prop:=iF fun p q=>p.1=q.1/\Alm H p.1 q.2.1/\RelV p.2 q.2.2
theorem KT.val {H:Hp}{kvs:List (List aA×V)}(r:KT H kvs xs)(k:List aA):Atp (eG kvs k) ((oR xs k).map (·.2)):=by
 induction r with
 | nil=>exact pY
 | @cons p q ps qs h t ih=>
  obtain⟨h1,_,h2⟩:=h
  by_cases e:p.1=k
  ·have e':q.1=k:=h1.symm.trans e
   have b:oR (q::qs) k=some q.2:=by simp[oR,fZ,e']
   rw[kZ e,b]; exact h2
  ·have e' : ¬ q.1=k:=fun z=>e (h1.trans z)
   have b:oR (q::qs) k=oR qs k:=by simp[oR,fZ,e']
   rw[kE e,b]; exact ih
theorem KT.repl {H:Hp}{kvs:List (List aA×V)}(r:KT H kvs xs)(k:List aA){y:V}(ry:RelV y u) :
  KT H (kvs.map fun kv=>if kv.1=k then(kv.1,y) else kv) (xs.map (putAt k u)):=by
 induction r with
 | nil=>exact .nil
 | @cons p q ps qs h t ih=>
  rw[dH,dH]
  refine .cons ?_ ih
  obtain⟨h1,h2,h3⟩:=h
  unfold putAt
  by_cases e:p.1=k
  ·rw[if_pos e,if_pos (h1.symm.trans e)]; exact⟨h1,h2,ry⟩
  ·rw[if_neg e,if_neg (fun z=>e (h1.trans z))]; exact⟨h1,h2,h3⟩
theorem KT.put {H:Hp}{kvs:List (List aA×V)}(r:KT H kvs xs)(k:List aA){y:V}(hb:Alm H k b)(ry:RelV y u) :
  KT H (putK kvs k y) (pR xs k b u):=by
 have e:(kvs.any fun kv=>decide (kv.1=k))=(oR xs k).isSome:=by
  rw[tU,(r.val k).isSome_eq,Bx]
 unfold putK pR
 rw[e]
 by_cases q:(oR xs k).isSome=true
 ·rw[if_pos q,if_pos q]; exact r.repl k ry
 ·rw[if_neg q,if_neg q]; exact Paired.snoc r ⟨rfl,hb,ry⟩
theorem KT.keeps {H H':Hp}{kvs:List (List aA×V)}(r:KT H kvs xs)(ht : ∀ b ys,H b=some (.tup ys)->H' b=some (.tup ys)):KT H' kvs xs:=
 Paired.mapP r fun _ _ z=>⟨z.1,z.2.1.keep ht,z.2.2⟩
section
variable {P:cB}{w:bN}{H:Hp}
theorem PZ {u:HO}(ok:HOk P w H h)(e:Rd H a u):Adc P w H h a u:=e.ok ok
theorem FD{kvs:List (aI×V)}(ok:HOk P w H h)(e:Rd H a (.dK ep kvs)):kvs.length≤sizeLine/\(a == iE)=false /\ ∃ vs,KV kvs vs/\h.DictAt (fJ P w) a vs ep:=
 show Adc P w H h a (.dK ep kvs) from PZ ok e
theorem qL{kvs:List (aI×V)}(ok:HOk P w H h)(e:Rd H a (.dK ep kvs)):kvs.length≤sizeLine/\(a == iE)=false /\ ∃ vs,KV kvs vs/\h.DictOf (fJ P w) a vs:=
 let ⟨z,y,vs,r,d⟩:=FD ok e; ⟨z,y,vs,r,d.dictOf⟩
theorem vF{kvs:List (aI×V)}(ok:HOk P w H h)(e:H a=some (.dK ep kvs)):kvs.length≤sizeLine/\(a == iE)=false /\ ∃ vs,KV kvs vs/\h.DictOf (fJ P w) a vs:=qL ok (.inl e)
theorem ES {P:cB}{w:bN}(hu:A.units+40<cLine):(iA P w).room A.in1:=by
 show A.in1.units+20<cLine
 have:A.in1.units=A.units+1:=rfl
 omega
mutual
theorem VY (ok:HOk P w H h) : ∀ (d:aA) {v:V} {u:aE},Akm H d v->RelV v u -> ∃ as,qB h u d as
 | .int i,v,u,k,r=>by
  have e:v = .int i:=by simpa [Akm] using k
  subst e
  obtain⟨t,rfl⟩:=r
  exact⟨_,.int i t⟩
 | .str x,v,u,k,r=>by
  have e:v = .str x:=by simpa [Akm] using k
  subst e
  obtain⟨t,rfl⟩:=r
  exact⟨_,.str x t⟩
 | .tuple ds,v,u,k,r=>by
  simp only[Akm] at k
  obtain⟨a,xs,rfl,e,ks⟩:=k
  cases r
  obtain⟨_,its,rv,⟨o,h1,h2,n,h3⟩,_⟩:=(show Adc P w H h a (.tup xs) from ok a _ e)
  obtain⟨as,ra⟩:=VR ok ds ks rv
  exact⟨as,.tuple h1 h2 h3 (by simpa using ra)⟩
 | .none,v,u,k,r=>by simp[Akm] at k
 | .bool _,v,u,k,r=>by simp[Akm] at k
 | .list _,v,u,k,r=>by simp[Akm] at k
 | .dict _,v,u,k,r=>by simp[Akm] at k
theorem VR (ok:HOk P w H h) : ∀ (ds:List aA) {vs:List V} {us:List aE},Ags H ds vs->Vals vs us -> ∃ as,qA h us ds as
 | [],vs,us,k,r=>by
  have e:vs=[]:=by simpa [Ags] using k
  subst e
  cases r
  exact⟨_,.nil⟩
 | d::ds,vs,us,k,r=>by
  simp only[Ags] at k
  obtain⟨x,rr,rfl,k1,k2⟩:=k
  cases r with
  | cons r1 r2=>
   obtain⟨as,ra⟩:=VY ok d k1 r1
   obtain⟨bs,rb⟩:=VR ok ds k2 r2
   exact⟨_,.cons ra rb⟩
end
theorem key_of(ok:HOk P w H h)(e:Alm H ks a):(iA P w).is h ks a:=by
 obtain⟨k1,k2,xs,e,ks'⟩:=e
 refine⟨k1,k2,?_⟩
 exact VY ok (.tuple ks) (v:=.ref a) (u:=.ref a) (by simp only[Akm]; exact⟨a,xs,rfl,e,ks'⟩) rfl
theorem uX {kvs:List (List aA×V)}(ok:HOk P w H h)(e : ∃ ep,Rd H a (.dT ep kvs)):kvs.length≤sizeLine/\(a == iE)=false /\
  ∃ xs,KT H kvs xs/\h.DictOfH (iA P w) a xs:=by
 obtain⟨ep,e⟩:=e
 obtain⟨z,y,xs,r,o,es,h1,h2,h3,h4,h5⟩:=(show Adc P w H h a (.dT ep kvs) from PZ ok e)
 refine⟨z,y,xs,r,o,es,ep,h1,h2,h3,h4,fun x hx=>?_,h5⟩
 have all : ∀ {l:List (List aA×V)} {m:List (List aA×aD×aE)},KT H l m -> ∀ x∈m,(iA P w).is h x.1 x.2.1:=by
  intro l m q
  induction q with
  | nil=>intro x hx; exact nomatch hx
  | @cons p q ps qs hq t ih=>
   intro x hx
   rcases cY.mp hx with e | hx
   ·subst e
    exact key_of ok (by rw[← hq.1]; exact hq.2.1)
   ·exact ih x hx
 exact all r x hx
theorem Fw{kvs:List (List aA×V)}(ok:HOk P w H h)(e:H a=some (.dT ep kvs)):kvs.length≤sizeLine/\(a == iE)=false /\
  ∃ xs,KT H kvs xs/\h.DictOfH (iA P w) a xs:=uX ok ⟨ep,.inl e⟩
end
def A5e (H:Hp)(a:aD)(y:V)(r:Option V):Prop:=
 (∃ ep kvs k,Rd H a (.dK ep kvs)/\y=kV k/\r=eG kvs k) \/ ∃ kvs k b,(∃ ep,Rd H a (.dT ep kvs))/\y = .ref b/\Alm H k b/\r=eG kvs k
def Bg7 (H:Hp)(a:aD)(y v:V)(H':Nat->Hp):Prop:=
 (∃ ep kvs k,H a=some (.dK ep kvs)/\y=kV k/\kvs.length<sizeLine/\H'=fun n=>upd H a (.dK n (putK kvs k v))) \/
 ∃ kvs k b,(∃ ep,H a=some (.dT ep kvs))/\y = .ref b/\Alm H k b/\kvs.length<sizeLine/\H'=fun n=>upd H a (.dT n (putK kvs k v))
theorem A5e.t {H:Hp}{kvs:List (List aA×V)}{k:List aA}(e:H a=some (.dT ep kvs))(eb:Alm H k b):A5e H a (.ref b) (eG kvs k):=.inr ⟨kvs,k,b,⟨ep,.inl e⟩,rfl,eb,rfl⟩
theorem Bg7.t {H:Hp}{kvs:List (List aA×V)}{k:List aA}{v:V}(e:H a=some (.dT ep kvs))(eb:Alm H k b)(hl:kvs.length<sizeLine) :
  Bg7 H a (.ref b) v (fun n=>upd H a (.dT n (putK kvs k v))):=.inr ⟨kvs,k,b,⟨ep,e⟩,rfl,eb,hl,rfl⟩
section
variable {X:Cx}{σ:St}{H:Hp}{y v:V}{r:aE}{o:Option V}
theorem Inv.big (I:Inv X pins σ H s):iE<s.heap.objs.size:=by
 have h:dW<s.heap.objs.size:=(I.mod.glob.keeps I.bk).lt
 exact BD (by decide) h
theorem Ye(hu:A.units+40<cLine)(I:Inv X pins σ H s)(g:A5e H a y (some v))(ry:RelV y u)(h : ∀ w' s',Inv X pins σ H s'->RelV v w'->Q w' s') :
  aN (aW X.prog X.w) A (pU (.ref a) u) Q E s:=by
 rcases g with⟨ep,kvs,k,e,ey,l⟩ | ⟨kvs,k,b,e,ey,eb,l⟩
 ·subst ey
  obtain⟨z,hd,vs,rel,dd⟩:=qL I.hok e
  obtain⟨w',hw,rw'⟩:=Atp.some_of (v:=v) (o:=xH vs k) (by rw[l]; exact rel.val k)
  exact wpAny_getItem_of (uY ry) dd.mapOf hw (h w' _ (I.tok _) rw')
 ·subst ey
  cases(show u=eX b from ry)
  obtain⟨z,hd,xs,rel,dd⟩:=uX I.hok e
  obtain⟨w',hw,rw'⟩:=Atp.some_of (v:=v) (o:=(oR xs k).map (·.2)) (by rw[l]; exact rel.val k)
  obtain⟨p,hp,hp2⟩:=nP.mp hw
  refine wpAny_getItem_heap (ES hu) (key_of I.hok eb) dd hp ?_
  rw[hp2]
  exact h w' _ (I.tok _) rw'
theorem Ee(hu:A.units+40<cLine)(I:Inv X pins σ H s)(g:A5e H a y o)(ry:RelV y u)(h : ∀ s',Inv X pins σ H s'->Q (.bool o.isSome) s') :
  aN (aW X.prog X.w) A (kJ .In u (.ref a)) Q E s:=by
 rcases g with⟨ep,kvs,k,e,ey,l⟩ | ⟨kvs,k,b,e,ey,eb,l⟩
 ·subst ey
  obtain⟨z,hd,vs,rel,dd⟩:=qL I.hok e
  refine wpAny_in_of (uY ry) hd dd.mapOf ?_
  rw[← (rel.val k).isSome_eq,← l]
  exact h _ (I.tok _)
 ·subst ey
  cases(show u=eX b from ry)
  obtain⟨z,hd,xs,rel,dd⟩:=uX I.hok e
  refine wpAny_in_heap (ES hu) (key_of I.hok eb) hd dd ?_
  have q:=(rel.val k).isSome_eq
  rw[Bx] at q
  rw[← q,← l]
  exact h _ (I.tok _)
theorem IH{ob:HO}(I:Inv X pins σ H s)(mu:xY (H a))(hs:oZ a s.heap h')(he : ∃ q,h'.get? a=some q)(new:Adc X.prog X.w (upd H a ob) h' a ob) :
  Inv X pins σ (upd H a ob) { s with heap:=h',toks:=t' }:=
 I.write (x:=a) (e:=a) mu (.inl rfl) (fun b q hb z=>(hs.2 b hb).trans z) he new
theorem CI {P:cB}{w:bN}{H':Hp}{kvs:List (aI×V)}{vs:List (aI×aE)}(z:kvs.length≤sizeLine)(hd:(a == iE)=false)(rel:KV kvs vs)(dd:h'.DictAt (fJ P w) a vs ep) :
  Adc P w H' h' a (.dK ep kvs):=⟨z,hd,vs,rel,dd⟩
theorem Oc {H':Nat->Hp}{Q:Unit->aJ->Prop}(hu:A.units+40<cLine)(I:Inv X pins σ H s)(g:Bg7 H a y v H')(ry:RelV y u)(rv:RelV v r)(h : ∀ n s',Inv X pins σ (H' n) s'->Q () s') :
  aN (aW X.prog X.w) A (setItem (.ref a) u r) Q E s:=by
 rcases g with⟨ep,kvs,k,e,ey,l,eH⟩ | ⟨kvs,k,b,e,ey,eb,l,eH⟩
 ·subst ey eH
  obtain⟨z,hd,vs,rel,dd⟩:=vF I.hok e
  have hz:vs.length≤sizeLine:=by rw[← rel.length]; exact z
  have hl:(putK kvs k v).length≤sizeLine:=by have:=zS kvs k v; omega
  refine wpAny_setItem_pairs (hsz:=hz) (uY ry) dd fun h' dd' hs=>?_
  have he : ∃ q,h'.get? a=some q:=let ⟨q,_,_,hq,_⟩:=dd'; ⟨q,hq⟩
  obtain⟨n,da⟩:=dd'.dictAt
  exact h n _ (IH I (by rw[e]; exact pY) hs he (CI hl hd (rel.put k rv) da))
 ·subst ey eH
  cases(show u=eX b from ry)
  obtain⟨ep0,e⟩:=e
  obtain⟨z,hd,xs,rel,dd⟩:=Fw I.hok e
  have hz:xs.length≤sizeLine:=by rw[← uK rel]; exact z
  have hl:(putK kvs k v).length≤sizeLine:=by have:=zS kvs k v; omega
  refine wpAny_setItem_heap (hsz:=hz) (ES hu) (key_of I.hok eb) dd fun h' dd' hs=>?_
  obtain⟨q,es,ep,hq,h2,h3,h4,_,h5⟩:=dd'
  refine h ep _ ?_
  refine IH I (by rw[e]; exact pY) hs ⟨q,hq⟩ ⟨hl,hd,_,(rel.put k eb rv).keeps fun c ys ec=>?_,q,es,hq,h2,h3,h4,h5⟩
  rw[cP (Fh ec e (fun z=>nomatch z))]
  exact ec
end
section
variable {X:Cx}{σ:St}{H:Hp}{kvs:List (aI×V)}{k:aI}
theorem Eo(I:Inv X pins σ H s)(e:Rd H a (.dK ep kvs))(h : ∀ t s',Inv X pins σ H s'->Q (.int kvs.length t) s'):aN (aW X.prog X.w) A (call (.builtin "len") [.ref a]) Q E s:=by
 obtain⟨z,hd,vs,rel,dd⟩:=qL I.hok e
 refine call_len_dict hd dd (by rw[← rel.length]; rw[xI] at z; omega) ?_
 rw[← rel.length]
 exact h _ _ (I.tok _)
end
def BY (i:aS):Prop:=∀ ov iv,ND i false ov iv=operate [ov,iv] (pU ov iv)
theorem Nl{w:bN}{env:Env}{value slice:aS}{T id:String}
  (hl:typeLookup (.type T) "__getitem__" = pure (some (.builtin id))) (hs:BY slice)
  (h:aN (aW prog w) A (bM value env) (fun o s₁=>aN (aW prog w) A (bM slice env) (fun i s₂=>s₂.TypeIs o T/\aN (aW prog w) A (pU o i) Q E s₂) E s₁) E s) :
  aN (aW prog w) A (bM (.Subscript value slice pos) env) Q E s:=by
 refine Subscript_ (lR h (fun o s₁ h₁=>lR h₁ (fun i s₂ h₂=>?_) fun _ _ x=>x) fun _ _ x=>x)
 obtain⟨hT,h₂⟩:=h₂
 unfold subscriptTail
 refine aH ?_
 rw[getitemInPython_of_ne hT.not_modules]
 refine aH (FL hT hl ?_)
 have fin:aN (aW prog w) A (ND slice false o i) (fun r s₃=>aN (aW prog w) A (letTemporaryGo value o r >>= fun _=>pure r) Q E s₃) E s₂:=by
  rw[hs o i]
  exact wpAny_operating (lR h₂ (fun r s₃ h₃=>aH (wpAny_letTemporaryGo (aT h₃))) fun _ _ x=>x)
 first
  | exact aT (aH fin)
  | exact aH (aT (aH fin))
  | exact aH fin
theorem Qk {X:Cx}{σ:St}{H:Hp}{y:V}{o:Option V}(I:Inv X pins σ H s)(g:A5e H a y o):s.TypeIs (.ref a) "dict":=by
 rcases g with⟨ep,kvs,k,e,_,_⟩ | ⟨kvs,k,b,e,_,_,_⟩
 ·obtain⟨_,_,vs,_,dd⟩:=qL I.hok e
  exact dd.typeIs
 ·obtain⟨_,_,xs,_,dd⟩:=uX I.hok e
  exact dd.typeIs
def Fx (td ty:TE):TE:=fun σ H Q=>td σ H fun x H1=>ty σ H1 fun y H2=>∃ a v,x = .ref a/\A5e H2 a y (some v)/\Q v H2
def Fc (td ty tv:TE):TS:=fun D σ H=>tv σ H fun v H1=>td σ H1 fun x H2=>ty σ H2 fun y H3=>∃ a H4,x = .ref a/\Bg7 H3 a y v H4 /\ ∀ n,D.nx σ (H4 n)
section
variable {X:Cx}{o i value:aS}{pos' tpos:bR}{td ty tv:TE}
theorem CV (hu:X.A.units+40<cLine)(ho:PE X o td)(hi:PE X i ty)(hs:BY i):PE X (.Subscript o i pos) (Fx td ty):=by
 intro pins s σ H Q I h
 refine Nl PySem.F.slot_dict_getitem.lookup hs (thn (ho pins s σ H _ I h) fun u s1 ⟨x,H1,I1,rx,q1⟩=>thn (hi pins s1 σ H1 _ I1 q1) fun iv s2 gh=>?_)
 obtain⟨y,H2,I2,ry,a,v,ex,g,q2⟩:=gh
 subst ex
 obtain rfl:u=eX a:=rx
 exact⟨Qk I2 g,Ye hu I2 g ry fun w' s3 I3 rw'=>⟨v,H2,I3,rw',q2⟩⟩
theorem CK (hu:X.A.units+40<cLine)(ho:PE X o td)(hi:PE X i ty)(hv:PE X value tv)(hs:jU value (some (.Subscript o i pos')) pos.line X.env=pure false) :
  PS X (.Assign [.Subscript o i pos'] value pos) (Fc td ty tv):=by
 intro pins s σ H D I h
 refine wpAny_Assign_Subscript (thn (hv pins s σ H _ I h) fun r s1 ⟨v,H1,I1,rv,q1⟩=>thn (ho pins s1 σ H1 _ I1 q1) fun u s2 ⟨x,H2,I2,rx,q2⟩=>thn (hi pins s2 σ H2 _ I2 q2) fun iv s3 ⟨y,H3,I3,ry,a,H4,ex,g,q3⟩=>?_) hs
 subst ex
 obtain rfl:u=eX a:=rx
 exact Oc hu I3 g ry rv fun n s4 I4=>⟨σ,H4 n,I4,q3 n⟩
end
theorem Tc {P:cB}{w:bN}{H:Hp}(h:aY)(hb:iE<h.objs.size):Adc P w H (h.push { cls:=.type "dict",data:=.dict #[] }) h.objs.size (.dK 0 []):=
 ⟨fG _,beq_eq_false_iff_ne.mpr (gZ (dX hb)),[],.nil,_,#[],dQ _ rfl,⟨rfl,rfl,rfl⟩,rfl,fun _ he=>by simp at he,Pairs.nil,uL⟩
theorem Ut {P:cB}{w:bN}{H:Hp}(h:aY)(hb:iE<h.objs.size):Adc P w H (h.push { cls:=.type "dict",data:=.dict #[] }) h.objs.size (.dT 0 []):=
 ⟨fG _,beq_eq_false_iff_ne.mpr (gZ (dX hb)),[],.nil,_,#[],dQ _ rfl,⟨rfl,rfl,rfl⟩,rfl,rfl,uL⟩
def Kf:TE:=fun _ H Q=>∀ p,H p=none->Q (.ref p) (upd H p (.dK 0 []))
def Gf:TE:=fun _ H Q=>∀ p,H p=none->Q (.ref p) (upd H p (.dT 0 []))
section
variable {X:Cx}
theorem RY:PE X (.Dict [] [] pos) Kf:=fun pins s σ H Q I h=>
 wpAny_Dict_empty ⟨.ref s.heap.objs.size,_,I.laid (a:=s.heap.objs.size) (o:=.dK 0 []) (t':=s.toks) (fun _ _ q=>cC _ q) (bI _) (Tc s.heap I.big),rfl,h _ (I.hok.fresh (bI _))⟩
theorem Tv:PE X (.Dict [] [] pos) Gf:=fun pins s σ H Q I h=>
 wpAny_Dict_empty ⟨.ref s.heap.objs.size,_,I.laid (a:=s.heap.objs.size) (o:=.dT 0 []) (t':=s.toks) (fun _ _ q=>cC _ q) (bI _) (Ut s.heap I.big),rfl,h _ (I.hok.fresh (bI _))⟩
end
def pF (kvs more:List (aI×V)):List (aI×V):=more.foldl (fun acc kv=>putK acc kv.1 kv.2) kvs
theorem KV.merge : ∀ {more:List (aI×V)} {rs:List (aI×aE)} {kvs:List (aI×V)} {vs:List (aI×aE)},KV more rs->KV kvs vs->KV (pF kvs more) (oQ vs rs):=by
 intro more rs kvs vs r
 unfold KV at r
 induction r generalizing kvs vs with
 | nil=>intro q; exact q
 | @cons p q ps qs h t ih=>
  intro r0
  have e:KV (putK kvs p.1 p.2) (uD vs q.1 q.2):=by
   have:=r0.put p.1 h.2
   rw[← h.1]; exact this
  exact ih e
theorem YB : ∀ (more kvs:List (aI×V)),(pF kvs more).length≤kvs.length+more.length
 | [],kvs=>by show kvs.length≤kvs.length+0; omega
 | p::r,kvs=>by
  have h1:=YB r (putK kvs p.1 p.2)
  have h2:=zS kvs p.1 p.2
  show(pF (putK kvs p.1 p.2) r).length≤_
  rw[fN]; omega
structure M2 (X:Cx)(o:aS)(m:aC)(apos:bR)(e f:aS)(cpos:bR):Prop where
 base:lT o m X.env (bM o X.env)=bM o X.env
 few:((eW cpos (bK [e,f] X.env)).all (fun x=>!x.1)&&(pX cpos (pS [] X.env)).all (fun x=>x.1.isSome)
  && decide (([e,f]:List aS).length+([]:List iG).length+(if ([]:List iG).isEmpty then 0 else 1)<30))=true
 line:(apos.endLine == cpos.line)=true
 trees:eW cpos (bK [e,f] X.env)=[(false,bM e X.env),(false,bM f X.env)]
def IsD (H:Hp)(a:aD):Prop:=(∃ ep kvs,Rd H a (.dK ep kvs)) \/ ∃ kvs,∃ ep,Rd H a (.dT ep kvs)
theorem Hn {X:Cx}{σ:St}{H:Hp}(I:Inv X pins σ H s)(d:IsD H a) :
  s.TypeIs (.ref a) "dict" /\ (∀ b,eX a = .ref b -> ∃ ob,s.heap.get? b=some ob/\ob.dict=none)/\(a == iE)=false:=by
 rcases d with⟨ep,kvs,e⟩ | ⟨kvs,e⟩
 ·obtain⟨_,hd,vs,_,dd⟩:=qL I.hok e
  refine⟨dd.typeIs,fun b q=>?_,hd⟩
  cases q
  obtain⟨ob,_,_,h1,h2,_⟩:=dd
  exact⟨ob,h1,h2.2.1⟩
 ·obtain⟨_,hd,xs,_,dd⟩:=uX I.hok e
  refine⟨dd.typeIs,fun b q=>?_,hd⟩
  cases q
  obtain⟨ob,_,_,h1,h2,_⟩:=dd
  exact⟨ob,h1,h2.2.1⟩
section
variable {X:Cx}{σ:St}{H:Hp}{y d:V}{r:aE}{o:Option V}
theorem Hq(hu:A.units+40<cLine)(I:Inv X pins σ H s)(g:A5e H a y o)(ry:RelV y u)(rd:RelV d r)(h : ∀ w' s',Inv X pins σ H s'->RelV (o.getD d) w'->Q w' s') :
  aN (aW X.prog X.w) A (call (.builtin "dict.get") [.ref a,u,r]) Q E s:=by
 rcases g with⟨ep,kvs,k,e,ey,l⟩ | ⟨kvs,k,b,e,ey,eb,l⟩
 ·subst ey
  obtain⟨z,hd,vs,rel,dd⟩:=qL I.hok e
  refine call_meetsIn Br dd.typeIs PySem.F.entry_dict_get (Yv _ _ _) (meets_dict_get_default (fJ X.prog X.w) a (uY ry) hd r) ⟨_,dd.mapOf,h _ _ (I.tok _) ?_⟩
  rw[l]
  exact(rel.val k).getD rd
 ·subst ey
  cases(show u=eX b from ry)
  obtain⟨z,hd,xs,rel,dd⟩:=uX I.hok e
  refine call_meetsIn Br dd.typeIs PySem.F.entry_dict_get (Yv _ _ _) (meetsH_dict_get_default (iA X.prog X.w) a b hd r) ⟨ES hu,k,xs,key_of I.hok eb,dd,h _ _ (I.tok _) ?_⟩
  rw[l]
  exact(rel.val k).getD rd
end
def Kj (td ty tx:TE):TE:=fun σ H Q=>td σ H fun x H1=>∃ a,x = .ref a/\IsD H1 a/\ty σ H1 fun y H2=>tx σ H2 fun z H3=>∃ o,A5e H3 a y o/\Q (o.getD z) H3
section
variable {X:Cx}{o f:aS}{apos cpos:bR}{td ty tx:TE}
theorem TB (hu:X.A.units+40<cLine)(ho:PE X o td)(he:PE X e ty)(hf:PE X f tx)(m:M2 X o "get" apos e f cpos):PE X (.Call (.Attribute o "get" apos) [e,f] [] cpos) (Kj td ty tx):=by
 intro pins s σ H Q I h
 refine Bd m.base m.few m.line NJ Br PySem.F.type_dict_get (thn (ho pins s σ H _ I h) fun u s1 gh=>?_)
 obtain⟨x,H1,I1,rx,a,ex,d,q1⟩:=gh
 subst ex
 obtain rfl:u=eX a:=rx
 obtain⟨t1,t2,_⟩:=Hn I1 d
 refine⟨t1,t2,?_⟩
 rw[m.trees]
 refine Calls.callWith_builtin rfl (Calls.evalArgs_plain (Cu (thn (he pins s1 σ H1 _ I1 q1) fun iv s2 ⟨y,H2,I2,ry,q2⟩=>
  Cu (thn (hf pins s2 σ H2 _ I2 q2) fun fv s3 ⟨z,H3,I3,rz,ov,g,q3⟩=>Calls.spliced_nil ?_))))
 exact Hq hu I3 g ry rz fun w' s4 I4 rw'=>⟨_,H3,I4,rw',q3⟩
end
section
variable {X:Cx}{σ:St}{H:Hp}{kvs:List (aI×V)}
theorem Vx(I:Inv X pins σ H s)(e:Rd H a (.dK ep kvs))(h : ∀ p n s',H p=none->Inv X pins σ (upd H p (.dK n kvs)) s'->Q (.ref p) s'):aN (aW X.prog X.w) A (call (.type "dict") [.ref a]) Q E s:=by
 obtain⟨z,hd,vs,rel,dd⟩:=qL I.hok e
 refine kt_call_dict hd dd (by rw[← rel.length]; exact z) fun h' dd' hs=>?_
 obtain⟨n,da⟩:=dd'.dictAt
 refine h _ n _ (I.hok.fresh (bI _)) (I.laid (a:=s.heap.objs.size) (o:=.dK n kvs) (t':=s.toks) (fun b q hq=>?_) (bI _) (CI z (beq_eq_false_iff_ne.mpr (gZ (dX I.big))) rel da))
 exact(hs.2 b (dX (cA hq))).trans (cC _ hq)
end
end L2
namespace HT
open PySem PyProof.Rows
section
variable {prog:cB}{w:bN}{A:cO}{E:aE->aJ->Prop}{s:aJ}
theorem Bbi {t b:aD}{vs ws:List aE}{Q:aE->aJ->Prop}(ht:IsTup s.heap t vs.toArray)(hb:IsTup s.heap b ws.toArray)(hv:vs≠[])
  (h1:ws=[]->Q (.ref t) s) (h2:ws≠[]->Q (.ref s.heap.objs.size) { s with heap:=s.heap.push { cls:=.type "tuple",data:=.seq (vs++ws).toArray } })
  (hsz:vs.length+ws.length≤sizeLine):aN (aW prog w) A (kK .Add (.ref t) (.ref b)) Q E s:=by
 obtain⟨⟨cls,dd,data,sl⟩,ho,hc,n,hd⟩:=id ht
 obtain⟨⟨cls2,dd2,data2,sl2⟩,ho2,hc2,n2,hd2⟩:=id hb
 simp only at hc hd hc2 hd2
 subst hc hd hc2 hd2
 have e:vs.toArray++ws.toArray=(vs++ws).toArray:=by simp
 by_cases hw:ws=[]
 ·exact NH ⟨_,ho,rfl⟩ ⟨_,ho2,rfl⟩ Bf seq_tuple_add Bq Bs (Bt _ _)
   (tuple_addW1 t b vs.toArray ws.toArray n n2 dd dd2 sl sl2 (by simpa using hv) (by simp[hw])) ⟨ho,ho2,h1 hw⟩
 ·refine NH ⟨_,ho,rfl⟩ ⟨_,ho2,rfl⟩ Bf seq_tuple_add Bq Bs (Bt _ _)
   (tuple_addW2 t b vs.toArray ws.toArray n n2 dd dd2 sl sl2 (by simpa using hv) (by simpa using hw) (by rw[eB,eB]; exact hsz)) ⟨ho,ho2,?_⟩
  rw[e]
  exact h2 hw
def sIx (n d:Nat):Option Int->Nat
 | none=>d
 | some v=>if v<0 then(v+(n:Int)).toNat else min v.toNat n
theorem Avd (n d:Nat):sIx n d none=d:=rfl
theorem Azv (n d k:Nat):sIx n d (some (k:Int))=min k n:=by
 show(if (k:Int)<0 then((k:Int)+(n:Int)).toNat else min (k:Int).toNat n)=min k n
 rw[if_neg (by omega),xT]
theorem Jl (n d:Nat)(hd:d≤n)(o:Option Int):sIx n d o≤n:=by
 cases o with
 | none=>exact hd
 | some v=>
  show(if v<0 then(v+(n:Int)).toNat else min v.toNat n)≤n
  by_cases hv:v<0
  ·rw[if_pos hv]; omega
  ·rw[if_neg hv]; exact Nat.min_le_right _ _
theorem An (v:Int)(n d:Nat):(if v<0 then max (v+(n:Int)) 0 else min v (n:Int))=((sIx n d (some v):Nat):Int):=by
 show(if v<0 then max (v+(n:Int)) 0 else min v (n:Int))=(((if v<0 then(v+(n:Int)).toNat else min v.toNat n):Nat):Int)
 by_cases hv:v<0
 ·simp only[if_pos hv]; omega
 ·simp only[if_neg hv]; omega
theorem Pu (lo hi:Option Int)(n:Nat):Cy lo hi 1 (n:Int)=(((sIx n 0 lo:Nat):Int),((sIx n n hi:Nat):Int)):=by
 have h1 : ¬ ((1:Int)<0):=by omega
 unfold Cy
 simp only[h1,if_false]
 refine Prod.ext ?_ ?_
 ·cases lo with
  | none=>rfl
  | some v=>exact An v n 0
 ·cases hi with
  | none=>rfl
  | some v=>exact An v n n
theorem Pm (i j:Nat):ON (i:Int) (j:Int) 1=j - i:=by
 unfold ON
 have h1:(1:Int) > 0:=by omega
 simp only[h1,if_true,Int.ediv_one]
 split <;> omega
theorem WQ {v:aE}{o:Option Int}{Q:Option Int->aJ->Prop}(p:oX v o)(h:Q o s):aN (aW prog w) A (Builtin.Slice.slicePartIndex v) Q E s:=by
 cases p with
 | none=>exact slicePart_none h
 | int i t=>exact slicePart_int h
theorem Agz {sl:aD}{vl vu:aE}{lo hi:Option Int}{n:Nat}{Q:Int×Int×Nat->aJ->Prop}(hs:s.heap.IsSliceOf sl vl vu .none)(pl:oX vl lo)(pu:oX vu hi)
  (h:Q (((sIx n 0 lo:Nat):Int),1,sIx n n hi - sIx n 0 lo) s):aN (aW prog w) A (Builtin.Slice.sliceApplied (.ref sl) (pure (n:Int))) Q E s:=by
 obtain⟨os,hos,hcs,hds⟩:=id hs
 unfold Builtin.Slice.sliceApplied Builtin.Slice.sliceFields
 refine aH (aH (iS hos hds (x:=vl) rfl (aH (iS hos hds (x:=vu) rfl (aH (iS hos hds (x:=.none) rfl (aT ?_)))))))
 refine aH (slicePart_none ?_)
 show aN _ _ (if ((1:Int) == 0)=true then _ else _) _ _ s
 rw[if_neg (by decide)]
 refine aH (WQ pl (aH (WQ pu (aH (aT ?_)))))
 show aN _ _ (match Cy lo hi 1 (n:Int) with | (lo,hi)=>pure (lo,(1:Int),ON lo hi 1)) _ _ s
 rw[Pu lo hi n]
 show aN _ _ (pure (((sIx n 0 lo:Nat):Int),(1:Int),ON ((sIx n 0 lo:Nat):Int) ((sIx n n hi:Nat):Int) 1)) _ _ s
 rw[Pm]
 exact aT h
theorem Vt (xs:Array aE)(i k:Nat):((cF k).filterMap fun(m:Nat)=>xs[((i:Int)+(m:Int)*1).toNat]?).toArray=((xs.toList.drop i).take k).toArray:=by
 have e:(fun(m:Nat)=>xs[((i:Int)+(m:Int)*1).toNat]?)=fun m=>xs[i+m]?:=by
  funext m
  have:((i:Int)+(m:Int)*1).toNat=i+m:=by omega
  rw[this]
 rw[e]
 have:=pick_run xs i k
 rw[List.filterMap_map] at this
 have e2:((fun x=>xs[x]?)∘fun x=>i+x)=fun m=>xs[i+m]?:=rfl
 rw[e2] at this
 rw[this]
theorem Aj1 {t sl:aD}{items:Array aE}{vl vu:aE}{lo hi:Option Int}{Q:aE->aJ->Prop}(ht:IsTup s.heap t items)(hs:s.heap.IsSliceOf sl vl vu .none)(pl:oX vl lo)(pu:oX vu hi)
  (hw : ¬ (sIx items.size 0 lo=0/\sIx items.size items.size hi=items.size))
  (h:Q (.ref s.heap.objs.size) { s with heap:=s.heap.push { cls:=.type "tuple",data:=.seq ((items.toList.drop (sIx items.size 0 lo)).take (sIx items.size items.size hi - sIx items.size 0 lo)).toArray } })
  (hsz:items.size≤sizeLine):aN (aW prog w) A (pU (.ref t) (.ref sl)) Q E s:=by
 have htake:sizeOk (.seq ((items.toList.drop (sIx items.size 0 lo)).take (sIx items.size items.size hi - sIx items.size 0 lo)).toArray):=by
  show((items.toList.drop (sIx items.size 0 lo)).take (sIx items.size items.size hi - sIx items.size 0 lo)).toArray.size≤sizeLine
  rw[eB,BK,NZ,BR]
  omega
 have hj:sIx items.size items.size hi≤items.size:=Jl _ _ (bI _) hi
 obtain⟨os,hos,hcs,hds⟩:=id hs
 have hTs:s.TypeIs (.ref sl) "slice":=⟨os,hos,hcs⟩
 unfold pU
 try with_reducible refine kH ?_
 first | refine aH (aT ?_) | skip
 refine aH (wpAny_sequenceKey ht.typeIs (by decide) ?_)
 refine aH (pQ (name:=pZ "__getitem__") ht.typeIs Bu
  (kI Bu ht.typeIs entry_tuple_getitem ?_ (args_tuple_getitem _ _)))
 show aN _ _ (Cv (.ref t) >>= _) _ _ s
 refine aH (tupleItemsOf_ ht ?_)
 refine aH (rP hTs ?_)
 rw[if_pos (by decide)]
 refine aH (Agz hs pl pu ?_)
 have hno : ¬ ((((sIx items.size 0 lo:Nat):Int) == 0&&(1:Int) == 1&&(sIx items.size items.size hi - sIx items.size 0 lo) == items.size)=true):=by
  intro q
  rw[xX,xX] at q
  have q1:((sIx items.size 0 lo:Nat):Int)=0:=eq_of_beq q.1.1
  have q2:sIx items.size items.size hi - sIx items.size 0 lo=items.size:=eq_of_beq q.2
  exact hw ⟨by omega,by omega⟩
 show aN _ _ (if (((sIx items.size 0 lo:Nat):Int) == 0&&(1:Int) == 1&&(sIx items.size items.size hi - sIx items.size 0 lo) == items.size)=true then _ else _) _ _ s
 rw[if_neg hno,Vt]
 first
  | exact aH (m:=OL _) (lQ (aT ⟨_,rfl,aT h⟩) htake)
  | exact aH (m:=OL _) (lQ (aH (aT (aT ⟨_,rfl,aT h⟩))) htake)
  | exact aH (aH (m:=OL _) (lQ (aT (aT ⟨_,rfl,aT h⟩)) htake))
  | exact aH (aH (m:=OL _) (lQ (aT ⟨_,rfl,aT h⟩) htake))
end
end HT
namespace L2
open PySem PySem.Spec PyProof.Rows
variable {xs:List V}{n:Nat}{pins:List (aD×bG)}{σ:St}{H:Hp}{s:aJ}{its:List aE}{X:Cx}
abbrev TO:=St->Hp->(Option Int->Hp->Prop)->Prop
def PO (X:Cx)(e:Option aS)(t:TO):Prop:=
 ∀ (pins:List (aD×bG)) (s:aJ) (σ:St) (H:Hp) (Q:Option Int->Hp->Prop),Inv X pins σ H s->t σ H Q ->
  aN (aW X.prog X.w) X.A (evalPart e X.env) (fun u s'=>∃ o H',Inv X pins σ H' s'/\oX u o/\Q o H') X.xe s
def Nq:TO:=fun _ H Q=>Q none H
def Ex (t:TE):TO:=fun σ H Q=>t σ H fun x H1=>∃ i,x = .int i/\Q (some i) H1
section
variable {e:aS}{te:TE}{lo hi:Option aS}{tl th:TO}{pos p2:bR}
theorem Nj:PO X none Nq:=by
 intro pins s σ H Q I h
 rw[evalPart_none]
 exact aT ⟨none,H,I,.none,h⟩
theorem Km (h:PE X e te):PO X (some e) (Ex te):=by
 intro pins s σ H Q I hw
 rw[evalPart_some]
 refine thn (h pins s σ H _ I hw) fun u s1 gh=>?_
 obtain⟨x,H1,I1,r1,q1⟩:=gh
 obtain⟨i,rfl,q⟩:=q1
 obtain⟨t,rfl⟩:=r1
 exact⟨some i,H1,I1,.int i t,q⟩
def SlR (X:Cx)(r:V->Option Int->Option Int->Hp->VK->Prop):Prop:=
 ∀ (pins:List (aD×bG)) (s:aJ) (σ:St) (H:Hp) (x:V) (v vl vu:aE) (lo hi:Option Int) (sl:aD) (Q:VK),Inv X pins σ H s->RelV x v->s.heap.IsSliceOf sl vl vu .none->oX vl lo->oX vu hi->r x lo hi H Q ->
  ∃ T id,typeLookup (.type T) "__getitem__" = pure (some (.builtin id))/\s.TypeIs v T/\aN (aW X.prog X.w) X.A (pU v (.ref sl)) (EP X pins σ Q) X.xe s
theorem SlR.or {r r':V->Option Int->Option Int->Hp->VK->Prop}(h:SlR X r)(h':SlR X r'):SlR X (fun x lo hi H Q=>r x lo hi H Q \/ r' x lo hi H Q):=by
 intro pins s σ H x v vl vu lo hi sl Q I rx hs pl pu q
 rcases q with q | q
 ·exact h pins s σ H x v vl vu lo hi sl Q I rx hs pl pu q
 ·exact h' pins s σ H x v vl vu lo hi sl Q I rx hs pl pu q
def tSl (r:V->Option Int->Option Int->Hp->VK->Prop)(te:TE)(tl th:TO):TE:=fun σ H Q=>te σ H fun x H1=>tl σ H1 fun l H2=>th σ H2 fun u H3=>r x l u H3 Q
theorem TY {r:V->Option Int->Option Int->Hp->VK->Prop}(hr:SlR X r)(he:PE X e te)(hl:PO X lo tl)(hu:PO X hi th):PE X (.Subscript e (.Slice lo hi none p2) pos) (tSl r te tl th):=by
 intro pins s σ H Q I h
 refine Subscript_ (thn (he pins s σ H _ I h) fun v s1 gh=>?_)
 obtain⟨x,H1,I1,r1,q1⟩:=gh
 refine wpAny_Slice (thn (hl pins s1 σ H1 _ I1 q1) fun vl s2 ⟨l,H2,I2,pl,q2⟩=>thn (hu pins s2 σ H2 _ I2 q2) fun vu s3 gh=>?_)
 obtain⟨u,H3,I3,pu,q3⟩:=gh
 rw[evalPart_none]
 refine aT ?_
 have I4:Inv X pins σ H3 { s3 with heap:=s3.heap.push { cls:=.type "slice",data:=.fields #[vl,vu,.none] } }:=I3.kept (t':=s3.toks) fun b ob q=>cC _ q
 obtain⟨T,id,hT,ht,hg⟩:=hr pins { s3 with heap:=s3.heap.push { cls:=.type "slice",data:=.fields #[vl,vu,.none] } } σ H3 x v vl vu l u s3.heap.objs.size Q I4 r1 (Heap.IsSliceOf.new ..) pl pu q3
 show aN (aW X.prog X.w) X.A (subscriptTail e (.Slice lo hi none p2) v (.ref s3.heap.objs.size)) (EP X pins σ Q) X.xe { s3 with heap:=s3.heap.push { cls:=.type "slice",data:=.fields #[vl,vu,.none] } }
 exact tail_any (ops:=[.ref s3.heap.objs.size,v]) ht hT hg (by with_unfolding_all rfl)
def uS (xs:List V)(lo hi:Option Int):List V:=(xs.drop (HT.sIx xs.length 0 lo)).take (HT.sIx xs.length xs.length hi - HT.sIx xs.length 0 lo)
theorem Qd (xs:List V)(lo hi:Option Int):(uS xs lo hi).length≤xs.length:=by
 unfold uS
 rw[BK,NZ]
 omega
def Ef (K:aK):V->Option Int->Option Int->Hp->VK->Prop:=fun x lo hi H Q=>∃ a xs,x = .ref a/\SqT K H a xs /\
 ¬ (HT.sIx xs.length 0 lo=0/\HT.sIx xs.length xs.length hi=xs.length) /\ ∀ p,H p=none->Q (.ref p) (upd H p (.tup (uS xs lo hi)))
theorem ZK:SlR X (Ef X.K):=by
 intro pins s σ H x v vl vu lo hi sl Q I rx hs pl pu h
 obtain⟨a,xs,rfl,hx,hw,q⟩:=h
 cases rx
 obtain⟨its,r,ht,hz⟩:=I.tuple hx
 have hlen:its.toArray.size=xs.length:=by rw[eB]; exact r.length.symm
 refine⟨"tuple",_,Bu.lookup,ht.typeIs,?_⟩
 refine HT.Aj1 ht hs pl pu (by rw[hlen]; exact hw) ?_ (by rw[hlen]; exact hz)
 rw[hlen]
 refine⟨.ref s.heap.objs.size,_,I.laid (t':=s.toks) (o:=.tup (uS xs lo hi)) (fun b ob q=>cC _ q) (bI _) ?_,rfl,q _ (I.hok.fresh (bI _))⟩
 exact⟨dS (Qd xs lo hi) hz,_,(r.drop (HT.sIx xs.length 0 lo)).take (HT.sIx xs.length xs.length hi - HT.sIx xs.length 0 lo),A7s.new _ _⟩
def HM (K:aK):R2:=fun x y H Q=>∃ a b xs ys,x = .ref a/\y = .ref b/\SqT K H a xs/\SqT K H b ys/\xs≠[]/\xs.length+ys.length≤sizeLine /\
 (ys=[]->Q (.ref a) H)/\(ys≠[] -> ∀ p,H p=none->Q (.ref p) (upd H p (.tup (xs++ys))))
theorem Vals.nil_iff{us:List aE}(r:Vals xs us):us=[]↔xs=[]:=by
 cases r with
 | nil=>simp
 | cons _ _=>simp
theorem Azh:OpR X (kK .Add) (HM X.K):=by
 intro pins s σ H x y v u Q I rx ry h
 obtain⟨a,b,xs,ys,rfl,rfl,ha,hb,hx,hz,q1,q2⟩:=h
 cases rx
 cases ry
 obtain⟨its,r1,p1,_⟩:=I.tuple ha
 obtain⟨its2,r2,p2,_⟩:=I.tuple hb
 refine HT.Bbi p1 p2 (fun z=>hx (r1.nil_iff.mp z)) (fun z=>⟨.ref a,H,I,rfl,q1 (r2.nil_iff.mp z)⟩) (fun z=>?_) (by rw[← r1.length,← r2.length]; exact hz)
 refine⟨.ref s.heap.objs.size,_,I.laid (t':=s.toks) (o:=.tup (xs++ys)) (fun b ob q=>cC _ q) (bI _) ?_,rfl,q2 (fun w=>z (r2.nil_iff.mpr w)) _ (I.hok.fresh (bI _))⟩
 exact⟨by rw[qF]; exact hz,_,r1.append r2,A7s.new _ _⟩
end
def ixN (n:Nat)(i:Int):Option Nat:=if 0≤i then(if i<n then some i.toNat else none) else if -(n:Int)≤i then some (i+n).toNat else none
def atI {α:Type}(xs:List α)(i:Int):Option α:=(ixN xs.length i).bind fun j=>xs[j]?
theorem IJ{i:Int}{j:Nat}(h:ixN n i=some j):seqIndex? i n=some j/\j<n /\ -(n:Int)≤i/\i<n:=by
 unfold ixN at h
 by_cases h0:0≤i
 ·rw[if_pos h0] at h
  by_cases h1:i<n
  ·rw[if_pos h1] at h
   have e:i.toNat=j:=eY h
   exact⟨by rw[seqIndex_of h0 h1,e],by omega,by omega,h1⟩
  ·rw[if_neg h1] at h; cases h
 ·rw[if_neg h0] at h
  by_cases h1 : -(n:Int)≤i
  ·rw[if_pos h1] at h
   have e:(i+n).toNat=j:=eY h
   exact⟨by rw[seqIndex_neg (by omega) h1,e],by omega,h1,by omega⟩
  ·rw[if_neg h1] at h; cases h
theorem IZ {α:Type}{xs:List α}{i:Int}{v:α}(h:atI xs i=some v) : ∃ j,seqIndex? i xs.length=some j/\xs[j]?=some v/\j<xs.length /\ -(xs.length:Int)≤i/\i<xs.length:=by
 unfold atI at h
 cases e:ixN xs.length i with
 | none=>rw[e] at h; cases h
 | some j=>
  rw[e] at h
  obtain⟨h1,h2,h3,h4⟩:=IJ e
  exact⟨j,h1,h,h2,h3,h4⟩
theorem CO {α:Type}{xs:List α}{j:Nat}{v:α}(h:xs[j]?=some v):atI xs (j:Int)=some v:=by
 have hj:j<xs.length:=(dD.mp h).1
 have e:ixN xs.length (j:Int)=some j:=by
  unfold ixN
  rw[if_pos (by omega),if_pos (by omega)]; simp
 unfold atI; rw[e]; exact h
def CY (b:aS):Prop:=∀ o i,ND b false o i=operate [o,i] (pU o i)
def IxR (X:Cx)(r:R2):Prop:=
 ∀ (value slice:aS) (pins:List (aD×bG)) (s:aJ) (σ:St) (H:Hp) (x y:V) (v u:aE) (Q:VK),Inv X pins σ H s->RelV x v->RelV y u->r x y H Q ->
  ND slice false v u=operate [v,u] (pU v u)->aN (aW X.prog X.w) X.A (subscriptTail value slice v u) (EP X pins σ Q) X.xe s
def MtR (X:Cx)(id:String)(r:V->List V->Hp->VK->Prop):Prop:=
 ∀ (pins:List (aD×bG)) (s:aJ) (σ:St) (H:Hp) (x:V) (xs:List V) (v:aE) (us:List aE) (Q:VK),Inv X pins σ H s->RelV x v->Vals xs us->r x xs H Q ->
  aN (aW X.prog X.w) X.A (call (.builtin id) (v::us)) (EP X pins σ Q) X.xe s
section
variable {a b:aS}{ta tb:TE}{pos:bR}
theorem IxR.or {r r':R2}(h:IxR X r)(h':IxR X r'):IxR X (fun x y H Q=>r x y H Q \/ r' x y H Q):=by
 intro value slice pins s σ H x y v u Q I rx ry q hs
 rcases q with q | q
 ·exact h value slice pins s σ H x y v u Q I rx ry q hs
 ·exact h' value slice pins s σ H x y v u Q I rx ry q hs
theorem QB {r:R2}(hr:IxR X r)(ha:PE X a ta)(hb:PE X b tb)(hs:CY b):PE X (.Subscript a b pos) (tOp r ta tb):=by
 intro pins s σ H Q I h
 exact Subscript_ (HH ha hb I h fun v u s2 x y H2 I2 rx ry q=>hr a b pins s2 σ H2 x y v u Q I2 rx ry q (hs _ _))
def PC (K:aK):R2:=fun x y H Q=>∃ p xs i v,x = .ref p/\y = .int i/\SqL K H p xs/\atI xs i=some v/\Q v H
def PK (K:aK):R2:=fun x y H Q=>∃ p xs i v,x = .ref p/\y = .int i/\SqT K H p xs/\atI xs i=some v/\Q v H
def OT:R2:=fun x y H Q=>∃ z i c,x = .str z/\y = .int i/\z.length≤sizeLine/\atI z.cps.toList i=some c/\Q (.str ⟨#[c]⟩) H
theorem Bco:IxR X (PC X.K):=by
 intro value slice pins s σ H x y v u Q I rx ry h hs
 obtain⟨p,xs,i,z,rfl,rfl,hq,he,q⟩:=h
 cases rx
 obtain⟨t,rfl⟩:=ry
 obtain⟨its,r,pl,hz⟩:=I.list hq
 obtain⟨j,h1,h2,h3,h4,h5⟩:=IZ he
 obtain⟨w,ew,rw'⟩:=r.get h2
 have hl:=r.length
 have hn:=qS
 have fin:EP X pins σ Q w s:=⟨z,H,I,rw',q⟩
 by_cases h0:0≤i
 ·have hj:i.toNat=j:=by
   rw[seqIndex_of h0 h5] at h1
   exact eY h1
  exact item_listR pl.isList h0 (by omega) (by rw[hj]; simpa using ew) fin hs
 ·have hj:(i+(its.toArray.size:Int)).toNat=j:=by
   rw[seqIndex_neg (by omega) h4] at h1
   rw[eB,← hl]
   exact eY h1
  exact subscriptTail_builtinR (x:=w) pl.isList.typeIs slot_list_getitem.lookup
   (wpAny_getItem_list_neg (Q:=fun r s'=>r=w/\EP X pins σ Q r s') pl.isList (by omega) (by rw[eB] <;> omega) (by omega) (by rw[hj]; simpa using ew) ⟨rfl,fin⟩) hs
theorem Bgq:IxR X (PK X.K):=by
 intro value slice pins s σ H x y v u Q I rx ry h hs
 obtain⟨p,xs,i,z,rfl,rfl,hq,he,q⟩:=h
 cases rx
 obtain⟨t,rfl⟩:=ry
 obtain⟨its,r,pl,hz⟩:=I.tuple hq
 obtain⟨j,h1,h2,h3,h4,h5⟩:=IZ he
 obtain⟨w,ew,rw'⟩:=r.get h2
 have hl:=r.length
 have hn:=qS
 have fin:EP X pins σ Q w s:=⟨z,H,I,rw',q⟩
 exact subscriptTail_builtinR (x:=w) pl.typeIs NF.lookup
  (getItem_tuple (j:=j) (Q:=fun r s'=>r=w/\EP X pins σ Q r s') pl (by omega) (by omega) (by rw[eB,← hl]; exact h1) (by simpa using ew) ⟨rfl,fin⟩) hs
theorem Ig:IxR X OT:=by
 intro value slice pins s σ H x y v u Q I rx ry h hs
 obtain⟨z,i,c,rfl,rfl,hz,he,q⟩:=h
 obtain⟨t,rfl⟩:=rx
 obtain⟨t',rfl⟩:=ry
 obtain⟨j,h1,h2,h3,h4,h5⟩:=IZ he
 have hl:z.cps.toList.length=z.length:=by simp[Str.length]
 rw[hl] at h1 h4 h5
 have hn:=qS
 exact tail_any (typeIs_str s z t) slot_str_getitem.lookup (getItem_str (c:=c) (by
  have e1:decide (i < -(2 ^ 63:Int))=false:=decide_eq_false (by omega)
  have e2:decide (i ≥ 2 ^ 63)=false:=decide_eq_false (by omega)
  rw[e1,e2,Bool.or_false]) (by rw[h1]; simpa using h2) ⟨.str ⟨#[c]⟩,H,I.tok _,⟨_,rfl⟩,q⟩) hs
def rIx (K:aK):R2:=fun x y H Q=>PC K x y H Q \/ PK K x y H Q \/ OT x y H Q
theorem QI:IxR X (rIx X.K):=Bco.or (Bgq.or Ig)
theorem Pw (its:List aE)(n j:Nat)(u:aE):gR (·.setIfInBounds j u) { cls:=.type "list",data:=.seq its.toArray n } = { cls:=.type "list",data:=.seq (its.set j u).toArray n }:=by
 simp[gR]
theorem Inv.lst{p:aD}(I:Inv X pins σ H s)(h:H p=some (.lst xs)) :
  ∃ (its:List aE) (n:Nat),Vals xs its/\s.heap.get? p=some { cls:=.type "list",data:=.seq its.toArray n }/\xs.length≤sizeLine:=by
 obtain⟨z,its,n,r,e⟩:=I.hok p _ h
 exact⟨its,n,r,e,z⟩
theorem Inv.lstUpd{p:aD}{ys:List V}{its':List aE}{n':Nat}{f:bG->bG}(I:Inv X pins σ H s)(h:H p=some (.lst xs))
  (ho:s.heap.get? p=some { cls:=.type "list",data:=.seq its.toArray n }) (hf:f { cls:=.type "list",data:=.seq its.toArray n } = { cls:=.type "list",data:=.seq its'.toArray n' }) (r:Vals ys its') (hz:ys.length≤sizeLine) (t:Nat) :
  Inv X pins σ (upd H p (.lst ys)) { s with heap:=s.heap.update p f,toks:=t }:=by
 have e:(s.heap.update p f).get? p=some { cls:=.type "list",data:=.seq its'.toArray n' }:=by
  rw[BM f ho (by rw[hf] <;> rfl),hf]
 refine I.write (x:=p) (e:=p) (by rw[h]; trivial) (.inl rfl) (fun b u hb q=>(GG _ _ (gZ hb)).trans q) ⟨_,e⟩ ?_
 exact⟨hz,its',n',r,e⟩
def Fb:V->V->V->Hp->(Hp->Prop)->Prop:=fun o i v H Q=>∃ p xs k j,o = .ref p/\i = .int k/\H p=some (.lst xs)/\ixN xs.length k=some j/\Q (upd H p (.lst (xs.set j v)))
theorem set_list:PL X Fb:=by
 intro pins s σ H o i v ov iv u Q I ro ri rv h
 obtain⟨p,xs,k,j,rfl,rfl,hp,hj,q⟩:=h
 cases ro
 obtain⟨t,rfl⟩:=ri
 obtain⟨its,n,r,ho,hz⟩:=I.lst hp
 obtain⟨h1,h2,h3,h4⟩:=IJ hj
 have hl:=r.length
 have hn:=qS
 have I':Inv X pins σ (upd H p (.lst (xs.set j v))) { s with heap:=s.heap.update p (gR (·.setIfInBounds j u)) }:=
  I.lstUpd hp ho (Pw its n j u) (r.set rv j) (by rw[List.length_set]; exact hz) s.toks
 by_cases h0:0≤k
 ·have hk:k.toNat=j:=by
   rw[seqIndex_of h0 h4] at h1
   exact eY h1
  exact PySem.W.ki_setAt ho h0 (by omega) (by rw[eB,← hl]; exact h4) (by rw[hk]; exact⟨_,I',q⟩)
 ·have hk:(k+(its.toArray.size:Int)).toNat=j:=by
   rw[seqIndex_neg (by omega) h3] at h1
   rw[eB,← hl]
   exact eY h1
  exact PySem.W.ki_setBack ho (by omega) (by rw[eB,← hl]; exact h3) (by omega) (by rw[hk]; exact⟨_,I',q⟩)
theorem Aqw:Aek X (.builtin "len") (fun xs H Q=>∃ p ys,xs=[.ref p]/\(SqL X.K H p ys \/ SqT X.K H p ys)/\Q (.int ys.length) H):=by
 intro pins s σ H xs us Q I r h
 obtain⟨p,ys,rfl,hq,q⟩:=h
 obtain⟨u,rfl,rx⟩:=vals1 r
 cases rx
 have hn:=qS
 rcases hq with hq | hq
 ·obtain⟨its,r',pl,hz⟩:=I.list hq
  have hlen:=r'.length
  exact Calls.call_len_list pl.isList (by simp only[eB] <;> omega) ⟨.int ys.length,H,I.tok _,⟨s.toks+1,by rw[eB,hlen]⟩,q⟩
 ·obtain⟨its,r',pl,hz⟩:=I.tuple hq
  have hlen:=r'.length
  exact len_tuple pl (by simp only[eB] <;> omega) ⟨.int ys.length,H,I.tok _,⟨s.toks+1,by rw[eB,hlen]⟩,q⟩
theorem Asj:Aek X (.builtin "len") (fun xs H Q=>∃ z,xs=[.str z]/\z.length≤sizeLine/\Q (.int z.length) H):=by
 intro pins s σ H xs us Q I r h
 obtain⟨z,rfl,hz,q⟩:=h
 obtain⟨u,rfl,t,rfl⟩:=vals1 r
 have hn:=qS
 exact len_str (by omega) ⟨.int z.length,H,I.tok _,⟨_,rfl⟩,q⟩
theorem Aek.or {f:aE}{r r':List V->Hp->VK->Prop}(h:Aek X f r)(h':Aek X f r'):Aek X f (fun xs H Q=>r xs H Q \/ r' xs H Q):=by
 intro pins s σ H xs us Q I rs q
 rcases q with q | q
 ·exact h pins s σ H xs us Q I rs q
 ·exact h' pins s σ H xs us Q I rs q
theorem Aqk:Aek X (.type "list") (fun xs H Q=>∃ p ys,xs=[.ref p]/\(SqL X.K H p ys \/ SqT X.K H p ys) /\ ∀ l,H l=none->Q (.ref l) (upd H l (.lst ys))):=by
 intro pins s σ H xs us Q I r h
 obtain⟨p,ys,rfl,hq,q⟩:=h
 obtain⟨u,rfl,rx⟩:=vals1 r
 cases rx
 have fin : ∀ (its:List aE),Vals ys its->ys.length≤sizeLine -> ∀ (h':aY) (c':Nat),(∀ b o',s.heap.get? b=some o'->h'.get? b=some o') ->
   h'.get? s.heap.objs.size=some { cls:=.type "list",dict:=none,data:=.seq its.toArray c',slots:=#[] }->EP X pins σ Q (.ref s.heap.objs.size) { s with heap:=h' }:=fun its r' hz h' c' kp e=>
  ⟨.ref s.heap.objs.size,_,I.laid (t':=s.toks) kp (bI _) (show Adc X.prog X.w _ h' _ (.lst ys) from⟨hz,its,c',r',e⟩),rfl,q _ (I.hok.fresh (bI _))⟩
 rcases hq with hq | hq
 ·obtain⟨its,r',pl,hz⟩:=I.list hq
  have hlen:=r'.length
  obtain⟨o,ho,hc,n,hd⟩:=pl.isList
  exact call_list_seq p (.inl rfl) ho hc hd (fun h' c' kp e=>fin its r' hz h' c' kp e) (by simp only[eB] <;> omega)
 ·obtain⟨its,r',pl,hz⟩:=I.tuple hq
  have hlen:=r'.length
  obtain⟨o,ho,hc,n,hd⟩:=pl
  exact call_list_seq p (.inr rfl) ho hc hd (fun h' c' kp e=>fin its r' hz h' c' kp e) (by simp only[eB] <;> omega)
theorem rE:Aek X (.type "tuple") (fun xs H Q=>∃ p ys,xs=[.ref p]/\((SqL X.K H p ys /\ ∀ l,H l=none->Q (.ref l) (upd H l (.tup ys))) \/ (SqT X.K H p ys/\Q (.ref p) H))):=by
 intro pins s σ H xs us Q I r h
 obtain⟨p,ys,rfl,h⟩:=h
 obtain⟨u,rfl,rx⟩:=vals1 r
 cases rx
 rcases h with⟨hq,q⟩ | ⟨hq,q⟩
 ·obtain⟨its,r',pl,hz⟩:=I.list hq
  have hlen:=r'.length
  refine call_tuple_list pl.isList (fun h' kp=>?_) (by simp only[eB] <;> omega)
  have I1:Inv X pins σ H { s with heap:=h' }:=I.kept (t':=s.toks) kp
  have I2:Inv X pins σ (upd H h'.objs.size (.tup ys)) { s with heap:=h'.push { cls:=.type "tuple",data:=.seq its.toArray } }:=
   I1.laid (t':=s.toks) (fun b o e=>cC _ e) (bI _) (show Adc X.prog X.w _ _ _ (.tup ys) from⟨hz,its,r',A7s.new _ _⟩)
  exact⟨.ref h'.objs.size,_,I2,rfl,q _ (I1.hok.fresh (bI _))⟩
 ·obtain⟨its,r',pl,hz⟩:=I.tuple hq
  exact call_tuple_same pl ⟨.ref p,H,I,rfl,q⟩
def tyV (K:aK)(T:String)(x:V)(H:Hp):Prop:=match x with
 | .str _=>T = "str"
 | .int _=>T = "int"
 | .ref p=>(T = "list" /\ ∃ xs,SqL K H p xs) \/ (T = "tuple" /\ ((∃ o,K.lookup p=some o/\o.cls = .type "tuple" /\ o.dict=none) \/ ∃ xs,H p=some (.tup xs))) \/
   (T = "dict" /\ ((∃ ep kvs,H p=some (.dK ep kvs)) \/ ∃ kvs,∃ ep,H p=some (.dT ep kvs))) \/ (T = "set" /\ ∃ S n,H p=some (.set S n))
 | _=>False
theorem Hi{T:String}{x:V}{v:aE}(I:Inv X pins σ H s)(r:RelV x v)(ty:tyV X.K T x H) :
  s.TypeIs v T /\ ∀ a,v = .ref a -> ∃ ob,s.heap.get? a=some ob/\ob.dict=none:=by
 cases x with
 | str z=>
  obtain⟨t,rfl⟩:=r
  cases(show T = "str" from ty)
  exact⟨typeIs_str s z t,fun _ e=>nomatch e⟩
 | int i=>
  obtain⟨t,rfl⟩:=r
  cases(show T = "int" from ty)
  exact⟨typeIs_int s i t,fun _ e=>nomatch e⟩
 | ref p=>
  cases r
  rcases ty with⟨rfl,xs,hq⟩ | ⟨rfl,⟨o,hk,hc,hd⟩ | ⟨xs,hx⟩⟩ | ⟨rfl,hk⟩ | ⟨rfl,S,n,hk⟩
  ·obtain⟨its,_,pl,_⟩:=I.list hq
   refine⟨pl.isList.typeIs,fun a e=>?_⟩
   cases e
   obtain⟨o,n,e,c,hd,_⟩:=pl
   exact⟨o,e,hd⟩
  ·refine⟨⟨o,I.kIn p o hk,hc⟩,fun a e=>?_⟩
   cases e
   exact⟨o,I.kIn _ o hk,hd⟩
  ·obtain⟨_,_,_,⟨o,e,c,_⟩,n⟩:=(show Adc X.prog X.w H s.heap p (.tup xs) from I.hok p _ hx)
   refine⟨⟨o,e,c⟩,fun a e=>?_⟩
   cases e
   exact n
  ·have z : ∃ o,s.heap.get? p=some o/\o.ExactDict:=by
    rcases hk with⟨ep,kvs,hk⟩ | ⟨kvs,ep,hk⟩
    ·obtain⟨_,_,_,_,o,_,e,ex,_⟩:=I.hok p _ hk
     exact⟨o,e,ex⟩
    ·obtain⟨_,_,_,_,o,_,e,ex,_⟩:=I.hok p _ hk
     exact⟨o,e,ex⟩
   obtain⟨o,e,ex⟩:=z
   refine⟨⟨o,e,ex.1⟩,fun a e2=>?_⟩
   cases e2
   exact⟨o,e,ex.2.1⟩
  ·obtain⟨o,_,_,_,e,ex,_⟩:=I.hok p _ hk
   refine⟨⟨o,e,ex.1⟩,fun a e2=>?_⟩
   cases e2
   exact⟨o,e,ex.2.1⟩
 | _=>exact qI ty
def tBM (K:aK)(T:String)(r:V->List V->Hp->VK->Prop)(to:TE)(t:TA):TE:=fun σ H Q=>to σ H fun x H1=>tyV K T x H1/\t σ H1 fun xs H2=>r x xs H2 Q
variable {o e:aS}{es:List aS}{to:TE}{t:TA}{name:aC}{apos cpos:bR}{T id:String}{r:V->List V->Hp->VK->Prop}
theorem qK (pa:PlainAttrs T)(slot:Slot T name id)(hty:typeOf (.builtin id)=pure (.type "method_descriptor"))(hm:MtR X id r)(ho:PE X o to)(ha:PA X (e::es) t)
  (hbase:lT o name X.env (bM o X.env)=bM o X.env:=by rfl)
  (hfew:((eW cpos (bK (e::es) X.env)).all (fun x=>!x.1)&&(pX cpos (pS [] X.env)).all (fun x=>x.1.isSome)
   && decide ((e::es).length+([]:List iG).length+(if ([]:List iG).isEmpty then 0 else 1)<30))=true:=by rfl)
  (hline:(apos.endLine == cpos.line)=true:=by rfl) (hs:bK (e::es) X.env=(false,bM e X.env)::bK es X.env:=by rfl) (hplain:(eW cpos (bK es X.env)).any (·.1)=false:=by rfl) :
  PE X (.Call (.Attribute o name apos) (e::es) [] cpos) (tBM X.K T r to t):=by
 intro pins s σ H Q I h
 refine wpAny_Call_method_late hbase hfew hline rfl (thn (ho pins s σ H _ I h) fun v s1 gh=>?_)
 obtain⟨x,H1,I1,r1,ty,q1⟩:=gh
 obtain⟨h1,h2⟩:=Hi I1 r1 ty
 refine⟨T,id,pa,slot,hty,h1,h2,?_⟩
 have hA:=ha cpos pins s1 σ H1 _ I1 q1
 rw[hs] at hA ⊢
 refine Calls.callWith_builtin (by show(false||(eW cpos (bK es X.env)).any (·.1))=false; rw[hplain] <;> rfl) (Calls.evalArgs_plain ?_)
 exact thn hA fun us s2 ⟨vs,H2,I2,r2,q2⟩=>hm pins s2 σ H2 x vs v us Q I2 r1 r2 q2
end
def MtM (X:Cx)(id:String)(r:V->List V->Hp->VK->Prop):Prop:=
 ∀ (pins:List (aD×bG)) (s:aJ) (σ:St) (H:Hp) (x:V) (xs:List V) (v:aE) (us:List aE) (Q:VK),Inv X pins σ H s->RelV x v->Vals xs us->r x xs H Q ->
  aN (aW X.prog X.w) X.A (call (.builtin id) (v::us)) (EP X pins σ Q) X.xe s
theorem Vals.one : ∀ {x:V} {us:List aE},Vals [x] us -> ∃ u,us=[u]/\RelV x u:=by
 intro x us h
 cases h with
 | cons r t=>cases t; exact⟨_,rfl,r⟩
theorem Vals.eraseIdx : ∀ {xs:List V} {us:List aE} (i:Nat),Vals xs us->Vals (xs.eraseIdx i) (us.eraseIdx i)
 | _,_,_,.nil=>.nil
 | _,_,0,.cons _ t=>t
 | _,_,i+1,.cons r t=>.cons r (Vals.eraseIdx i t)
theorem KD {α:Type} : ∀ (l:List α) (i:Nat),(l.eraseIdx i).length≤l.length
 | [],_=>bI _
 | _::_,0=>rS _
 | _::r,i+1=>Nat.succ_le_succ (KD r i)
section
variable {l b:aD}{ys zs:List V}
theorem Inv.lset {its':List aE}{f:Array aE->Array aE}{t':Nat}(I:Inv X pins σ H s)(hH:H l=some (.lst xs))
  (e:s.heap.get? l=some { cls:=.type "list",data:=.seq its.toArray n }) (hf:f its.toArray=its'.toArray) (hv:Vals ys its') (hz:ys.length≤sizeLine) :
  Inv X pins σ (upd H l (.lst ys)) { s with heap:=s.heap.update l (gR f),toks:=t' }:=by
 have q:=PySem.IsL.update e f
 rw[hf] at q
 refine I.write (x:=l) (e:=l) (by rw[hH]; exact trivial) (.inl rfl) (fun b' u hb hu=>(GG s.heap (gR f) (gZ hb)).trans hu) ⟨_,q⟩ ?_
 exact⟨hz,its',_,hv,q⟩
theorem Inv.lnew{t':Nat}(I:Inv X pins σ H s)(hv:Vals ys its)(hz:ys.length≤sizeLine) :
  Inv X pins σ (upd H s.heap.objs.size (.lst ys)) { s with heap:=s.heap.push { cls:=.type "list",data:=.seq its.toArray },toks:=t' }:=
 I.laid (fun _ _ q=>cC _ q) (bI _) ⟨hz,its,0,hv,dQ _ rfl⟩
theorem Inv.fresh (I:Inv X pins σ H s):H s.heap.objs.size=none:=I.hok.fresh (bI _)
theorem Inv.lstM (I:Inv X pins σ H s)(hH:H l=some (.lst xs)):xs.length≤sizeLine /\ ∃ (its:List aE) (n:Nat),Vals xs its/\xs.length=its.length/\s.heap.get? l=some { cls:=.type "list",data:=.seq its.toArray n }:=by
 obtain⟨z,its,n,r,e⟩:=I.hok l _ hH
 exact⟨z,its,n,r,r.length,e⟩
end
def Mh:V->List V->Hp->VK->Prop:=fun x vs H Q=>∃ l xs y,x = .ref l/\vs=[y]/\H l=some (.lst xs)/\xs.length<sizeLine/\Q .non (upd H l (.lst (xs++[y])))
theorem KM:MtM X "list.append" Mh:=by
 intro pins s σ H x vs v us Q I rx rv h
 obtain⟨l,xs,y,rfl,rfl,hH,hz,q⟩:=h
 cases rx
 obtain⟨u,rfl,ru⟩:=rv.one
 obtain⟨z,its,n,r,hl,e⟩:=I.lstM hH
 refine FQ F.slot_list_append ⟨_,e,rfl⟩ F.entry_list_append (F.args_list_append_2 _ _) (PySem.list_append l its.toArray n u (by rw[eB]; omega)) ⟨e,?_⟩
 refine⟨.non,_,I.lset (its':=its++[u]) hH e (by simp) (r.append (.cons ru .nil)) ?_,rfl,q⟩
 rw[qF,List.length_singleton]
 omega
def Gu:V->List V->Hp->VK->Prop:=fun x vs H Q=>∃ l xs i k y,x = .ref l/\vs=[.int i]/\H l=some (.lst xs) /\ -(2 ^ 63)≤i/\i<2 ^ 63/\seqIndex? i xs.length=some k/\xs[k]?=some y/\Q y (upd H l (.lst (xs.eraseIdx k)))
theorem Tg:MtM X "list.pop" Gu:=by
 intro pins s σ H x vs v us Q I rx rv h
 obtain⟨l,xs,i,k,y,rfl,rfl,hH,h1,h2,hk,hy,q⟩:=h
 cases rx
 obtain⟨u,rfl,ru⟩:=rv.one
 obtain⟨t,rfl⟩:=ru
 obtain⟨z,its,n,r,hl,e⟩:=I.lstM hH
 obtain⟨w,hw,rw'⟩:=r.get hy
 refine FQ F.slot_list_pop ⟨_,e,rfl⟩ F.entry_list_pop (F.args_list_pop_2 _ _)
  (MeetsSeq.list_pop_at l its.toArray n i t k w (fitsIndex_both h1 h2) (by rw[eB,← hl]; exact hk) (by rw[← Dd]; exact hw) (by rw[eB]; omega)) ⟨e,?_⟩
 refine⟨y,_,I.lset (its':=its.eraseIdx k) hH e ?_ (r.eraseIdx k) ?_,rw',q⟩
 ·show its.toArray.eraseIdxIfInBounds k=(its.eraseIdx k).toArray
  rw[Zb]
 ·have:=KD xs k
  omega
end L2
namespace Att
open PySem PySem.W PySem.Calls PyProof.Rows
theorem Sr {P:Params}{h:aY} : ∀ (ns:List Int) (vs:List aE),WellAll P h vs (ns.map WData.int)->IntsAre vs ns:=by
 intro ns
 induction ns with
 | nil=>
  intro vs w
  rw[List.map_nil] at w
  cases w
  exact .nil
 | cons n ns ih=>
  intro vs w
  rw[dH] at w
  cases w with
  | cons a b=>
   cases a
   exact .cons _ _ (ih _ b)
theorem Nr {l:OpenLaw}{n:Nat}(hn:l.most=some n){P:Params}{h:aY}{args:List WData}{vals:List aE}
  (hpre:l.row.toRowW.claim.pre args=true) (hwl:WellAll P h vals args) :
  ∃ a vs ns,vals=[eX a]/\args=[WData.list (ns.map WData.int)]/\h.get? a=some { cls:=.type "list",data:=.seq vs.toArray }/\IntsAre vs ns/\ns.length≤n:=by
 have hsh:WShape.hasAll [] args [.list .int]=true:=(pre_splitW hpre).1
 have hc:l.pre.holds [] { args:=args }=true:=(pre_splitW hpre).2
 obtain⟨d,r,rfl,h1,h2⟩:=hasAllW_cons hsh
 obtain rfl:=hasAllW_nil h2
 obtain⟨xs,rfl,h3⟩:=hasW_list h1
 obtain⟨ns,rfl⟩:=items_int h3
 have hlen:ns.length≤n:=by
  unfold OpenLaw.pre at hc
  have h4:(WTm.not (.lt (.lit (.int (n:Int))) (.len (.arg 0)))).holds [] { args:=[.list (ns.map .int)] }=true:=by
   have h4:=(holds_andW hc).1
   rw[hn] at h4
   exact h4
  have h5:=condW_of h4 (w_not (w_lt w_lit (w_len_list (w_arg rfl))))
  rw[cZ] at h5
  refine Nat.le_of_not_lt fun q=>?_
  have q':(n:Int)<((ns.length:Nat):Int):=by omega
  first
   | (rw[decide_eq_true q'] at h5; exact absurd h5 (by decide))
   | (simp at h5; omega)
 cases hwl with
 | cons w1 w2=>
  cases w2
  cases w1 with
  | list ho hall=>exact⟨_,_,ns,rfl,rfl,ho,Sr ns _ hall,hlen⟩
theorem Wz (l:OpenLaw)(args:List WData):l.row.toRowW.claim.post args (.bool true) args=true:=
 postW_of (r:=l.row.toRowW) (X:=(true == true))
  (show WShape.has [] (.bool true) .bool=true by first | rfl | decide | simp[WShape.has,WShape.arms,WShape.armsAll])
  (show(WTm.eq .res (.lit (.bool true))).value [] { args:=args,res:=some (.bool true),after:=args }=some (.bool (true == true)) from w_eq_bool (w_res rfl) w_lit) rfl
end Att
namespace L2
open PySem PySem.Spec PyProof.Rows
variable {P P0:aD->Prop}{w:bN}{K:aK}{mg:aC->Option aE}{k:aI}{a f:aD}{x qual y:aC}{sp:Sp}{X:Cx}{st:bZ}{N ps:List aC}{A:cO}{B H' H H1 B' B0 H0:Hp}{elt iter c b tg e:aS}{ifs es:List aS}{pos px spos p p2:bR}{env:Env}{n i j n0:Nat}{sc:iV}{v:V}{fp:Nat->List aD}{pins:List (aD×bG)}{σ:St}{s:aJ}{cap:List (Option Nat)}{o:HO}{xs:List V}{ds:List aA}{m d:aA}{ρ:List (Option aA)}{g:aA->aA->Option aA}{r:R2}{T:String}{kds:List (aA×aA)}{Q:VK}
theorem UR : ∀ {vs:List aE} {ns:List Int},IntsAre vs ns->Vals (ns.map V.int) vs
 | _,_,.nil=>.nil
 | _,_,.cons n t h=>.cons ⟨t,rfl⟩ (UR h)
def Only (H:Hp):Prop:=∀ b,H b=none \/ ∃ o xs,H b=some (.frz o (.lst xs))
theorem Vc {P:cB}{mb:aC->Option aE}{CX:CXT}{k:Nat}{fa:aD}{fd:hE}{s₁:aJ}{vs:List aE}{ns:List Int}
  (KX:K.In s₁.heap) (hns:s₁.heap.Ns dW mg) (hb:s₁.heap.Ns builtinsNs mb) (hbb : ∀ x:aC,x ≠ "__name__" -> mb x=nO x) (hlim:s₁.heap.NoLimit) (hg:s₁.gens = #[])
  (ha:s₁.heap.get? a=some { cls:=.type "list",data:=.seq vs.toArray }) (hi:IntsAre vs ns) (hl:ns.length≤sizeLine) (hr:Room k xM)
  (F : ∀ base:aY,K.In base->base.Ns dW mg->FnOk P w K mg base CX k fa fd [x] sp) (hbind : ∀ (s:aJ) (u:aE),BindsTo s fd ⟨[u],[]⟩ [(x,u)])
  (hsp : ∀ H:Hp,Only H->SqL K H a (ns.map V.int)->sp [.ref a] H (fun v _=>v = .bl true) fun _ _ _=>False)
  (hCX : ∀ H e s',CX [] H s₁ (fun _ _ _=>False) e s'->False) :
  pW (aW P w) xM (.call (.ref fa) ⟨[.ref a],[]⟩) (fun r s'=>r = .ok (.ret (.bool true))/\OldK s₁.heap s'.heap/\s'.os=s₁.os/\sA s'.gens) s₁:=by
 have rv:=UR hi
 have lenV:=hi.length
 have core : ∀ H:Hp,Only H->SqL K H a (ns.map V.int)->HOk P w H s₁.heap->(∀ b,H b≠none->b=a)->(H a≠none->K.lookup a=none) ->
   pW (aW P w) xM (.call (.ref fa) ⟨[.ref a],[]⟩) (fun r s'=>r = .ok (.ret (.bool true))/\OldK s₁.heap s'.heap/\s'.os=s₁.os/\sA s'.gens) s₁:=by
  intro H hO hS hok hA hK
  have base_of : ∀ {b:aD} {o:bG},s₁.heap.get? b=some o->H b=none->(pN s₁.heap H).get? b=some o:=fun e n=>Ua e n
  have noA : ∀ {b:aD} {o:bG} {es:Array nX} {ep:Nat},s₁.heap.get? b=some o->o.data = .dict es ep->H b=none:=fun {b o es ep} e d=>by
   cases q:H b with
   | none=>rfl
   | some u=>
    have e':b=a:=hA b (by rw[q]; simp)
    subst e'
    rw[ha] at e; cases e
    have d':Data.seq vs.toArray _=Data.dict es ep:=d
    cases d'
  have nsK : ∀ {b:aD} {m:aC->Option aE},s₁.heap.Ns b m->(pN s₁.heap H).Ns b m:=fun {b m} ⟨o,es,ep,e,d,r⟩=>⟨o,es,ep,base_of e (noA e d),d,r⟩
  have hKb:K.In (pN s₁.heap H):=fun b o e=>base_of (KX b o e) (by
   cases q:H b with
   | none=>rfl
   | some u=>
    have e':b=a:=hA b (by rw[q]; simp)
    subst e'
    rw[hK (by rw[q]; simp)] at e; cases e)
  have hM:Mod K mg (pN s₁.heap H):=⟨hKb,nsK hns,⟨mb,nsK hb,hbb⟩,let ⟨mc,h1,h2⟩:=hlim; ⟨mc,nsK h1,h2⟩⟩
  have e0:Env0 P w K mg (pN s₁.heap H) xM [] s₁ H:=⟨rfl,hM,fun b o e=>Nk e,Nat.le_of_eq (Yo _ _),trivial,fun b hb=>absurd (show b∈([]:List aD) from hb) (by simp),hok,.of_eq hg⟩
  refine codeAny_mono ((F _ hKb (nsK hns)).run xM [] s₁ H ⟨[.ref a],[]⟩ [.ref a] [.ref a] _ _ hr e0 (hbind s₁ (.ref a)) (.cons rfl .nil) (hsp H hO hS)) fun r s' h=>?_
  cases r with
  | error e=>exact(hCX H e s' h).elim
  | ok fl=>
   cases fl with
   | next=>exact qI h
   | brk=>exact qI h
   | cont=>exact qI h
   | ret u=>
    obtain⟨v,H',os,bare,un,hok',r',q⟩:=h
    have q':v = .bl true:=q
    subst q'
    obtain rfl:u=Value.bool true:=r'
    refine⟨rfl,OldK.of_keep fun b o e=>?_,os,bare⟩
    cases q:H b with
    | none=>exact un.keep b o e q (by intro z; exact absurd (show b∈([]:List aD) from z) (by simp)) (by simp)
    | some u=>
     rcases hO b with z | ⟨ob,xs,z⟩
     ·rw[q] at z; cases z
     ·have z2:=un.frzs b ob _ z
      obtain⟨e1,_⟩:=hok b _ z
      obtain⟨e2,_⟩:=hok' b _ z2
      rw[e] at e1; cases e1
      exact e2
 cases hk:K.lookup a with
 | some o=>
  have e:=KX a o hk
  rw[ha] at e
  cases e
  refine core (fun _=>none) (fun _=>.inl rfl) (.inr ⟨_,vs.toArray,_,hk,rfl,rfl,rfl,by rw[eB,lenV]; exact hl,by simpa using rv⟩) (fun b u z=>by have z':(none:Option HO)=some u:=z; cases z') (fun b z=>absurd rfl z) fun z=>absurd rfl z
 | none=>
  refine core (fun b=>if b=a then some (.frz { cls:=.type "list",data:=.seq vs.toArray } (.lst (ns.map V.int))) else none) (fun b=>?_) (.inl (.inr ⟨{ cls:=.type "list",data:=.seq vs.toArray },if_pos rfl⟩)) (fun b u z=>?_) (fun b z=>?_) fun _=>hk
  ·by_cases hb:b=a
   ·exact .inr ⟨_,_,if_pos hb⟩
   ·exact .inl (if_neg hb)
  ·by_cases hb:b=a
   ·have z':=(if_pos hb).symm.trans z
    cases z'
    subst hb
    exact⟨ha,by rw[cZ]; exact hl,vs,_,rv,ha⟩
   ·have z':=(if_neg hb).symm.trans z
    cases z'
  ·by_cases hb:b=a
   ·exact hb
   ·exact absurd (if_neg hb) z
def mJ (s:bZ):Arguments:=match s with
 | .FunctionDef _ a _ _ _ _ _ _ _ _=>a
 | _=>{ posonlyargs:=[],args:=[],vararg:=none,kwonlyargs:=[],kw_defaults:=[],kwarg:=none,defaults:=[] }
def kX (s:bZ):List bZ:=match s with
 | .FunctionDef _ _ b _ _ _ _ _ _ _=>b
 | _=>[]
def bY (s:bZ):iV:=match s with
 | .FunctionDef _ _ _ _ _ _ sc _ _ _=>sc
 | _=>{ kind:=.function,names:=[],isGenerator:=false,isCoroutine:=false }
abbrev CX0:CXT:=fun _ _ _ _ _ _=>False
abbrev E0:XK:=fun _ _ _=>False
theorem Fi:Passes CX0 X E0:=fun _ _ _ _ _ _ _ h=>h.elim
structure Fun (K:aK)(x qual:aC)(st:bZ)(f:aD)(fd:hE):Prop where
 ex : ∃ (oc:aE) (od:Option aD) (kV doc pm:aE) (an:Option aD) (cdv ct:aE) (osl:Array (Option aE)),
  fd=lU x qual (mJ st) (kX st) (bY st) .none kV doc pm an cdv ct/\K.lookup f=some ⟨oc,od,.func fd,osl⟩/\AX K cdv qual=true
 kp:uI K (.ref f)=true
section
variable {P:cB}{base:aY}
theorem Fun.ok{fd:hE}{k:Nat}(F:Fun K x qual st f fd)(S:FnScope N ps (bY st))(len : ∀ vs H Q E,sp vs H Q E->vs.length=ps.length)
  (hbody : ∀ (cdv:aE) (A:cO) (outer:List Env) (s:aJ) (H:Hp) (vs:List V) (Q:VK) (E:XK),Room k (A.deeper (pV qual (bY st) s.heap.objs.size f cdv))->sp vs H Q E ->
   ∃ t,PSs (sJ CX0 P w K mg base N qual (bY st) f cdv A outer s H E).nox (kX st) t/\t { nx:=fun _ H'=>Q .non H',rt:=Q } (start N vs) H):FnOk P w K mg base CX0 (k+1) f fd ps sp:=by
 obtain⟨oc,od,kV,doc,pm,an,cdv,ct,osl,rfl,lk,hcd⟩:=F.ex
 refine Fo lk hcd S len fun A outer s H vs Q E hr hsp=>?_
 obtain⟨t,h,q⟩:=hbody cdv A outer s H vs Q E hr hsp
 exact⟨t,h.nox,q⟩
theorem Fun.binds{fd:hE}(F:Fun K x qual st f fd)
  (h : ∀ (kV doc pm:aE) (an:Option aD) (cdv ct:aE) (us:List aE),us.length=ps.length->AW (lU x qual (mJ st) (kX st) (bY st) .none kV doc pm an cdv ct) ⟨us,[]⟩=pure (ps.zip us)):Binds K fd ps []:=by
 obtain⟨oc,od,kV,doc,pm,an,cdv,ct,osl,rfl,lk,hcd⟩:=F.ex
 exact .all (h kV doc pm an cdv ct)
theorem YL{oc:aE}{od an:Option aD}{osl:Array (Option aE)}{kV doc pm cdv ct:aE}(l:K.lookup f=some ⟨oc,od,.func (lU x qual (mJ st) (kX st) (bY st) .none kV doc pm an cdv ct),osl⟩)
  (c:AX K cdv qual=true) (k:uI K (.ref f)=true):Fun K x qual st f (lU x qual (mJ st) (kX st) (bY st) .none kV doc pm an cdv ct):=⟨⟨oc,od,kV,doc,pm,an,cdv,ct,osl,rfl,l,c⟩,k⟩
end
theorem eN{k:Nat}(hr:Room k A):A.units+40<cLine:=BE (Nat.add_le_add_left (by decide:40≤64) _) hr.units
theorem Xd:Aek X (.builtin "len") (fun xs H Q=>∃ a ep kvs,xs=[V.ref a]/\H a=some (.dK ep kvs)/\Q (.int kvs.length) H):=by
 intro pins s σ H xs us Q I r h
 obtain⟨a,ep,kvs,rfl,ha,q⟩:=h
 obtain⟨u,rfl,ru⟩:=vals1 r
 cases ru
 exact Eo I (.inl ha) fun t s' I'=>⟨.int kvs.length,H,I',⟨t,rfl⟩,q⟩
theorem nK {A B:Prop}(h:B):if false=true then A else B:=by
 rw[if_neg jG]
 exact h
theorem mU {A B:Prop}(h:A):if true=true then A else B:=by
 rw[if_pos rfl]
 exact h
section
variable {prog:cB}{R:Result->aJ->Prop}
theorem Qn {target:aS}{scope:iV}{it acc:aE}(I:Nat->aJ->Prop)
  (turn : ∀ n s,I n s->aN (aW prog w) A (iT it) (fun r s₁=>match r with
   | none=>R (.ok .next) s₁
   | some v=>aN (aW prog w) A (NG target it v) (fun _ s₂=>aN (aW prog w) A (kM target env v) (fun _ s₃=>
     aN (aW prog w) A (forIn ifs true fun c r=>if r=true then do let ok ← isTrue c env (bM c env); pure (BO ok) else pure (BO r)) (fun ok s₄=>
      if ok=true then aN (aW prog w) A (bM elt env) (fun x s₅=>
       aN (aW prog w) A (call (.builtin "list.append") [acc,x]) (fun _ s₆=>∃ m,m<n/\I m s₆) (fun _ _=>False) s₅) (fun _ _=>False) s₄
      else ∃ m,m<n/\I m s₄) (fun _ _=>False) s₃) (fun _ _=>False) s₂) (fun _ _=>False) s₁) (fun _ _=>False) s)
  (n:Nat) (h:I n s):pW (aW prog w) A (.compLoop (.ListComp elt [⟨target,iter,ifs,0⟩] scope pos) 0 it acc env) R s:=by
 refine codeAny_loop rfl I (fun n s hI=>?_) n h
 show aN _ A ((compTurn (.ListComp elt [⟨target,iter,ifs,0⟩] scope pos) 0 it acc env).onRaise (fun x=>do noteFrame x env; theTreesLotGoes x)) _ _ s
 refine wpAny_noted ?_
 rw[compTurn_list]
 refine aH (wpAny_standAt (aH (lR (turn n s hI) (fun r s₁ h₁=>?_) fun _ _ h'=>h'.elim)))
 cases r with
 | none=>exact aT h₁
 | some v=>
  refine aH (lR h₁ (fun _ s₂ h₂=>?_) fun _ _ h'=>h'.elim)
  refine aH (lR h₂ (fun _ s₃ h₃=>aH (lR h₃ (fun ok s₄ h₄=>?_) fun _ _ h'=>h'.elim)) fun _ _ h'=>h'.elim)
  cases ok with
  | false=>exact aT ⟨rfl,h₄⟩
  | true=>
   exact aH (aH (lR h₄ (fun x s₅ h₅=>aH (lR h₅ (fun _ s₆ h₆=>aT (aT ⟨rfl,h₆⟩)) fun _ _ h'=>h'.elim)) fun _ _ h'=>h'.elim))
end
theorem cellOf_eq{n:aC}{c:aD}(h:env.cells.lookup n=some c):cellOf env n=pure c:=by
 unfold cellOf
 rw[h]
def fF (env:Env):List (aC×mP)->List (aC×aD)->List (aC×aD)
 | [],cs=>cs
 | (n,k)::r,cs=>fF env r (if (k == fX)=true then(match env.cells.lookup n with | some c=>(n,c)::cs | none=>cs) else cs)
theorem YC(h : ∀ n,(n,fX)∈sc.names -> ∃ c,env.cells.lookup n=some c):closureFor sc env=pure (fF env sc.names []):=by
 unfold closureFor
 generalize sc.names=l at h
 have go : ∀ (l:List (aC×mP)) (cs:List (aC×aD)),(∀ n,(n,fX)∈l -> ∃ c,env.cells.lookup n=some c) ->
   (forIn l cs (fun(x:aC×mP) (r:List (aC×aD))=>if (x.2 == fX)=true then(do let c ← cellOf env x.1; pure (BO ((x.1,c)::r))) else pure (BO r)):Sem (List (aC×aD)))=pure (fF env l cs):=by
  intro l
  induction l with
  | nil=>intro cs _; rfl
  | cons p r ih=>
   intro cs hl
   obtain⟨n,k⟩:=p
   rw[Cf]
   have hr : ∀ n,(n,fX)∈r -> ∃ c,env.cells.lookup n=some c:=fun n hn=>hl n (bT _ hn)
   cases hk:(k == fX) with
   | true=>
    have ek:k=fX:=by simpa using hk
    subst ek
    obtain⟨c,hc⟩:=hl n bO
    have e1:fF env ((n,fX)::r) cs=fF env r ((n,c)::cs):=by
     show fF env r (if (fX == fX)=true then(match env.cells.lookup n with | some c=>(n,c)::cs | none=>cs) else cs)=_
     rw[hc]; rfl
    rw[e1]
    simp only[cellOf_eq hc,hk,if_true]
    exact ih ((n,c)::cs) hr
   | false=>
    have e1:fF env ((n,k)::r) cs=fF env r cs:=by
     show fF env r (if (k == fX)=true then(match env.cells.lookup n with | some c=>(n,c)::cs | none=>cs) else cs)=_
     rw[hk]; rfl
    rw[e1]
    simp only[hk,rZ,if_false]
    exact ih cs hr
 have e:=go l [] h
 simp only[e]
 rfl
theorem LD : ∀ (l:List (aC×mP)) (cs:List (aC×aD)),(∀ x c,cs.lookup x=some c->env.cells.lookup x=some c) -> ∀ x c,(fF env l cs).lookup x=some c->env.cells.lookup x=some c
 | [],cs,h,x,c,e=>h x c e
 | (n,k)::r,cs,h,x,c,e=>by
  refine LD r _ ?_ x c e
  intro y d q
  by_cases hk:(k == fX)=true
  ·rw[if_pos hk] at q
   cases hc:env.cells.lookup n with
   | none=>rw[hc] at q; exact h y d q
   | some a=>
    rw[hc] at q
    by_cases hy:(y == n)=true
    ·simp only[lV,hy] at q
     have:y=n:=by simpa using hy
     rw[this,hc]; exact q
    ·have hy':(y == n)=false:=by simpa using hy
     simp only[lV,hy'] at q
     exact h y d q
  ·rw[if_neg hk] at q; exact h y d q
theorem XO{c:aD}(hx:env.cells.lookup x=some c) : ∀ (l:List (aC×mP)) (cs:List (aC×aD)),cs.lookup x=some c->(fF env l cs).lookup x=some c
 | [],cs,h=>h
 | (n,k)::r,cs,h=>by
  refine XO hx r _ ?_
  by_cases hk:(k == fX)=true
  ·rw[if_pos hk]
   cases hc:env.cells.lookup n with
   | none=>exact h
   | some a=>
    show FY x ((n,a)::cs)=some c
    by_cases hy:(x == n)=true
    ·have:x=n:=by simpa using hy
     subst this
     rw[hx] at hc; cases hc
     simp[lV]
    ·have hy':(x == n)=false:=by simpa using hy
     simp only[lV,hy']; exact h
  ·rw[if_neg hk]; exact h
theorem LG{c:aD}(hx:env.cells.lookup x=some c) : ∀ (l:List (aC×mP)) (cs:List (aC×aD)),(x,fX)∈l->(fF env l cs).lookup x=some c
 | [],cs,h=>by simp at h
 | (n,k)::r,cs,h=>by
  rcases cY.mp h with e | h
  ·cases e
   refine XO hx r _ ?_
   rw[if_pos (by rfl),hx]
   simp[lV]
  ·exact LG hx r _ h
theorem XU(x:aC):(xJ sc env).names.lookup x=(sc.names.lookup x).map fun k=>if (k == fX&&env.scope.kind == .function&&env.kindOf x == some .cell)=true then NameKind.cell else k:=by
 unfold xJ
 show FY x (sc.names.map _)=_
 induction sc.names with
 | nil=>rfl
 | cons p r ih=>
  obtain⟨n,k⟩:=p
  show FY x ((if (k == fX&&env.scope.kind == .function&&env.kindOf n == some .cell)=true then(n,NameKind.cell) else(n,k))::List.map _ r)=_
  by_cases hy:(x == n)=true
  ·have:x=n:=by simpa using hy
   subst this
   by_cases hc:(k == fX&&env.scope.kind == .function&&env.kindOf x == some .cell)=true
   ·rw[if_pos hc]
    simp only[lV,hy,oU]
    rw[if_pos hc]
   ·rw[if_neg hc]
    simp only[lV,hy,oU]
    rw[if_neg hc]
  ·have hy':(x == n)=false:=by simpa using hy
   have e2:FY x ((n,k)::r)=FY x r:=by simp only[lV,hy']
   rw[e2]
   by_cases hc:(k == fX&&env.scope.kind == .function&&env.kindOf n == some .cell)=true
   ·rw[if_pos hc]
    simp only[lV,hy']
    exact ih
   ·rw[if_neg hc]
    simp only[lV,hy']
    exact ih
theorem lookup_mem {α:Type}{v:α} : ∀ {l:List (aC×α)},l.lookup x=some v->(x,v)∈l
 | [],h=>by simp at h
 | (n,k)::r,h=>by
  by_cases hy:(x == n)=true
  ·have:x=n:=by simpa using hy
   subst this
   simp[lV] at h
   subst h
   exact bO
  ·have hy':(x == n)=false:=by simpa using hy
   simp only[lV,hy'] at h
   exact bT _ (lookup_mem h)
def hW (X:Cx)(N:List aC)(sc:iV)(cl:List (aC×aD))(C:aD)(s₀:aJ)(H₀:Hp)(ex:List aD):Cx:=
 { X with N:=N,s₀:=s₀,H₀:=H₀,env:=compEnvC sc cl C X.env,outer:=X.stack,ex:=ex,fn:=fun _=>false,pn:=[],xe:=fun _ _=>False }
structure CompScope (X:Cx)(N:List aC)(cap:List (Option Nat))(sc:iV):Prop where
 kind:sc.kind = .function
 nocell : ∀ y∈sc.names,y.2 ≠ .cell
 nm : ∀ y∈sc.names,y.2 = .local->sc.names.lookup y.1=some .local
 fre : ∀ y∈sc.names,y.2 = .free->X.env.scope.names.lookup y.1=some .cell \/ X.env.scope.names.lookup y.1=some .free
 len:cap.length=N.length
 cap : ∀ (i j:Nat),cap[i]?=some (some j) -> ∃ x,N[i]?=some x/\X.N[j]?=some x/\sc.names.lookup x=some .free
def uU (cap:List (Option Nat))(σ:St):St:=cap.map fun o=>o.bind fun j=>(σ[j]?).join
def uN (X:Cx)(ifs:List aS)(t:TT):Prop:=
 ∀ (pins:List (aD×bG)) (s:aJ) (σ:St) (H:Hp) (Q:Bool->Hp->Prop),Inv X pins σ H s->t σ H Q ->
  aN (aW X.prog X.w) X.A (forIn ifs true fun c r=>if r=true then do let ok ← isTrue c X.env (bM c X.env); pure (BO ok) else pure (BO r)) (TP X pins σ Q) X.xe s
def Ek:TT:=fun _ H Q=>Q true H
theorem La:uN X [] Ek:=fun _ _ _ H _ I h=>wpAny_tests_nil ⟨H,I,h⟩
theorem Lk{t:TT}(h:PT X c t):uN X [c] t:=fun pins s σ H Q I hw=>wpAny_tests_one (h pins s σ H Q I hw)
def OW (cap:List (Option Nat))(J:It)(g:TG)(tc:TT)(te:TE)(σ:St)(H1:Hp)(Q:VK):Prop:=∀ D,H1 D=none ->
 ∃ W:Nat->Nat->List V->St->Hp->Prop,(∃ m,W 0 m [] (uU cap σ) (upd H1 D (.lst []))) /\
  ∀ i m ys σ' H',W i m ys σ' H'->H' D=some (.lst ys)/\((J.stop i H'/\Q (.ref D) H') \/
   (J.go i H'/\ys.length<sizeLine /\ ∃ M:List V->St->Hp->Prop,(∀ zs σ2 H2,M zs σ2 H2 -> ∃ m',m'<m/\W (i+1) m' zs σ2 H2) /\ ∀ x H2,J.yld i H' x H2->g x σ' H2 fun σ3 H3=>tc σ3 H3 fun b H4=>
    if b=true then te σ3 H4 fun y H5=>H5 D=some (.lst ys)/\M (ys++[y]) σ3 (upd H5 D (.lst (ys++[y]))) else M ys σ3 H4))
def tLC (cap:List (Option Nat))(wi:TI)(g:TG)(tc:TT)(te:TE):TE:=fun σ H Q=>wi σ H fun J H1=>OW cap J g tc te σ H1 Q
theorem CompScope.cells (S:CompScope X N cap sc)(ok:X.Ok) : ∀ n,(n,fX)∈sc.names -> ∃ c,X.env.cells.lookup n=some c:=fun n hn=>ok.has n (S.fre _ hn rfl)
theorem Yl (S:CompScope X N cap sc){fp:List aD}(I:Inv X pins σ H s)(hf : ∀ b∈fp,jA X pins H b)(hl : ∀ b∈fp,b<s.heap.objs.size) :
  (hW X N sc (fF X.env sc.names []) s.heap.objs.size s H fp).Ok:=by
 have sub : ∀ x c,(fF X.env sc.names []).lookup x=some c->X.env.cells.lookup x=some c:=LD sc.names [] (fun x c e=>by simp at e)
 refine⟨I.ok.mod,?_,I.ok.glob,I.ok.blt,bI _,?_,?_,?_,I.ok.hd,I.ok.frames,.inl rfl,?_,I.bs,dS I.ok.bsz I.sz,?_,?_,I.stack,I.stkFree⟩
 ·exact S.kind
 ·intro x y c h1 h2
  exact I.ok.inj x y c (sub x c h1) (sub y c h2)
 ·intro x hx
  have hk:(xJ sc X.env).names.lookup x=some .cell \/ (xJ sc X.env).names.lookup x=some .free:=hx
  have hfree:sc.names.lookup x=some .free:=by
   rw[XU] at hk
   cases e:sc.names.lookup x with
   | none=>rw[e] at hk; simp at hk
   | some k=>
    rw[e] at hk
    have hm:=lookup_mem e
    have nc:=S.nocell _ hm
    simp only[oU,FT] at hk
    by_cases hc:(k == fX&&X.env.scope.kind == .function&&X.env.kindOf x == some .cell)=true
    ·have:(k == fX)=true:=by
      simp only[xX] at hc; exact hc.1.1
     rw[show k=fX by simpa using this]
    ·rw[if_neg hc] at hk
     rcases hk with q | q
     ·exact absurd q nc
     ·rw[q]
  obtain⟨c,hc⟩:=S.cells I.ok x (lookup_mem hfree)
  exact⟨c,LG hc _ _ (lookup_mem hfree)⟩
 ·intro x c h1 _
  exact absurd (show false=true from h1) jG
 ·intro b hb
  refine⟨dX (hl b hb),fun x c e=>(hf b hb).2.2.2.2.1 x c (sub x c e)⟩
 ·intro b o e hb
  rcases(hf b hb).2.2.2.1 with z | z
  ·exact I.ok.noex b o e z
  ·exact absurd (jV (cA e) (dS I.ok.bsz z)) (lB _)
 ·intro b hb hz
  obtain⟨_,h1,h2,_⟩:=hf b hb
  rcases cY.mp (I.stkSub b hz) with e | e
  ·exact h1 e
  ·exact h2 e
theorem To (S:CompScope X N cap sc){fp:List aD}{h':aY}{tk:Nat}(I:Inv X pins σ H s)(hf : ∀ b∈fp,jA X pins H b)(hl : ∀ b∈fp,b<s.heap.objs.size)
  (hn:h'.Ns s.heap.objs.size fun _=>none) (hk : ∀ b o,s.heap.get? b=some o->h'.get? b=some o) :
  Inv (hW X N sc (fF X.env sc.names []) s.heap.objs.size s H fp) [] (uU cap σ) H { s with heap:=h',toks:=tk }:=by
 have sub : ∀ x c,(fF X.env sc.names []).lookup x=some c->X.env.cells.lookup x=some c:=LD sc.names [] (fun x c e=>by simp at e)
 have fr:H s.heap.objs.size=none:=I.hok.fresh (bI _)
 refine⟨Yl S I hf hl,rfl,I.bare,Un.kept hk,⟨_,hn,fun i x v e1 e2 e3=>?_⟩,fun x c e=>?_,fr,fun x c e=>I.freeC x c (sub x c e),fun p hp=>by simp[hW] at hp,I.hok.kept hk,?_⟩
 ·have e2':(cap.map fun o=>o.bind fun j=>(σ[j]?).join)[i]?=some (some v):=e2
  rw[eQ] at e2'
  cases hc:cap[i]? with
  | none=>rw[hc] at e2'; simp at e2'
  | some o=>
   rw[hc] at e2'
   simp only[oU,FT] at e2'
   cases o with
   | none=>simp at e2'
   | some j=>
    have e2':(σ[j]?).join=some v:=e2'
    have ej:σ[j]?=some (some v):=by
     cases q:σ[j]? with
     | none=>rw[q] at e2'; simp at e2'
     | some z=>rw[q] at e2'; simp at e2'; rw[e2']
    obtain⟨y,n1,n2,fr1⟩:=S.cap i j hc
    have exy:x=y:=eY (e1.symm.trans n1)
    subst exy
    have hmem:=lookup_mem fr1
    have hkind:=S.fre _ hmem rfl
    obtain⟨m,_,hlk⟩:=I.loc
    obtain⟨u,r,l⟩:=hlk j x v n2 ej (.inr hkind)
    refine⟨u,r,.inr ⟨?_,?_⟩⟩
    ·show(xJ sc X.env).names.lookup x=some .cell \/ (xJ sc X.env).names.lookup x=some .free
     rw[XU,fr1]
     simp only[oU,FT]
     by_cases hc:(fX == fX&&X.env.scope.kind == .function&&X.env.kindOf x == some .cell)=true
     ·exact .inl (if_pos hc)
     ·exact .inr (if_neg hc)
    ·rcases l with⟨k1,_⟩ | ⟨_,c,hc1,hcell⟩
     ·exfalso
      have k1':X.env.scope.names.lookup x=some .local:=k1
      rcases hkind with q | q
      ·rw[k1'] at q; cases q
      ·rw[k1'] at q; cases q
     ·obtain⟨oc,h1,h2⟩:=hcell
      exact⟨c,LG hc1 _ _ hmem,oc,hk _ _ h1,h2⟩
 ·obtain⟨v,oc,h1,h2⟩:=I.cell x c (sub x c e)
  exact⟨v,oc,hk _ _ h1,h2⟩
 ·show(cap.map _).length=N.length
  rw[cZ,S.len]
theorem comp_back {fp:List aD}{cl:List (aC×aD)}{σ':St}{s':aJ}{pl:List (aD×bG)}(I:Inv X pins σ H s)(hf : ∀ b∈fp,jA X pins H b)
  (I':Inv (hW X N sc cl s.heap.objs.size s H fp) pl σ' H' s'):Inv X pins σ H' s':=
 I.call' I'.os (show Un (frs X.stack) fp H H' s.heap s'.heap from I'.base) I'.hok I'.bare fun b hb=>⟨(hf b hb).2.2.2.1,(hf b hb).2.1,(hf b hb).2.2.2.2.1,(hf b hb).2.2.2.2.2⟩
section
variable {wi:TI}{g:TG}{tc:TT}{te:TE}
def Block (X:Cx)(N:List aC)(sc:iV)(tg elt:aS)(ifs:List aS)(g:TG)(tc:TT)(te:TE):Prop:=
 ∀ (cl:List (aC×aD)) (C:aD) (s₀:aJ) (H₀:Hp) (ex:List aD),PG (hW X N sc cl C s₀ H₀ ex) tg g/\uN (hW X N sc cl C s₀ H₀ ex) ifs tc/\PE (hW X N sc cl C s₀ H₀ ex) elt te
theorem RI{RR:aE->aD->Result->aJ->Prop}{E:aE->aJ->Prop}(hc:X.calm=true)(S:CompScope X N cap sc)(hb:Block X N sc tg elt ifs g tc te)
  {it:aD} {fp:List aD} {tn:Nat->aY->Prop} {J:It} {Q:VK} (I:Inv X pins σ H s) (T:Turn X.prog X.w X.K tg J fp it tn) (st:tn 0 s.heap) (hf : ∀ b∈fp,jA X pins H b)
  (q:OW cap J g tc te σ H Q)
  (hRR : ∀ (D:aD) (s₀:aJ) (H₀:Hp) (σ':St) (H':Hp) (s':aJ),Inv X pins σ H₀ s₀->(∀ b∈fp,jA X pins H₀ b)->Inv (hW X N sc (fF X.env sc.names []) s₀.heap.objs.size s₀ H₀ fp) [] σ' H' s'->Q (.ref D) H' ->
   RR (.ref D) s₀.heap.objs.size (.ok .next) s') :
  aN (aW X.prog X.w) X.A (newList []) (fun acc s₃=>aN (aW X.prog X.w) X.A (newFunctionEnv sc X.env.globals (fF X.env sc.names []) [] X.env.qual none .none (some X.env)) (fun cenv s₄=>
   pW (aW X.prog X.w) X.A (.compStart (.ListComp elt [⟨tg,iter,ifs,0⟩] sc pos) 0 (.ref it) acc { cenv with scope:=xJ sc X.env }) (RR acc cenv.locals) s₄) E s₃) E s:=by
 have hl : ∀ b∈fp,b<s.heap.objs.size:=fun b hb=>by
  obtain⟨o,e,_⟩:=T.obj 0 _ st b hb
  exact cA e
 refine lQ (wpAny_newFunctionEnv S.nocell (by intro y hy; simp at hy) (fun h₁ hns₁ hsb₁=>?_) S.kind)
 dsimp only at hns₁ hsb₁ ⊢
 have I0:Inv X pins σ (upd H s.heap.objs.size (.lst [])) { s with heap:=s.heap.push { cls:=.type "list",data:=.seq ([]:List aE).toArray },toks:=s.toks }:=I.lnew (ys:=[]) .nil (by simp)
 obtain⟨W,⟨m0,w0⟩,turn⟩:=q s.heap.objs.size I.fresh
 generalize hs0:({ s with heap:=s.heap.push { cls:=.type "list",data:=.seq ([]:List aE).toArray },toks:=s.toks }:aJ)=s0 at I0
 have hh:s.heap.push { cls:=.type "list",dict:=none,data:=.seq ([]:List aE).toArray }=s0.heap:=by rw[← hs0]
 have ht0:s0.toks=s.toks:=by rw[← hs0]
 have hg0:s0.gens=s.gens/\s0.drawn=s.drawn/\s0.os=s.os:=by rw[← hs0]; exact⟨rfl,rfl,rfl⟩
 rw[hh] at hns₁ hsb₁ ⊢
 have old0 : ∀ b o,s.heap.get? b=some o->s0.heap.get? b=some o:=fun b o e=>by rw[← hh]; exact cC _ e
 have old1 : ∀ b o,s0.heap.get? b=some o->h₁.get? b=some o:=fun b o e=>hsb₁.extBut b o (dX (cA e)) (cC _ e)
 have hl0 : ∀ b∈fp,b<s0.heap.objs.size:=fun b hb=>by
  obtain⟨o,e,_⟩:=T.obj 0 _ st b hb
  exact cA (old0 b o e)
 have hf0 : ∀ b∈fp,jA X pins (upd H s.heap.objs.size (.lst [])) b:=fun b hb=>by
  refine⟨?_,(hf b hb).2⟩
  rw[cP (dX (hl b hb))]
  exact(hf b hb).1
 have I1:Inv (hW X N sc (fF X.env sc.names []) s0.heap.objs.size s0 (upd H s.heap.objs.size (.lst [])) fp) [] (uU cap σ) (upd H s.heap.objs.size (.lst [])) { s0 with heap:=h₁,toks:=s.toks+0 }:=
  To S I0 hf0 hl0 hns₁ old1
 obtain⟨pg,pf,pe⟩:=hb (fF X.env sc.names []) s0.heap.objs.size s0 (upd H s.heap.objs.size (.lst [])) fp
 have st1:tn 0 h₁:=T.keep _ _ _ st fun b hb o e=>old1 b o (old0 b o e)
 have stat : ∀ {H':Hp},(∀ b∈fp,H' b=none) -> ∀ b∈fp,jA (hW X N sc (fF X.env sc.names []) s0.heap.objs.size s0 (upd H s.heap.objs.size (.lst [])) fp) [] H' b:=fun hn b hb=>
  ⟨hn b hb,(I1.ok.exf b hb).1,I1.ok.exfs b hb,.inl hb,(I1.ok.exf b hb).2,fun p hp=>by simp[hW] at hp⟩
 have loop : ∀ s3:aJ,s3 = { s0 with heap:=h₁,toks:=s.toks+0 } ->
   pW (aW X.prog X.w) X.A (.compLoop (.ListComp elt [⟨tg,iter,ifs,0⟩] sc pos) 0 (.ref it) (.ref s.heap.objs.size) (compEnvC sc (fF X.env sc.names []) s0.heap.objs.size X.env)) (RR (.ref s.heap.objs.size) s0.heap.objs.size) s3:=by
  rintro s3 rfl
  refine Qn (fun n s'=>∃ i ys σ' H',Inv (hW X N sc (fF X.env sc.names []) s0.heap.objs.size s0 (upd H s.heap.objs.size (.lst [])) fp) [] σ' H' s'/\tn i s'.heap/\(∀ b∈fp,H' b=none)/\W i n ys σ' H') ?_ m0
   ⟨0,[],uU cap σ,_,I1,st1,fun b hb=>(hf0 b hb).1,w0⟩
  rintro n s3 ⟨i,ys,σ3,H3,I3,st3,fr3,w3⟩
  obtain⟨hD,h3⟩:=turn i n ys σ3 H3 w3
  rcases h3 with⟨stop,qn⟩ | ⟨go,hlen,M,hM,step⟩
  ·refine thn (T.done (hW X N sc (fF X.env sc.names []) s0.heap.objs.size s0 (upd H s.heap.objs.size (.lst [])) fp) rfl rfl rfl hc i [] s3 σ3 H3 (fun _ _=>False) I3 (stat fr3) st3 stop) fun r s4 gh=>?_
   obtain⟨hr,I4⟩:=gh
   subst hr
   exact hRR _ s0 _ σ3 H3 s4 I0 hf0 I4 qn
  ·refine thn (T.item (hW X N sc (fF X.env sc.names []) s0.heap.objs.size s0 (upd H s.heap.objs.size (.lst [])) fp) rfl rfl rfl hc i [] s3 σ3 H3 (fun _ _=>False) I3 (stat fr3) st3 go) fun r s4 gh=>?_
   obtain⟨u,hr,h4⟩:=gh
   subst hr
   refine thn h4 fun _ s5 gh=>?_
   obtain⟨x,H5,I5,r5,y5,st5,fr5⟩:=gh
   have I5':=I5.pinned (stat fr5) (T.obj _ _ st5)
   refine thn (pg _ s5 σ3 H5 x u _ I5' r5 (step x H5 y5)) fun _ s6 gh=>?_
   obtain⟨σ6,H6,I6,q6⟩:=gh
   refine thn (pf _ s6 σ6 H6 _ I6 q6) fun b s7 gh=>?_
   obtain⟨H7,I7,q7⟩:=gh
   have again : ∀ {s8:aJ} {H8:Hp} {zs:List V},Inv (hW X N sc (fF X.env sc.names []) s0.heap.objs.size s0 (upd H s.heap.objs.size (.lst [])) fp) ([]++yN fp s5.heap) σ6 H8 s8->M zs σ6 H8 ->
     ∃ m,m<n /\ ∃ i ys σ' H',Inv (hW X N sc (fF X.env sc.names []) s0.heap.objs.size s0 (upd H s.heap.objs.size (.lst [])) fp) [] σ' H' s8/\tn i s8.heap/\(∀ b∈fp,H' b=none)/\W i m ys σ' H':=fun {s8 H8 zs} I8 w8=>by
    obtain⟨m',hm,w8⟩:=hM _ _ _ w8
    refine⟨m',hm,i+1,zs,σ6,H8,I8.unpinned,T.keep _ _ _ st5 fun b hb o e=>(I8.pin (b,o) (mR _ (mR _ (EL hb e)))).1,fun b hb=>?_,w8⟩
    obtain⟨o,e,d⟩:=T.obj _ _ st5 b hb
    exact(I8.pin (b,o) (mR _ (mR _ (EL hb e)))).2.1
   cases b with
   | false=>
    rw[if_neg jG] at q7 ⊢
    exact again I7 q7
   | true=>
    rw[if_pos rfl] at q7 ⊢
    refine thn (pe _ s7 σ6 H7 _ I7 q7) fun v s8 gh=>?_
    obtain⟨y,H8,I8,r8,hD8,w8⟩:=gh
    refine thn (KM _ s8 σ6 H8 (.ref s.heap.objs.size) [y] (.ref s.heap.objs.size) [v] (fun _ H9=>H9=upd H8 s.heap.objs.size (.lst (ys++[y]))) I8 rfl (.cons r8 .nil) ⟨_,ys,y,rfl,rfl,hD8,hlen,rfl⟩) fun _ s9 gh=>?_
    obtain⟨_,H9,I9,_,e9⟩:=gh
    subst e9
    exact again I9 w8
 have e3:({ s with heap:=h₁,toks:=s.toks+([]:List (aC×aE)).length }:aJ) = { s0 with heap:=h₁,toks:=s.toks+0 }:=by
  rw[← hs0]; rfl
 have fin:=codeAny_compStart_list (loop _ rfl) (T.self X.A 0 _ _ _ st1 (loop _ rfl))
 rw[← e3] at fin
 exact fin
theorem Fv (hc:X.calm=true)(S:CompScope X N cap sc)(hi:PI X tg iter wi)(hb:Block X N sc tg elt ifs g tc te)(hs : ∀ x,uE iter X.env x=pure x:=by intro _; rfl) :
  PE X (.ListComp elt [⟨tg,iter,ifs,0⟩] sc pos) (tLC cap wi g tc te):=by
 intro pins s σ H Q I h
 rw[eval_ListComp]
 refine wpAny_comprehension_free (use:=none) rfl hs (YC (S.cells I.ok)) S.kind S.nm (thn (hi pins s σ H _ I h) fun v s1 h1=>thn h1 fun itv s2 h2=>?_)
 obtain⟨it,fp,tn,J,H2,e,I2,T,st2,f2,q2⟩:=h2
 subst e
 refine RI (RR:=fun acc C=>compPost (aW X.prog X.w) X.A X.xe none (EP X pins σ Q) acc C) hc S hb I2 T st2 f2 q2 ?_
 intro D s₀ H₀ σ' H' s' I0 f0 I' qD
 obtain⟨m,hn,_⟩:=id I'.loc
 have IX:=comp_back I0 f0 I'
 refine⟨m,hn,fun h' hs'=>⟨.ref D,H',?_,rfl,qD⟩⟩
 exact IX.turned (t':=s'.toks) (it:=s₀.heap.objs.size) (fun b o hb e=>(hs'.2 b hb).trans e) I'.free (nQ I0.lt) (.inr I0.sz) (fun x c e z=>by
  obtain⟨v,oc,h1,_⟩:=I0.cell x c e
  exact absurd (cA h1) (by rw[z]; exact lB _)) fun p hp z=>by
   have h1:=(I0.pin p hp).1
   exact absurd (cA h1) (by rw[z]; exact lB _)
theorem Tf(hc:X.calm=true)(hN:X.N.Nodup)(hi':X.N[i]?=some x)(hx:jY X.env.scope x)(S:CompScope X N cap sc)(hi:PI X tg iter wi)(hb:Block X N sc tg elt ifs g tc te)
  (hsw:jU (.ListComp elt [⟨tg,iter,ifs,0⟩] sc pos) (some (.Name x px)) spos.line X.env=pure true:=by rfl)
  (hs : ∀ x,uE iter X.env x=pure x:=by intro _; rfl) (hf:X.fn x=true \/ X.env.scope.names.lookup x=some .local:=by first | exact .inl rfl | exact .inr rfl | assumption) :
  PS X (.Assign [.Name x px] (.ListComp elt [⟨tg,iter,ifs,0⟩] sc pos) spos) (GX (tLC cap wi g tc te) (FG i)):=by
 intro pins s σ H D I h
 rw[exec_Assign_Name_used _ _ _ _ hsw]
 refine aH (wpAny_standAt (aH ?_))
 show aN _ X.A (do let _ ← comprehension (.ListComp elt [⟨tg,iter,ifs,0⟩] sc pos) sc X.env _ (newList []) false (bM iter X.env) (some (kM (.Name x px) X.env))) _ _ s
 refine aH (lR (wpAny_comprehension_free (use:=some (kM (.Name x px) X.env)) (Q:=fun _ s'=>SP X pins D .next s') rfl hs (YC (S.cells I.ok)) S.kind S.nm
  (thn (hi pins s σ H _ I h) fun v s1 h1=>thn h1 fun itv s2 h2=>?_)) (fun _ s' hq=>aT (aT hq)) fun _ _ e=>e)
 obtain⟨it,fp,tn,J,H2,e,I2,T,st2,f2,q2⟩:=h2
 subst e
 refine RI (Q:=fun y H1=>FG i y σ H1 D.nx) (RR:=fun acc C=>compPost (aW X.prog X.w) X.A X.xe (some (kM (.Name x px) X.env)) (fun _ s'=>SP X pins D .next s') acc C) hc S hb I2 T st2 f2 q2 ?_
 intro D' s₀ H₀ σ' H' s' I0 f0 I' qD
 obtain⟨m,hn,_⟩:=id I'.loc
 have IX:=comp_back I0 f0 I'
 have cellNe : ∀ x c,X.env.cells.lookup x=some c->c≠s₀.heap.objs.size:=fun x c e z=>by
  obtain⟨v,oc,h1,_⟩:=I0.cell x c e
  exact absurd (cA h1) (by rw[z]; exact lB _)
 show aN _ X.A (kM (.Name x px) X.env (.ref D')) _ _ _
 refine wpAny_assign_Name (WD IX hN hi' hx (show RelV (.ref D') (.ref D') from rfl) (fun s3 I3 ch=>?_) hf)
 obtain⟨a,sb,ha⟩:=ch
 have hne:s₀.heap.objs.size≠a:=by
  rcases ha with z | z
  ·rw[z]; exact nQ I0.lt
  ·exact fun q=>cellNe x a z q.symm
 refine⟨m,Heap.Ns.sameBut hn sb hne,fun h' hs'=>⟨_,H',?_,qD⟩⟩
 exact I3.turned (t':=s3.toks) (it:=s₀.heap.objs.size) (fun b o hb e=>(hs'.2 b hb).trans e) I'.free (nQ I0.lt) (.inr I0.sz) cellNe fun p hp z=>by
  have h1:=(I0.pin p hp).1
  exact absurd (cA h1) (by rw[z]; exact lB _)
end
def RA (out:List (aC×mP))(XN N:List aC)(cap:List (Option Nat))(ns:List (aC×mP)):Bool:=
 ns.all (fun y=>y.2 != .cell)&&ns.all (fun y=>y.2 != .local||ns.lookup y.1 == some .local)&&ns.all (fun y=>y.2 != .free||out.lookup y.1 == some .cell||out.lookup y.1 == some .free) &&
 cap.length == N.length&&(cap.zip N).all (fun p=>match p.1 with | none=>true | some j=>XN[j]? == some p.2&&ns.lookup p.2 == some .free)
theorem iC{out:List (aC×mP)}{XN:List aC}(h1:X.env.scope.names=out)(h2:X.N=XN)(chk:RA out XN N cap sc.names=true)(hk:sc.kind = .function):CompScope X N cap sc:=by
 unfold RA at chk
 simp only[xX,fH,bne_iff_ne,ne_eq,Bool.or_eq_true,beq_iff_eq] at chk
 obtain⟨⟨⟨⟨c1,c2⟩,c3⟩,c4⟩,c5⟩:=chk
 refine⟨hk,c1,fun y hy e=>?_,fun y hy e=>?_,c4,fun i j e=>?_⟩
 ·rcases c2 y hy with q | q
  ·exact absurd e q
  ·exact q
 ·rw[h1]
  rcases c3 y hy with(q | q) | q
  ·exact absurd e q
  ·exact .inl q
  ·exact .inr q
 ·have hi:i<cap.length:=(dD.mp e).1
  have hi':i<N.length:=by omega
  have hm:(cap[i],N[i])∈cap.zip N:=by
   have:(cap.zip N)[i]?=some (cap[i],N[i]):=by
    rw[List.getElem?_zip_eq_some]
    exact⟨jX hi,jX hi'⟩
   exact fL this
  have q:=c5 _ hm
  have ec:cap[i]=some j:=by
   rw[jX hi] at e
   exact eY e
  rw[ec] at q
  simp only[xX,beq_iff_eq] at q
  exact⟨N[i],jX hi',by rw[h2]; exact q.1,q.2⟩
abbrev Ext (H H':Hp):Prop:=∀ b o,H b=some o->H' b=some o
theorem Ext.refl:Ext H H:=fun _ _ e=>e
theorem Ext.trans {H2:Hp}(a:Ext H H1)(b:Ext H1 H2):Ext H H2:=fun x o e=>b x o (a x o e)
theorem Ext.new{p:aD}(n:H p=none):Ext H (upd H p o):=fun b u e=>by
 rw[cP (jT e n)]; exact e
theorem Ext.rd(x:Ext H H'){u:HO}(r:Rd H a u):Rd H' a u:=by
 rcases r with r | ⟨o,r⟩
 ·exact .inl (x _ _ r)
 ·exact .inr ⟨o,x _ _ r⟩
theorem Ext.sqL(x:Ext H H')(h:SqL K H a xs):SqL K H' a xs:=h.imp x.rd id
theorem Ext.none(x:Ext H H')(h:H' a=Option.none):H a=Option.none:=by
 cases e:H a with
 | none=>rfl
 | some o=>rw[x a o e] at h; cases h
open Classical in
def hid (H:Hp)(P:aD->Prop):Hp:=fun a=>if P a then none else H a
theorem Acy:hid H P a=some o ↔ ¬ P a/\H a=some o:=by
 unfold hid
 by_cases h:P a <;> simp[h]
theorem gJ(n : ¬ P a)(e:H a=some o):hid H P a=some o:=Acy.mpr ⟨n,e⟩
theorem Aau:Ext (hid H P) H:=fun _ _ e=>(Acy.mp e).2
theorem cT(x:Ext H H'):Ext (hid H P) (hid H' P):=fun b o e=>by
 obtain⟨n,e⟩:=Acy.mp e
 exact gJ n (x b o e)
theorem iQ{P':aD->Prop}(s : ∀ a,P' a->P a):Ext (hid H P) (hid H P'):=fun b o e=>by
 obtain⟨n,e⟩:=Acy.mp e
 exact gJ (fun q=>n (s b q)) e
abbrev DQ:=(Nat×List (aI×V)) ⊕ (Nat×List (List aA×V))
def dO:DQ->HO
 | .inl kvs=>.dK kvs.1 kvs.2
 | .inr ts=>.dT ts.1 ts.2
def Hid (P:aD->Prop)(H:Hp):Prop:=∀ a,P a->(∃ xs,H a=some (.lst xs)) \/ ∃ q:DQ,H a=some (dO q)
theorem Hid.ext(h:Hid P H)(x:Ext H H'):Hid P H':=fun a p=>(h a p).imp (fun⟨xs,e⟩=>⟨xs,x _ _ e⟩) fun⟨xs,e⟩=>⟨xs,x _ _ e⟩
theorem Hid.new(h:Hid P H)(n:H a=none) : ¬ P a:=fun p=>by
 rcases h a p with⟨xs,e⟩ | ⟨xs,e⟩ <;> rw[n] at e <;> cases e
abbrev orL (P:aD->Prop)(F:List aD):aD->Prop:=fun a=>P a \/ a∈F
theorem RD:orL P []=P:=by
 funext a
 simp[orL]
def kD:aI->aA
 | .inl i=>.int i
 | .inr x=>.str x
def OY (a:aD)(kvs:List (V×V)):HO:=.ext fun h=>kvs.length≤sizeLine /\ ∃ o es ep,h.get? a=some o/\o.ExactDict/\o.data = .dict es ep/\iF (fun(p:V×V) (e:nX)=>RelV p.1 e.key/\RelV p.2 e.val) kvs es.toList
mutual
def Abq (K:aK)(H:Hp):aA->V->Prop
 | .none,v=>v = .non
 | .bool b,v=>v = .bl b
 | .int i,v=>v = .int i
 | .str x,v=>v = .str x/\cQ (.str x)=true
 | .list ds,v=>∃ a xs,v = .ref a/\SqL K H a xs/\Aas K H ds xs
 | .tuple ds,v=>∃ a xs,v = .ref a/\H a=some (.tup xs)/\Aas K H ds xs
 | .dict kds,v=>∃ a,v = .ref a/\((∃ kvs:Nat×List (aI×V),H a=some (.dK kvs.1 kvs.2)/\Ab4 K H kds kvs.2) \/ (∃ ts:Nat×List (List aA×V),H a=some (.dT ts.1 ts.2)/\Ayh K H kds ts.2) \/ ∃ xs,H a=some (OY a xs)/\Ayp K H kds xs)
def Aas (K:aK)(H:Hp):List aA->List V->Prop
 | [],xs=>xs=[]
 | d::ds,xs=>∃ x r,xs=x::r/\Abq K H d x/\Aas K H ds r
def Ab4 (K:aK)(H:Hp):List (aA×aA)->List (aI×V)->Prop
 | [],xs=>xs=[]
 | (k,d)::ds,xs=>∃ k' x r,xs=(k',x)::r/\k=kD k'/\Abq K H d x/\Ab4 K H ds r
def Abu (K:aK)(H:Hp):List (aA×aA)->List (List aA×V)->Prop
 | [],xs=>xs=[]
 | (k,d)::ds,xs=>∃ k' x r,xs=(k',x)::r/\(k = .tuple k'/\bU k'=true)/\Abq K H d x/\Abu K H ds r
def Ayh (K:aK)(H:Hp):List (aA×aA)->List (List aA×V)->Prop
 | [],_=>False
 | (k,_)::ds,xs=>k = .none/\Abu K H ds xs
def Ayp (K:aK)(H:Hp):List (aA×aA)->List (V×V)->Prop
 | [],_=>False
 | (k,m)::ds,xs=>k = .none/\ds=[]/\As4 K H m xs
def As4 (K:aK)(H:Hp):aA->List (V×V)->Prop
 | .list es,xs=>Ajo K H es xs
 | _,_=>False
def Ajo (K:aK)(H:Hp):List aA->List (V×V)->Prop
 | [],xs=>xs=[]
 | d::ds,xs=>∃ x r,xs=x::r/\Ax4 K H d x/\Ajo K H ds r
def Ax4 (K:aK)(H:Hp):aA->V×V->Prop
 | .tuple ds,x=>Aas K H ds [x.1,x.2]
 | _,_=>False
end
def plK:List (aA×aA)->Bool
 | (.none,_)::_=>false
 | _=>true
theorem Ab3:Abq K H .none v↔v = .non:=by simp[Abq]
theorem Aay {b:Bool}:Abq K H (.bool b) v↔v = .bl b:=by simp[Abq]
theorem Aan {b:Int}:Abq K H (.int b) v↔v = .int b:=by simp[Abq]
theorem Aa7 {b:aC}:Abq K H (.str b) v↔v = .str b/\cQ (.str b)=true:=by simp only[Abq]
theorem Abk:Abq K H (.list ds) v ↔ ∃ a xs,v = .ref a/\SqL K H a xs/\Aas K H ds xs:=by simp only[Abq]
theorem Aar:Abq K H (.tuple ds) v ↔ ∃ a xs,v = .ref a/\H a=some (.tup xs)/\Aas K H ds xs:=by simp only[Abq]
theorem Adv {ds:List (aA×aA)}:Abq K H (.dict ds) v ↔ ∃ a,v = .ref a/\((∃ kvs:Nat×List (aI×V),H a=some (.dK kvs.1 kvs.2)/\Ab4 K H ds kvs.2) \/ (∃ ts:Nat×List (List aA×V),H a=some (.dT ts.1 ts.2)/\Ayh K H ds ts.2) \/ ∃ xs,H a=some (OY a xs)/\Ayp K H ds xs):=by simp only[Abq]
theorem Ahi {k:aA}{ds:List (aA×aA)}{xs:List (V×V)}:Ayp K H ((k,m)::ds) xs↔k = .none/\ds=[]/\As4 K H m xs:=by simp only[Ayp]
theorem Nu{xs:List (V×V)}(h:As4 K H m xs) : ∃ es,m = .list es/\Ajo K H es xs:=by
 cases m with
 | list es=>exact⟨es,rfl,by simpa only[As4] using h⟩
 | _=>simp[As4] at h
theorem Aw2 {xs:List (V×V)}:Ajo K H [] xs↔xs=[]:=by simp[Ajo]
theorem Arx{xs:List (V×V)}:Ajo K H (d::ds) xs ↔ ∃ x r,xs=x::r/\Ax4 K H d x/\Ajo K H ds r:=by simp only[Ajo]
theorem KN {ds:List (aA×aA)}{xs:List (V×V)}(h:Ayp K H ds xs) : ∃ es,ds=[(.none,.list es)]/\Ajo K H es xs:=by
 cases ds with
 | nil=>simp[Ayp] at h
 | cons p r=>
  obtain⟨k,m⟩:=p
  obtain⟨rfl,rfl,h1⟩:=Ahi.mp h
  obtain⟨es,rfl,h2⟩:=Nu h1
  exact⟨es,rfl,h2⟩
theorem Acj {xs:List (List aA×V)}:Abu K H [] xs↔xs=[]:=by simp[Abu]
theorem Abm {k:aA}{ds:List (aA×aA)}{xs:List (List aA×V)}:Abu K H ((k,d)::ds) xs ↔ ∃ k' x r,xs=(k',x)::r/\(k = .tuple k'/\bU k'=true)/\Abq K H d x/\Abu K H ds r:=by simp only[Abu]
theorem Afl {k:aA}{ds:List (aA×aA)}{xs:List (List aA×V)}:Ayh K H ((k,m)::ds) xs↔k = .none/\Abu K H ds xs:=by simp only[Ayh]
theorem Vq {ds:List (aA×aA)}{xs:List (List aA×V)}(hk:plK ds=true) : ¬ Ayh K H ds xs:=by
 cases ds with
 | nil=>simp[Ayh]
 | cons p r=>
  obtain⟨k,d⟩:=p
  intro h
  rw[(Afl.mp h).1] at hk
  simp[plK] at hk
theorem rA {ds:List (aA×aA)}(hk:plK ds=true):Abq K H (.dict ds) v ↔ ∃ a,∃ kvs:Nat×List (aI×V),v = .ref a/\H a=some (.dK kvs.1 kvs.2)/\Ab4 K H ds kvs.2:=by
 rw[Adv]
 constructor
 ·rintro⟨a,e,⟨kvs,h,r⟩ | ⟨ts,h,r⟩ | ⟨xs,h,r⟩⟩
  ·exact⟨a,kvs,e,h,r⟩
  ·exact absurd r (Vq hk)
  ·obtain⟨es,rfl,_⟩:=KN r
   simp[plK] at hk
 ·rintro⟨a,kvs,e,h,r⟩
  exact⟨a,e,.inl ⟨kvs,h,r⟩⟩
theorem Xf {ds:List (aA×aA)}{kvs:Nat×List (aI×V)}(e:v = .ref a)(h:H a=some (.dK kvs.1 kvs.2))(r:Ab4 K H ds kvs.2):Abq K H (.dict ds) v:=Adv.mpr ⟨a,e,.inl ⟨kvs,h,r⟩⟩
theorem Aao:Aas K H [] xs↔xs=[]:=by simp[Aas]
theorem Aah:Aas K H (d::ds) xs ↔ ∃ x r,xs=x::r/\Abq K H d x/\Aas K H ds r:=by simp only[Aas]
theorem Acf {xs:List (aI×V)}:Ab4 K H [] xs↔xs=[]:=by simp[Ab4]
theorem Abh {k:aA}{ds:List (aA×aA)}{xs:List (aI×V)}:Ab4 K H ((k,d)::ds) xs ↔ ∃ k' x r,xs=(k',x)::r/\k=kD k'/\Abq K H d x/\Ab4 K H ds r:=by simp only[Ab4]
theorem nB{ds:List (aA×aA)}(hm : ∀ es,m ≠ .list es:=by intro _ z; cases z):Abq K H (.dict ((.none,m)::ds)) v ↔ ∃ a,∃ ts:Nat×List (List aA×V),v = .ref a/\H a=some (.dT ts.1 ts.2)/\Abu K H ds ts.2:=by
 rw[Adv]
 constructor
 ·rintro⟨a,e,⟨kvs,h,r⟩ | ⟨ts,h,r⟩ | ⟨xs,h,r⟩⟩
  ·obtain⟨k',_,_,_,ek,_⟩:=Abh.mp r
   cases k' <;> simp[kD] at ek
  ·exact⟨a,ts,e,h,(Afl.mp r).2⟩
  ·obtain⟨es,z,_⟩:=KN r
   cases z
   exact absurd rfl (hm es)
 ·rintro⟨a,ts,e,h,r⟩
  exact⟨a,e,.inr (.inl ⟨ts,h,Afl.mpr ⟨rfl,r⟩⟩)⟩
mutual
theorem Abq.ext(x:Ext H H') : ∀ {d:aA} {v:V},Abq K H d v->Abq K H' d v
 | .none,_,h=>Ab3.mpr (Ab3.mp h)
 | .bool _,_,h=>Aay.mpr (Aay.mp h)
 | .int _,_,h=>Aan.mpr (Aan.mp h)
 | .str _,_,h=>Aa7.mpr (Aa7.mp h)
 | .list ds,_,h=>by
  obtain⟨a,xs,e,s,r⟩:=Abk.mp h
  exact Abk.mpr ⟨a,xs,e,x.sqL s,Aas.ext x r⟩
 | .tuple ds,_,h=>by
  obtain⟨a,xs,e,s,r⟩:=Aar.mp h
  exact Aar.mpr ⟨a,xs,e,x _ _ s,Aas.ext x r⟩
 | .dict ds,_,h=>by
  obtain⟨a,e,⟨kvs,r,q⟩ | ⟨ts,r,q⟩ | ⟨xs,r,q⟩⟩:=Adv.mp h
  ·exact Adv.mpr ⟨a,e,.inl ⟨kvs,x _ _ r,Ab4.ext x q⟩⟩
  ·exact Adv.mpr ⟨a,e,.inr (.inl ⟨ts,x _ _ r,Ayh.ext x q⟩)⟩
  ·exact Adv.mpr ⟨a,e,.inr (.inr ⟨xs,x _ _ r,Ayp.ext x q⟩)⟩
theorem Aas.ext(x:Ext H H') : ∀ {ds:List aA} {vs:List V},Aas K H ds vs->Aas K H' ds vs
 | [],_,h=>Aao.mpr (Aao.mp h)
 | d::ds,_,h=>by
  obtain⟨y,r,e,h1,h2⟩:=Aah.mp h
  exact Aah.mpr ⟨y,r,e,Abq.ext x h1,Aas.ext x h2⟩
theorem Ab4.ext(x:Ext H H') : ∀ {ds:List (aA×aA)} {vs:List (aI×V)},Ab4 K H ds vs->Ab4 K H' ds vs
 | [],_,h=>Acf.mpr (Acf.mp h)
 | (k,d)::ds,_,h=>by
  obtain⟨k',y,r,e,ek,h1,h2⟩:=Abh.mp h
  exact Abh.mpr ⟨k',y,r,e,ek,Abq.ext x h1,Ab4.ext x h2⟩
theorem Abu.ext(x:Ext H H') : ∀ {ds:List (aA×aA)} {vs:List (List aA×V)},Abu K H ds vs->Abu K H' ds vs
 | [],_,h=>Acj.mpr (Acj.mp h)
 | (k,d)::ds,_,h=>by
  obtain⟨k',y,r,e,ek,h1,h2⟩:=Abm.mp h
  exact Abm.mpr ⟨k',y,r,e,ek,Abq.ext x h1,Abu.ext x h2⟩
theorem Ayh.ext(x:Ext H H') : ∀ {ds:List (aA×aA)} {vs:List (List aA×V)},Ayh K H ds vs->Ayh K H' ds vs
 | [],_,h=>absurd h (by simp[Ayh])
 | (k,d)::ds,_,h=>Afl.mpr ⟨(Afl.mp h).1,Abu.ext x (Afl.mp h).2⟩
theorem Ayp.ext(x:Ext H H') : ∀ {ds:List (aA×aA)} {vs:List (V×V)},Ayp K H ds vs->Ayp K H' ds vs
 | [],_,h=>absurd h (by simp[Ayp])
 | (k,d)::ds,_,h=>Ahi.mpr ⟨(Ahi.mp h).1,(Ahi.mp h).2.1,As4.ext x (Ahi.mp h).2.2⟩
theorem As4.ext(x:Ext H H') : ∀ {d:aA} {vs:List (V×V)},As4 K H d vs->As4 K H' d vs
 | .list es,_,h=>by
  rw[As4] at h ⊢
  exact Ajo.ext x h
 | .none,_,h=>absurd h (by simp[As4])
 | .bool _,_,h=>absurd h (by simp[As4])
 | .int _,_,h=>absurd h (by simp[As4])
 | .str _,_,h=>absurd h (by simp[As4])
 | .tuple _,_,h=>absurd h (by simp[As4])
 | .dict _,_,h=>absurd h (by simp[As4])
theorem Ajo.ext(x:Ext H H') : ∀ {ds:List aA} {vs:List (V×V)},Ajo K H ds vs->Ajo K H' ds vs
 | [],_,h=>Aw2.mpr (Aw2.mp h)
 | d::ds,_,h=>by
  obtain⟨y,r,e,h1,h2⟩:=Arx.mp h
  exact Arx.mpr ⟨y,r,e,Ax4.ext x h1,Ajo.ext x h2⟩
theorem Ax4.ext(x:Ext H H') : ∀ {d:aA} {y:V×V},Ax4 K H d y->Ax4 K H' d y
 | .tuple ds,_,h=>by
  rw[Ax4] at h ⊢
  exact Aas.ext x h
 | .none,_,h=>absurd h (by simp[Ax4])
 | .bool _,_,h=>absurd h (by simp[Ax4])
 | .int _,_,h=>absurd h (by simp[Ax4])
 | .str _,_,h=>absurd h (by simp[Ax4])
 | .list _,_,h=>absurd h (by simp[Ax4])
 | .dict _,_,h=>absurd h (by simp[Ax4])
end
theorem Aas.length : ∀ {ds:List aA} {vs:List V},Aas K H ds vs->vs.length=ds.length
 | [],_,h=>by rw[Aao.mp h]; rfl
 | d::ds,_,h=>by
  obtain⟨y,r,e,h1,h2⟩:=Aah.mp h
  rw[e,fN,fN,Aas.length h2]
theorem Aas.get : ∀ {ds:List aA} {vs:List V} {i:Nat} {d:aA},Aas K H ds vs->ds[i]?=some d -> ∃ v,vs[i]?=some v/\Abq K H d v
 | [],_,_,_,h,e=>by simp at e
 | d::ds,_,0,d',h,e=>by
  obtain⟨y,r,rfl,h1,h2⟩:=Aah.mp h
  have:d=d':=by simpa using e
  subst this
  exact⟨y,rfl,h1⟩
 | d::ds,_,i+1,d',h,e=>by
  obtain⟨y,r,rfl,h1,h2⟩:=Aah.mp h
  obtain⟨v,h3,h4⟩:=Aas.get (i:=i) h2 (by simpa using e)
  exact⟨v,by simpa using h3,h4⟩
theorem Aas.append : ∀ {ds es:List aA} {vs ws:List V},Aas K H ds vs->Aas K H es ws->Aas K H (ds++es) (vs++ws)
 | [],es,_,_,h,g=>by rw[Aao.mp h]; exact g
 | d::ds,es,_,_,h,g=>by
  obtain⟨y,r,rfl,h1,h2⟩:=Aah.mp h
  exact Aah.mpr ⟨y,_,rfl,h1,Aas.append h2 g⟩
theorem Aas.snoc{vs:List V}(h:Aas K H ds vs)(g:Abq K H d v):Aas K H (ds++[d]) (vs++[v]):=
 h.append (Aah.mpr ⟨v,[],rfl,g,Aao.mpr rfl⟩)
theorem Aas.drop : ∀ {ds:List aA} {vs:List V} (n:Nat),Aas K H ds vs->Aas K H (ds.drop n) (vs.drop n)
 | _,_,0,h=>h
 | [],_,n+1,h=>by rw[Aao.mp h]; exact Aao.mpr rfl
 | d::ds,_,n+1,h=>by
  obtain⟨y,r,rfl,h1,h2⟩:=Aah.mp h
  exact Aas.drop n h2
theorem Aas.take : ∀ {ds:List aA} {vs:List V} (n:Nat),Aas K H ds vs->Aas K H (ds.take n) (vs.take n)
 | _,_,0,h=>Aao.mpr rfl
 | [],_,n+1,h=>by rw[Aao.mp h]; exact Aao.mpr rfl
 | d::ds,_,n+1,h=>by
  obtain⟨y,r,rfl,h1,h2⟩:=Aah.mp h
  exact Aah.mpr ⟨y,_,rfl,h1,Aas.take n h2⟩
theorem Aas.set(g:Abq K H d v) : ∀ {ds:List aA} {vs:List V} (n:Nat),Aas K H ds vs->Aas K H (ds.set n d) (vs.set n v)
 | [],_,n,h=>by rw[Aao.mp h]; exact Aao.mpr rfl
 | e::ds,_,0,h=>by
  obtain⟨y,r,rfl,h1,h2⟩:=Aah.mp h
  exact Aah.mpr ⟨v,r,rfl,g,h2⟩
 | e::ds,_,n+1,h=>by
  obtain⟨y,r,rfl,h1,h2⟩:=Aah.mp h
  exact Aah.mpr ⟨y,_,rfl,h1,Aas.set g n h2⟩
theorem WG : ∀ ns:List Int,Aas K H (ns.map aU) (ns.map V.int)
 | []=>Aao.mpr rfl
 | n::r=>Aah.mpr ⟨_,_,rfl,Aan.mpr rfl,WG r⟩
theorem Qq(h:Abq K H (kD k) v):v=kV k:=by
 cases k with
 | inl i=>exact Aan.mp h
 | inr x=>exact(Aa7.mp h).1
mutual
theorem Abq.key {K:aK}{H:Hp} : ∀ (d:aA) {v:V},bQ d=true->Abq K H d v->Akm H d v
 | .int i,v,_,h=>by simpa [Akm] using Aan.mp h
 | .str i,v,_,h=>by simpa [Akm] using(Aa7.mp h).1
 | .tuple ds,v,k,h=>by
  obtain⟨a,xs,e,s,r⟩:=Aar.mp h
  simp only[Akm]
  exact⟨a,xs,e,s,Aas.keys ds (by simpa [bQ] using k) r⟩
 | .none,v,k,_=>by simp[bQ] at k
 | .bool _,v,k,_=>by simp[bQ] at k
 | .list _,v,k,_=>by simp[bQ] at k
 | .dict _,v,k,_=>by simp[bQ] at k
theorem Aas.keys {K:aK}{H:Hp} : ∀ (ds:List aA) {vs:List V},bU ds=true->Aas K H ds vs->Ags H ds vs
 | [],vs,_,h=>by simpa [Ags] using Aao.mp h
 | d::ds,vs,k,h=>by
  have k':bQ d=true/\bU ds=true:=by simpa [bU] using k
  obtain⟨y,r,e,h1,h2⟩:=Aah.mp h
  simp only[Ags]
  exact⟨y,r,e,Abq.key d k'.1 h1,Aas.keys ds k'.2 h2⟩
end
mutual
def dB:aA->Bool
 | .list _=>false
 | .dict _=>false
 | .tuple ds=>mX ds
 | _=>true
def mX:List aA->Bool
 | []=>true
 | d::r=>dB d&&mX r
end
theorem XG : ∀ ds:List aA,mX ds=ds.all dB
 | []=>by simp[mX]
 | d::r=>by simp[mX,XG r]
mutual
theorem Abq.flat(x : ∀ a xs,H a=some (.tup xs)->H' a=some (.tup xs)) : ∀ (d:aA) {v:V},dB d=true->Abq K H d v->Abq K H' d v
 | .none,_,_,h=>Ab3.mpr (Ab3.mp h)
 | .bool _,_,_,h=>Aay.mpr (Aay.mp h)
 | .int _,_,_,h=>Aan.mpr (Aan.mp h)
 | .str _,_,_,h=>Aa7.mpr (Aa7.mp h)
 | .tuple ds,_,f,h=>by
  obtain⟨a,xs,e,s,r⟩:=Aar.mp h
  exact Aar.mpr ⟨a,xs,e,x _ _ s,Aas.flat x ds (by simpa [dB] using f) r⟩
 | .list _,_,f,_=>by simp[dB] at f
 | .dict _,_,f,_=>by simp[dB] at f
theorem Aas.flat(x : ∀ a xs,H a=some (.tup xs)->H' a=some (.tup xs)) : ∀ (ds:List aA) {vs:List V},mX ds=true->Aas K H ds vs->Aas K H' ds vs
 | [],_,_,h=>Aao.mpr (Aao.mp h)
 | d::ds,_,f,h=>by
  have f':dB d=true/\mX ds=true:=by simpa [mX] using f
  obtain⟨y,r,e,h1,h2⟩:=Aah.mp h
  exact Aah.mpr ⟨y,r,e,Abq.flat x d f'.1 h1,Aas.flat x ds f'.2 h2⟩
end
inductive All3 {α β γ:Type}(R:α->β->γ->Prop):List α->List β->List γ->Prop
 | nil:All3 R [] [] []
 | cons {a b c as bs cs}:R a b c->All3 R as bs cs->All3 R (a::as) (b::bs) (c::cs)
theorem All3.imp {α β γ:Type}{R S:α->β->γ->Prop} : ∀ {as:List α} {bs:List β} {cs:List γ},All3 R as bs cs->(∀ a b c,c∈cs->R a b c->S a b c)->All3 S as bs cs:=by
 intro as bs cs h
 induction h with
 | nil=>exact fun _=>.nil
 | cons h _ ih=>exact fun f=>.cons (f _ _ _ bO h) (ih fun a b c m=>f a b c (bT _ m))
def Afn (K:aK)(B H:Hp):Nat->aA->V->List aD->Prop
 | 0,d,v,F=>F=[]/\Abq K B d v
 | n+1,d,v,F=>match d with
  | .list ds=>∃ p xs Fs,v = .ref p/\H p=some (.lst xs)/\F=p::Fs.flatten/\All3 (Afn K B H n) ds xs Fs
  | .dict kds=>∃ p,∃ kvs:Nat×List (aI×V),∃ Fs,v = .ref p/\H p=some (.dK kvs.1 kvs.2)/\F=p::Fs.flatten/\All3 (fun(kd:aA×aA) (kv:aI×V) f=>kd.1=kD kv.1/\Afn K B H n kd.2 kv.2 f) kds kvs.2 Fs
  | .tuple ds=>(n=0/\F=[]/\Abq K B (.tuple ds) v) \/ (n≠0 /\ ∃ p xs Fs,v = .ref p/\B p=some (.tup xs)/\F=Fs.flatten/\All3 (Afn K B H n) ds xs Fs)
  | d=>F=[]/\Abq K B d v
theorem Afn.keep(xb:Ext B B') : ∀ {n:Nat} {d:aA} {v:V} {F:List aD},(∀ a∈F,H' a=H a)->Afn K B H n d v F->Afn K B' H' n d v F
 | 0,d,v,F,_,h=>⟨h.1,h.2.ext xb⟩
 | n+1,.list ds,v,F,kp,h=>by
  obtain⟨p,xs,Fs,e,hp,rfl,q⟩:=h
  refine⟨p,xs,Fs,e,(kp p bO).trans hp,rfl,q.imp fun a b c m r=>Afn.keep xb (fun z hz=>kp z (bT _ (lC.mpr ⟨c,m,hz⟩))) r⟩
 | n+1,.dict kds,v,F,kp,h=>by
  obtain⟨p,xs,Fs,e,hp,rfl,q⟩:=h
  refine⟨p,xs,Fs,e,(kp p bO).trans hp,rfl,q.imp fun a b c m r=>⟨r.1,Afn.keep xb (fun z hz=>kp z (bT _ (lC.mpr ⟨c,m,hz⟩))) r.2⟩⟩
 | n+1,.none,v,F,_,h=>⟨h.1,h.2.ext xb⟩
 | n+1,.bool _,v,F,_,h=>⟨h.1,h.2.ext xb⟩
 | n+1,.int _,v,F,_,h=>⟨h.1,h.2.ext xb⟩
 | n+1,.str _,v,F,_,h=>⟨h.1,h.2.ext xb⟩
 | n+1,.tuple ds,v,F,kp,h=>by
  rcases h with⟨h0,h1,h2⟩ | ⟨h0,p,xs,Fs,e,hp,rfl,q⟩
  ·exact .inl ⟨h0,h1,h2.ext xb⟩
  ·exact .inr ⟨h0,p,xs,Fs,e,xb _ _ hp,rfl,q.imp fun a b c m r=>Afn.keep xb (fun z hz=>kp z (lC.mpr ⟨c,m,hz⟩)) r⟩
theorem UT{R:aA->V->List aD->Prop}(f : ∀ d v F,R d v F->Abq K B d v) : ∀ {ds:List aA} {xs:List V} {Fs:List (List aD)},All3 R ds xs Fs->Aas K B ds xs:=by
 intro ds xs Fs h
 induction h with
 | nil=>exact Aao.mpr rfl
 | cons h _ ih=>exact Aah.mpr ⟨_,_,rfl,f _ _ _ h,ih⟩
theorem Wq{R:aA×aA->aI×V->List aD->Prop}(f : ∀ d v F,R d v F->d.1=kD v.1/\Abq K B d.2 v.2) : ∀ {ds:List (aA×aA)} {xs:List (aI×V)} {Fs:List (List aD)},All3 R ds xs Fs->Ab4 K B ds xs:=by
 intro ds xs Fs h
 induction h with
 | nil=>exact Acf.mpr rfl
 | @cons p q F ds xs Fs h _ ih=>
  obtain⟨k,d⟩:=p
  obtain⟨k',v⟩:=q
  exact Abh.mpr ⟨_,_,_,rfl,(f _ _ _ h).1,(f _ _ _ h).2,ih⟩
theorem Afn.share(xb:Ext B B') : ∀ {n:Nat} {d:aA} {v:V} {F:List aD},(∀ a∈F,∀ o,H a=some o->B' a=some o)->Afn K B H n d v F->Abq K B' d v
 | 0,d,v,F,_,h=>h.2.ext xb
 | n+1,.list ds,v,F,kp,h=>by
  obtain⟨p,xs,Fs,e,hp,rfl,q⟩:=h
  refine Abk.mpr ⟨p,xs,e,SqL.of (kp p bO _ hp),?_⟩
  exact UT (fun d v F r=>r) (q.imp fun a b c m r=>Afn.share xb (fun z hz=>kp z (bT _ (lC.mpr ⟨c,m,hz⟩))) r)
 | n+1,.dict kds,v,F,kp,h=>by
  obtain⟨p,xs,Fs,e,hp,rfl,q⟩:=h
  refine Xf e (kp p bO _ hp) ?_
  exact Wq (R:=fun kd kv _=>kd.1=kD kv.1/\Abq K B' kd.2 kv.2) (fun d v F r=>r) (q.imp fun a b c m r=>⟨r.1,Afn.share xb (fun z hz=>kp z (bT _ (lC.mpr ⟨c,m,hz⟩))) r.2⟩)
 | n+1,.none,v,F,_,h=>h.2.ext xb
 | n+1,.bool _,v,F,_,h=>h.2.ext xb
 | n+1,.int _,v,F,_,h=>h.2.ext xb
 | n+1,.str _,v,F,_,h=>h.2.ext xb
 | n+1,.tuple ds,v,F,kp,h=>by
  rcases h with⟨h0,h1,h2⟩ | ⟨h0,p,xs,Fs,e,hp,rfl,q⟩
  ·exact h2.ext xb
  ·refine Aar.mpr ⟨p,xs,e,xb _ _ hp,?_⟩
   exact UT (fun d v F r=>r) (q.imp fun a b c m r=>Afn.share xb (fun z hz=>kp z (lC.mpr ⟨c,m,hz⟩)) r)
def gC:Nat->aA->Bool
 | 0,d=>dB d
 | n+1,.list ds=>ds.all (gC n)
 | n+1,.dict kds=>kds.all fun kd=>gC n kd.2
 | n+2,.tuple ds=>ds.all (gC (n+1))
 | n+1,d=>dB d
theorem Afn.flat(xb : ∀ a xs,B a=some (.tup xs)->B' a=some (.tup xs)) : ∀ {n:Nat} {d:aA} {v:V} {F:List aD},gC n d=true->Afn K B H n d v F->Afn K B' H n d v F
 | 0,d,v,F,f,h=>⟨h.1,h.2.flat xb d f⟩
 | n+1,.list ds,v,F,f,h=>by
  obtain⟨p,xs,Fs,e,hp,rfl,q⟩:=h
  refine⟨p,xs,Fs,e,hp,rfl,?_⟩
  have f' : ∀ d∈ds,gC n d=true:=by simpa [gC] using f
  clear hp f e
  induction q with
  | nil=>exact .nil
  | cons h t ih=>exact .cons (Afn.flat xb (f' _ bO) h) (ih fun d m=>f' d (bT _ m))
 | n+1,.dict kds,v,F,f,h=>by
  obtain⟨p,xs,Fs,e,hp,rfl,q⟩:=h
  refine⟨p,xs,Fs,e,hp,rfl,?_⟩
  have f' : ∀ d∈kds,gC n d.2=true:=fun d m=>by
   have:kds.all (fun kd=>gC n kd.2)=true:=by simpa [gC] using f
   exact fH.mp this d m
  clear hp f e
  obtain⟨xe,xs⟩:=xs
  replace q:All3 _ kds xs Fs:=q
  show All3 _ kds xs Fs
  induction q with
  | nil=>exact .nil
  | cons h t ih=>exact .cons ⟨h.1,Afn.flat xb (f' _ bO) h.2⟩ (ih fun d m=>f' d (bT _ m))
 | n+1,.none,v,F,f,h=>⟨h.1,h.2.flat xb _ f⟩
 | n+1,.bool _,v,F,f,h=>⟨h.1,h.2.flat xb _ f⟩
 | n+1,.int _,v,F,f,h=>⟨h.1,h.2.flat xb _ f⟩
 | n+1,.str _,v,F,f,h=>⟨h.1,h.2.flat xb _ f⟩
 | 1,.tuple ds,v,F,f,h=>by
  rcases h with⟨h0,h1,h2⟩ | ⟨h0,_⟩
  ·exact .inl ⟨h0,h1,h2.flat xb _ f⟩
  ·exact absurd rfl h0
 | n+2,.tuple ds,v,F,f,h=>by
  rcases h with⟨h0,_⟩ | ⟨h0,p,xs,Fs,e,hp,rfl,q⟩
  ·exact absurd h0 (by omega)
  ·refine .inr ⟨h0,p,xs,Fs,e,xb _ _ hp,rfl,?_⟩
   have f' : ∀ d∈ds,gC (n+1) d=true:=by simpa [gC] using f
   clear hp f e
   induction q with
   | nil=>exact .nil
   | cons h t ih=>exact .cons (Afn.flat xb (f' _ bO) h) (ih fun d m=>f' d (bT _ m))
theorem All3.of {α β γ:Type}{R:α->β->γ->Prop} : ∀ {as:List α} {bs:List β} {cs:List γ},All3 R as bs cs -> ∀ c∈cs,∃ a b,R a b c:=by
 intro as bs cs h
 induction h with
 | nil=>exact fun c m=>by simp at m
 | cons h _ ih=>
  intro c m
  rcases cY.mp m with rfl | m
  ·exact⟨_,_,h⟩
  ·exact ih c m
mutual
def ndD:aA->Bool
 | .dict kds=>ndM kds
 | .list ds=>uO ds
 | .tuple ds=>uO ds
 | _=>true
def uO:List aA->Bool
 | []=>true
 | d::r=>ndD d&&uO r
def ndM:List (aA×aA)->Bool
 | (.none,.none)::r=>yA r
 | _=>false
def yA:List (aA×aA)->Bool
 | []=>true
 | (_,d)::r=>ndD d&&yA r
end
def iM:Nat->aA->Bool
 | 0,d=>ndD d
 | n+1,.list ds=>ds.all (iM n)
 | n+1,.dict kds=>kds.all fun kd=>iM n kd.2
 | _,_=>false
theorem Hh (xs:List V) : ∀ q,HO.lst xs≠dO q:=fun q z=>by cases q <;> cases z
theorem YI (xs:List V) : ∀ q,HO.tup xs≠dO q:=fun q z=>by cases q <;> cases z
theorem Iq (o:bG)(u:HO) : ∀ q,HO.frz o u≠dO q:=fun q z=>by cases q <;> cases z
def NdX (H H':Hp):Prop:=∀ a o,H a=some o->(∀ q,o≠dO (.inl q))->H' a=some o
mutual
theorem Abq.nd(x:NdX H H') : ∀ (d:aA) {v:V},ndD d=true->Abq K H d v->Abq K H' d v
 | .none,_,_,h=>Ab3.mpr (Ab3.mp h)
 | .bool _,_,_,h=>Aay.mpr (Aay.mp h)
 | .int _,_,_,h=>Aan.mpr (Aan.mp h)
 | .str _,_,_,h=>Aa7.mpr (Aa7.mp h)
 | .tuple ds,_,f,h=>by
  obtain⟨a,xs,e,s,r⟩:=Aar.mp h
  exact Aar.mpr ⟨a,xs,e,x _ _ s (fun q=>YI _ _),Aas.nd x ds (by simpa [ndD] using f) r⟩
 | .list ds,_,f,h=>by
  obtain⟨a,xs,e,s,r⟩:=Abk.mp h
  refine Abk.mpr ⟨a,xs,e,s.imp (fun s=>?_) id,Aas.nd x ds (by simpa [ndD] using f) r⟩
  rcases s with s | ⟨o,s⟩
  ·exact .inl (x _ _ s (fun q=>Hh _ _))
  ·exact .inr ⟨o,x _ _ s (fun q=>Iq _ _ _)⟩
 | .dict [],_,f,_=>by simp[ndD,ndM] at f
 | .dict ((k,m)::kds),_,f,h=>by
  have f:ndM ((k,m)::kds)=true:=by simpa only[ndD] using f
  cases k <;> cases m <;> first | (simp[ndM] at f; done) | skip
  obtain⟨a,ts,e,s,r⟩:=(nB).mp h
  exact(nB).mpr ⟨a,ts,e,x _ _ s (fun q z=>by cases z),Abu.nd x kds (by simpa only[ndM] using f) r⟩
theorem Abu.nd(x:NdX H H') : ∀ (kds:List (aA×aA)) {ts:List (List aA×V)},yA kds=true->Abu K H kds ts->Abu K H' kds ts
 | [],_,_,h=>Acj.mpr (Acj.mp h)
 | (k,d)::r,_,f,h=>by
  have f':ndD d=true/\yA r=true:=by simpa [yA] using f
  obtain⟨k',y,rr,e,ek,h1,h2⟩:=Abm.mp h
  exact Abm.mpr ⟨k',y,rr,e,ek,Abq.nd x d f'.1 h1,Abu.nd x r f'.2 h2⟩
theorem Aas.nd(x:NdX H H') : ∀ (ds:List aA) {vs:List V},uO ds=true->Aas K H ds vs->Aas K H' ds vs
 | [],_,_,h=>Aao.mpr (Aao.mp h)
 | d::ds,_,f,h=>by
  have f':ndD d=true/\uO ds=true:=by simpa [uO] using f
  obtain⟨y,r,e,h1,h2⟩:=Aah.mp h
  exact Aah.mpr ⟨y,r,e,Abq.nd x d f'.1 h1,Aas.nd x ds f'.2 h2⟩
end
theorem Afn.mut1 : ∀ {n:Nat} {d:aA} {v:V} {F:List aD},Afn K B H n d v F -> ∀ a∈F,(∃ xs,H a=some (.lst xs)) \/ ∃ q,H a=some (dO (.inl q))
 | 0,d,v,F,h,a,m=>by rw[h.1] at m; simp at m
 | n+1,.list ds,v,F,h,a,m=>by
  obtain⟨p,xs,Fs,e,hp,rfl,q⟩:=h
  rcases cY.mp m with e1 | m2
  ·rw[e1]; exact .inl ⟨xs,hp⟩
  ·obtain⟨f,hf,ha⟩:=lC.mp m2
   obtain⟨_,_,r⟩:=q.of f hf
   exact Afn.mut1 r a ha
 | n+1,.dict kds,v,F,h,a,m=>by
  obtain⟨p,xs,Fs,e,hp,rfl,q⟩:=h
  rcases cY.mp m with e1 | m2
  ·rw[e1]; exact .inr ⟨xs,hp⟩
  ·obtain⟨f,hf,ha⟩:=lC.mp m2
   obtain⟨_,_,r⟩:=q.of f hf
   exact Afn.mut1 r.2 a ha
 | n+1,.none,v,F,h,a,m=>by rw[h.1] at m; simp at m
 | n+1,.bool _,v,F,h,a,m=>by rw[h.1] at m; simp at m
 | n+1,.int _,v,F,h,a,m=>by rw[h.1] at m; simp at m
 | n+1,.str _,v,F,h,a,m=>by rw[h.1] at m; simp at m
 | n+1,.tuple ds,v,F,h,a,m=>by
  rcases h with⟨_,h1,_⟩ | ⟨h0,p,xs,Fs,e,hp,rfl,q⟩
  ·rw[h1] at m; simp at m
  ·obtain⟨f,hf,ha⟩:=lC.mp m
   obtain⟨_,_,r⟩:=q.of f hf
   exact Afn.mut1 r a ha
theorem Afn.mut{F:List aD}(h:Afn K B H n d v F) : ∀ a∈F,(∃ xs,H a=some (.lst xs)) \/ ∃ q:DQ,H a=some (dO q):=fun a m=>(h.mut1 a m).imp id fun⟨q,e⟩=>⟨.inl q,e⟩
mutual
def ftD:aA->Bool
 | .dict kds=>ftM kds
 | .list _=>false
 | .tuple ds=>yE ds
 | _=>true
def yE:List aA->Bool
 | []=>true
 | d::r=>ftD d&&yE r
def ftM:List (aA×aA)->Bool
 | (.none,.none)::r=>sG r
 | _=>false
def sG:List (aA×aA)->Bool
 | []=>true
 | (_,d)::r=>ftD d&&sG r
end
def FtX (H H':Hp):Prop:=∀ a o,H a=some o->((∃ xs,o = .tup xs) \/ ∃ q,o=dO (.inr q))->H' a=some o
mutual
theorem Abq.ft(x:FtX H H') : ∀ (d:aA) {v:V},ftD d=true->Abq K H d v->Abq K H' d v
 | .none,_,_,h=>Ab3.mpr (Ab3.mp h)
 | .bool _,_,_,h=>Aay.mpr (Aay.mp h)
 | .int _,_,_,h=>Aan.mpr (Aan.mp h)
 | .str _,_,_,h=>Aa7.mpr (Aa7.mp h)
 | .tuple ds,_,f,h=>by
  obtain⟨a,xs,e,s,r⟩:=Aar.mp h
  exact Aar.mpr ⟨a,xs,e,x _ _ s (.inl ⟨xs,rfl⟩),Aas.ft x ds (by simpa [ftD] using f) r⟩
 | .list ds,_,f,h=>by simp[ftD] at f
 | .dict [],_,f,_=>by simp[ftD,ftM] at f
 | .dict ((k,m)::kds),_,f,h=>by
  have f:ftM ((k,m)::kds)=true:=by simpa only[ftD] using f
  cases k <;> cases m <;> first | (simp[ftM] at f; done) | skip
  obtain⟨a,ts,e,s,r⟩:=(nB).mp h
  exact(nB).mpr ⟨a,ts,e,x _ _ s (.inr ⟨ts,rfl⟩),Abu.ft x kds (by simpa only[ftM] using f) r⟩
theorem Abu.ft(x:FtX H H') : ∀ (kds:List (aA×aA)) {ts:List (List aA×V)},sG kds=true->Abu K H kds ts->Abu K H' kds ts
 | [],_,_,h=>Acj.mpr (Acj.mp h)
 | (k,d)::r,_,f,h=>by
  have f':ftD d=true/\sG r=true:=by simpa [sG] using f
  obtain⟨k',y,rr,e,ek,h1,h2⟩:=Abm.mp h
  exact Abm.mpr ⟨k',y,rr,e,ek,Abq.ft x d f'.1 h1,Abu.ft x r f'.2 h2⟩
theorem Aas.ft(x:FtX H H') : ∀ (ds:List aA) {vs:List V},yE ds=true->Aas K H ds vs->Aas K H' ds vs
 | [],_,_,h=>Aao.mpr (Aao.mp h)
 | d::ds,_,f,h=>by
  have f':ftD d=true/\yE ds=true:=by simpa [yE] using f
  obtain⟨y,r,e,h1,h2⟩:=Aah.mp h
  exact Aah.mpr ⟨y,r,e,Abq.ft x d f'.1 h1,Aas.ft x ds f'.2 h2⟩
end
theorem Afn.nd(xb:NdX B B') : ∀ {n:Nat} {d:aA} {v:V} {F:List aD},iM n d=true->Afn K B H n d v F->Afn K B' H n d v F
 | 0,d,v,F,f,h=>⟨h.1,h.2.nd xb d f⟩
 | n+1,.list ds,v,F,f,h=>by
  obtain⟨p,xs,Fs,e,hp,rfl,q⟩:=h
  refine⟨p,xs,Fs,e,hp,rfl,?_⟩
  have f' : ∀ d∈ds,iM n d=true:=by simpa [iM] using f
  clear hp f e
  induction q with
  | nil=>exact .nil
  | cons h t ih=>exact .cons (Afn.nd xb (f' _ bO) h) (ih fun d m=>f' d (bT _ m))
 | n+1,.dict kds,v,F,f,h=>by
  obtain⟨p,xs,Fs,e,hp,rfl,q⟩:=h
  refine⟨p,xs,Fs,e,hp,rfl,?_⟩
  have f' : ∀ d∈kds,iM n d.2=true:=fun d m=>by
   have:kds.all (fun kd=>iM n kd.2)=true:=by simpa [iM] using f
   exact fH.mp this d m
  clear hp f e
  obtain⟨xe,xs⟩:=xs
  replace q:All3 _ kds xs Fs:=q
  show All3 _ kds xs Fs
  induction q with
  | nil=>exact .nil
  | cons h t ih=>exact .cons ⟨h.1,Afn.nd xb (f' _ bO) h.2⟩ (ih fun d m=>f' d (bT _ m))
 | n+1,.none,v,F,f,h=>by simp[iM] at f
 | n+1,.bool _,v,F,f,h=>by simp[iM] at f
 | n+1,.int _,v,F,f,h=>by simp[iM] at f
 | n+1,.str _,v,F,f,h=>by simp[iM] at f
 | n+1,.tuple ds,v,F,f,h=>by simp[iM] at f
def FC (K:aK)(B H:Hp)(d:aA)(v:V)(F:List aD):Prop:=∃ kds p,∃ ts:Nat×List (List aA×V),d = .dict ((.none,.none)::kds)/\v = .ref p/\H p=some (.dT ts.1 ts.2)/\F=[p]/\(∀ kd∈kds,dB kd.2=true)/\Abu K B kds ts.2
def Afz (K:aK)(B H:Hp)(n:Nat)(d:aA)(v:V)(F:List aD):Prop:=if n=9 then(d = .none/\v = .non/\F=[]) \/ FC K B H d v F else Afn K B H n d v F
theorem Abu.flat(xb : ∀ a xs,B a=some (.tup xs)->B' a=some (.tup xs)) : ∀ {kds:List (aA×aA)} {ts:List (List aA×V)},(∀ kd∈kds,dB kd.2=true)->Abu K B kds ts->Abu K B' kds ts
 | [],ts,_,h=>Acj.mpr (Acj.mp h)
 | (k,d)::r,ts,f,h=>by
  obtain⟨k',x,rr,e,ek,h1,h2⟩:=Abm.mp h
  exact Abm.mpr ⟨k',x,rr,e,ek,h1.flat xb _ (f (k,d) bO),Abu.flat xb (fun kd m=>f kd (bT _ m)) h2⟩
section
variable {F:List aD}
theorem Afz.keep (xb:Ext B B')(kp : ∀ a∈F,H' a=H a)(h:Afz K B H n d v F):Afz K B' H' n d v F:=by
 unfold Afz at h ⊢
 split at h
 ·rw[if_pos ‹_›]
  refine h.imp id fun h=>?_
  obtain⟨kds,p,ts,e1,e2,hp,rfl,f,r⟩:=h
  exact⟨kds,p,ts,e1,e2,(kp p bO).trans hp,rfl,f,r.ext xb⟩
 ·rw[if_neg ‹_›]
  exact Afn.keep xb kp h
theorem Afz.share (xb:Ext B B')(kp : ∀ a∈F,∀ o,H a=some o->B' a=some o)(h:Afz K B H n d v F):Abq K B' d v:=by
 unfold Afz at h
 split at h
 ·rcases h with⟨rfl,rfl,_⟩ | ⟨kds,p,ts,rfl,e2,hp,rfl,f,r⟩
  ·exact Ab3.mpr rfl
  exact(nB).mpr ⟨p,ts,e2,kp p bO _ hp,r.ext xb⟩
 ·exact Afn.share xb kp h
theorem Afz.flat (xb : ∀ a xs,B a=some (.tup xs)->B' a=some (.tup xs))(f:gC n d=true)(h:Afz K B H n d v F):Afz K B' H n d v F:=by
 unfold Afz at h ⊢
 split at h
 ·rw[if_pos ‹_›]
  refine h.imp id fun h=>?_
  obtain⟨kds,p,ts,e1,e2,hp,rfl,f,r⟩:=h
  exact⟨kds,p,ts,e1,e2,hp,rfl,f,r.flat xb f⟩
 ·rw[if_neg ‹_›]
  exact Afn.flat xb f h
theorem Afz.nd (xb:NdX B B')(hn:n<9)(f:iM n d=true)(h:Afz K B H n d v F):Afz K B' H n d v F:=by
 unfold Afz at h ⊢
 rw[if_neg (by omega)] at h ⊢
 exact Afn.nd xb f h
theorem Afz.mut (h:Afz K B H n d v F) : ∀ a∈F,(∃ xs,H a=some (.lst xs)) \/ ∃ q:DQ,H a=some (dO q):=by
 unfold Afz at h
 split at h
 ·rcases h with⟨_,_,rfl⟩ | ⟨kds,p,ts,e1,e2,hp,rfl,f,r⟩
  ·exact fun a m=>by simp at m
  intro a m
  rw[cG.mp m]
  exact .inr ⟨.inr ts,hp⟩
 ·exact Afn.mut h
end
abbrev EF:=List (Option aA)->Option aA
abbrev BF:=List (Option aA)->Option Bool
abbrev AF:=List (Option aA)->Option (List aA)
def Ana (K:aK)(B:Hp)(ρ:List (Option aA))(σ:St):Prop:=∀ (i:Nat) d,ρ[i]?=some (some d) -> ∃ v,σ[i]?=some (some v)/\Abq K B d v
theorem Ana.ext(h:Ana K B ρ σ)(x:Ext B B'):Ana K B' ρ σ:=fun i d e=>let ⟨v,h1,h2⟩:=h i d e; ⟨v,h1,h2.ext x⟩
def Res (K:aK)(P:aD->Prop)(n:Nat)(d:aA)(H:Hp)(Q:VK):Prop:=
 ∀ v H' Fr,Ext H H'->Fr.Nodup->(∀ a∈Fr,H a=none /\ ∃ o,H' a=some o)->Afz K (hid H' (orL P Fr)) H' n d v Fr->Q v H'
theorem Res.zero (h:Res K P 0 d H Q)(x:Ext H H')(r:Abq K (hid H' P) d v):Q v H':=
 h v H' [] x .nil (fun a m=>by simp at m) ⟨rfl,by rw[RD]; exact r⟩
theorem dU (h : ∀ v H',Ext H H'->Abq K (hid H' P) d v->Q v H'):Res K P 0 d H Q:=fun v H' Fr x _ _ r=>by
 obtain⟨rfl,r⟩:=r
 rw[RD] at r
 exact h v H' x r
theorem Res.mono (h:Res K P n d H Q)(x:Ext H H'):Res K P n d H' Q:=fun v H2 Fr x2 nd fr r=>
 h v H2 Fr (x.trans x2) nd (fun a m=>⟨x.none (fr a m).1,(fr a m).2⟩) r
theorem Res.of (hP:Hid P H)(h:Res K P 0 d H Q):Res K P n d H Q:=fun v H2 Fr x2 nd fr r=>
 h.zero x2 (r.share (iQ fun a p=>.inl p) fun a m o e=>gJ (hP.new (fr a m).1) e)
theorem Res.lst{p:aD}(hP:Hid P H)(h:Res K P 1 (.list ds) H Q)(n:H p=none)(r:Aas K (hid H P) ds xs):Q (.ref p) (upd H p (.lst xs)):=by
 refine h (.ref p) _ [p] (Ext.new n) (jW.mpr ⟨by simp,.nil⟩) (fun a m=>?_) ⟨p,xs,xs.map fun _=>[],rfl,eO,?_,?_⟩
 ·have:a=p:=by simpa using m
  subst this
  exact⟨n,_,eO⟩
 ·have : ∀ l:List V,(l.map fun _=>([]:List aD)).flatten=[]:=fun l=>by
   induction l with
   | nil=>rfl
   | cons a l ih=>rw[dH,nU,ih]; rfl
  rw[this]
 ·have xe:Ext (hid H P) (hid (upd H p (.lst xs)) (orL P [p])):=fun b o e=>by
   obtain⟨nb,e⟩:=Acy.mp e
   have hb:b≠p:=jT e n
   exact gJ (fun q=>q.elim nb fun m=>hb (by simpa using m)) (by rw[cP hb]; exact e)
  generalize hid (upd H p (.lst xs)) (orL P [p])=B at xe
  generalize upd H p (.lst xs)=H1
  clear h
  have go : ∀ (ds:List aA) (xs:List V),Aas K (hid H P) ds xs->All3 (Afn K B H1 0) ds xs (xs.map fun _=>[]):=by
   intro ds
   induction ds with
   | nil=>intro xs r; rw[Aao.mp r]; exact .nil
   | cons d ds ih=>
    intro xs r
    obtain⟨y,t,rfl,h1,h2⟩:=Aah.mp r
    exact .cons ⟨rfl,h1.ext xe⟩ (ih t h2)
  exact go ds xs r
theorem Res.tup{p:aD}(hP:Hid P H)(h:Res K P 0 (.tuple ds) H Q)(n:H p=none)(r:Aas K (hid H P) ds xs):Q (.ref p) (upd H p (.tup xs)):=by
 refine h.zero (Ext.new n) (Aar.mpr ⟨p,xs,rfl,gJ (hP.new n) eO,r.ext fun b o e=>?_⟩)
 obtain⟨nb,e⟩:=Acy.mp e
 exact gJ nb (Ext.new n _ _ e)
def tF (K:aK)(n:Nat)(f:EF):TE:=fun σ H Q=>∃ P ρ d,Hid P H/\Ana K (hid H P) ρ σ/\f ρ=some d/\Res K P n d H Q
def tTF (K:aK)(f:BF):TT:=fun σ H Q=>∃ P ρ b,Hid P H/\Ana K (hid H P) ρ σ/\f ρ=some b /\ ∀ H',Ext H H'->Q b H'
def tAF (K:aK)(f:AF):TA:=fun σ H Q=>∃ P ρ ds,Hid P H/\Ana K (hid H P) ρ σ/\f ρ=some ds /\ ∀ vs H',Ext H H'->Aas K (hid H' P) ds vs->Q vs H'
abbrev DF (n:Nat)(X:Cx)(e:aS)(f:EF):Prop:=PE X e (tF X.K n f)
abbrev DE (X:Cx)(e:aS)(f:EF):Prop:=PE X e (tF X.K 0 f)
abbrev DT (X:Cx)(e:aS)(f:BF):Prop:=PT X e (tTF X.K f)
abbrev DW (X:Cx)(e:aS)(f:BF):Prop:=PW X e (tTF X.K f)
abbrev DA (X:Cx)(es:List aS)(f:AF):Prop:=PA X es (tAF X.K f)
section
variable {a:aS}
theorem PE.imp {t t':TE}(h:PE X e t)(w : ∀ σ H Q,t' σ H Q->t σ H Q):PE X e t':=fun pins s σ H Q I q=>h pins s σ H Q I (w _ _ _ q)
theorem PT.imp {t t':TT}(h:PT X e t)(w : ∀ σ H Q,t' σ H Q->t σ H Q):PT X e t':=fun pins s σ H Q I q=>h pins s σ H Q I (w _ _ _ q)
theorem PW.imp {t t':TT}(h:PW X e t)(w : ∀ σ H Q,t' σ H Q->t σ H Q):PW X e t':=fun whole pins s σ H Q I q=>h whole pins s σ H Q I (w _ _ _ q)
theorem PA.imp {t t':TA}(h:PA X es t)(w : ∀ σ H Q,t' σ H Q->t σ H Q):PA X es t':=fun pos pins s σ H Q I q=>h pos pins s σ H Q I (w _ _ _ q)
theorem cU {f:EF}(h:DF n X e f):DE X e f:=PE.imp h fun σ H Q ⟨P,ρ,d,hP,rs,ef,k⟩=>⟨P,ρ,d,hP,rs,ef,Res.of hP k⟩
def aB (i:Nat):EF:=fun ρ=>(ρ[i]?).join
theorem VQ(h:aB i ρ=some d):ρ[i]?=some (some d):=by
 unfold aB at h
 cases e:ρ[i]? with
 | none=>rw[e] at h; simp at h
 | some o=>rw[e] at h; simp at h; rw[h]
theorem aF (i:Nat)(hN:X.N[i]?=some x:=by rfl)(hv:hJ X.env.scope x:=by first | exact aP rfl | exact aQ (aP rfl) | exact aQ (aQ rfl))(hd:(x == ("__debug__" : aC))=false:=by decide)
  (hcd:(x == ("__classdict__" : aC))=false:=by decide):DE X (.Name x pos) (aB i):=PE.imp (jC hN hv hd hcd) fun σ H Q gh=>by
 obtain⟨P,ρ,d,hP,rs,ef,k⟩:=gh
 obtain⟨v,h1,h2⟩:=rs i d (VQ ef)
 exact⟨v,h1,k.zero Ext.refl h2⟩
def eC (d:aA):EF:=fun _=>some d
theorem yD(h:PE X e (tC v))(hr : ∀ H,Abq X.K H d v):DE X e (eC d):=PE.imp h fun σ H Q gh=>by
 obtain⟨P,ρ,d',hP,rs,ef,k⟩:=gh
 cases ef
 exact k.zero Ext.refl (hr _)
theorem bB {i j}:DE X (.Constant (.int i) j pos) (eC (.int i)):=yD ZL fun _=>Aan.mpr rfl
theorem EZ {i j}:DE X (.Constant (.bool i) j pos) (eC (.bool i)):=yD Fd fun _=>Aay.mpr rfl
theorem vL {j}:DE X (.Constant .none j pos) (eC .none):=yD ZJ fun _=>Ab3.mpr rfl
theorem mG {i j}(h:cQ (.str i)=true:=by decide +kernel):DE X (.Constant (.str i) j pos) (eC (.str i)):=yD Jj fun _=>Aa7.mpr ⟨rfl,h⟩
theorem Uh{i:Int}{u:aE}(hg:Gl X x)(hm:X.mg x=some u)(r:RelV (.int i) u)(hd:(x == ("__debug__" : aC))=false:=by decide):DE X (.Name x pos) (eC (.int i)):=yD (Mb hg hm r hd) fun _=>Aan.mpr rfl
def aM:AF:=fun _=>some []
def aG (f:EF)(g:AF):AF:=fun ρ=>(f ρ).bind fun d=>(g ρ).bind fun ds=>some (d::ds)
theorem aR:DA X [] aM:=PA.imp lJ fun σ H Q gh=>by
 obtain⟨P,ρ,d,hP,rs,ef,k⟩:=gh
 cases ef
 exact k [] H Ext.refl (Aao.mpr rfl)
theorem aL {f:EF}{g:AF}(h1:DE X e f)(h2:DA X es g)(hs:bK (e::es) X.env=(false,bM e X.env)::bK es X.env:=by rfl):DA X (e::es) (aG f g):=
 PA.imp (iR h1 h2 hs) fun σ H Q gh=>by
  obtain⟨P,ρ,ds,hP,rs,ef,k⟩:=gh
  obtain⟨d,e1,ef⟩:=XBs ef
  obtain⟨r,e2,ef⟩:=XBs ef
  cases ef
  exact⟨P,ρ,d,hP,rs,e1,dU fun v H1 x1 r1=>⟨P,ρ,r,hP.ext x1,rs.ext (cT x1),e2,fun vs H2 x2 r2=>
   k _ _ (x1.trans x2) (Aah.mpr ⟨v,vs,rfl,r1.ext (cT x2),r2⟩)⟩⟩
def gA (g:AF):EF:=fun ρ=>(g ρ).bind fun ds=>if ds.length≤sizeLine then some (.tuple ds) else none
def dP (g:AF):EF:=fun ρ=>(g ρ).bind fun ds=>if ds.length≤sizeLine then some (.list ds) else none
theorem cN {α:Type}{c:Prop}[Decidable c]{x y:α}(h:(if c then some x else none)=some y):c/\x=y:=by
 by_cases q:c
 ·rw[if_pos q] at h; exact⟨q,eY h⟩
 ·rw[if_neg q] at h; cases h
theorem mH {g:AF}{x1}(h:DA X es g):DE X (.Tuple es x1 pos) (gA g):=PE.imp (YT h) fun σ H Q gh=>by
 obtain⟨P,ρ,d,hP,rs,ef,k⟩:=gh
 obtain⟨ds,e1,ef⟩:=XBs ef
 obtain⟨hl,rfl⟩:=cN ef
 exact⟨P,ρ,ds,hP,rs,e1,fun vs H1 x1 r1=>⟨by rw[r1.length]; exact hl,fun p hp=>(k.mono x1).tup (hP.ext x1) hp r1⟩⟩
theorem fQ {g:AF}(h:DA X es g):DF 1 X (.List es pos) (dP g):=PE.imp (Hz h) fun σ H Q gh=>by
 obtain⟨P,ρ,d,hP,rs,ef,k⟩:=gh
 obtain⟨ds,e1,ef⟩:=XBs ef
 obtain⟨hl,rfl⟩:=cN ef
 exact⟨P,ρ,ds,hP,rs,e1,fun vs H1 x1 r1=>⟨by rw[r1.length]; exact hl,fun p hp=>(k.mono x1).lst (hP.ext x1) hp r1⟩⟩
def OpD (K:aK)(n:Nat)(r:R2)(g:aA->aA->Option aA):Prop:=
 ∀ (P:aD->Prop) (H:Hp) (x y:V) (a b d:aA) (Q:VK),Hid P H->Abq K (hid H P) a x->Abq K (hid H P) b y->g a b=some d->Res K P n d H Q->r x y H Q
def eOp (g:aA->aA->Option aA)(fa fb:EF):EF:=fun ρ=>(fa ρ).bind fun a=>(fb ρ).bind fun b=>g a b
theorem HQ{fa fb:EF}(hg:OpD K n r g) : ∀ σ H Q,tF K n (eOp g fa fb) σ H Q->tOp r (tF K 0 fa) (tF K 0 fb) σ H Q:=fun σ H Q gh=>by
 obtain⟨P,ρ,d,hP,rs,ef,k⟩:=gh
 obtain⟨d1,e1,ef⟩:=XBs ef
 obtain⟨d2,e2,ef⟩:=XBs ef
 exact⟨P,ρ,d1,hP,rs,e1,dU fun v H1 x1 r1=>⟨P,ρ,d2,hP.ext x1,rs.ext (cT x1),e2,dU fun u H2 x2 r2=>
  hg P H2 v u d1 d2 d Q (hP.ext (x1.trans x2)) (r1.ext (cT x2)) r2 ef (k.mono (x1.trans x2))⟩⟩
theorem pC {op:Operator}{fa fb:EF}(ho:OpR X (kK op) r)(hg:OpD X.K n r g)(ha:DE X a fa)(hb:DE X b fb):DF n X (.BinOp a op b pos) (eOp g fa fb):=PE.imp (Fj ho ha hb) (HQ hg)
theorem CF {op:CmpOp}{fa fb:EF}(ho:OpR X (kJ op) r)(hg:OpD X.K 0 r g)(ha:DE X a fa)(hb:DE X b fb)(hm:uF op b=false):DE X (.Compare a [op] [b] pos) (eOp g fa fb):=PE.imp (QV ho ha hb hm) (HQ hg)
def UnD (K:aK)(n:Nat)(r:V->Hp->VK->Prop)(g:aA->Option aA):Prop:=
 ∀ (P:aD->Prop) (H:Hp) (x:V) (a d:aA) (Q:VK),Hid P H->Abq K (hid H P) a x->g a=some d->Res K P n d H Q->r x H Q
def eUn (g:aA->Option aA)(fa:EF):EF:=fun ρ=>(fa ρ).bind g
theorem Ej {op:UnaryOp}{r:V->Hp->VK->Prop}{g:aA->Option aA}{fa:EF}(ho:UnR X (unaryOp op) r)(hg:UnD X.K n r g)(ha:DE X a fa):DF n X (.UnaryOp op a pos) (eUn g fa):=
 PE.imp (Es ho ha) fun σ H Q gh=>by
  obtain⟨P,ρ,d,hP,rs,ef,k⟩:=gh
  obtain⟨d1,e1,ef⟩:=XBs ef
  exact⟨P,ρ,d1,hP,rs,e1,dU fun v H1 x1 r1=>hg P H1 v d1 d Q (hP.ext x1) r1 ef (k.mono x1)⟩
def CallD (K:aK)(n:Nat)(r:List V->Hp->VK->Prop)(g:List aA->Option aA):Prop:=
 ∀ (P:aD->Prop) (H:Hp) (xs:List V) (ds:List aA) (d:aA) (Q:VK),Hid P H->Aas K (hid H P) ds xs->g ds=some d->Res K P n d H Q->r xs H Q
def aO (g:List aA->Option aA)(fa:AF):EF:=fun ρ=>(fa ρ).bind g
variable {r:List V->Hp->VK->Prop}{g:List aA->Option aA}{fa:AF}{id:String}
theorem fV (hc:Aek X (.builtin id) r)(hg:CallD X.K n r g)(hgl:Gl X x)(hm:X.mg x=none)(hv:nO x=some (.builtin id))(ha:DA X (e::es) fa)(hn:x ≠ "__name__":=by decide)(hdb:(x == ("__debug__" : aC))=false:=by decide)
  (he:bK (e::es) X.env=(false,bM e X.env)::bK es X.env:=by rfl) (hpl:(eW pos (bK es X.env)).any (·.1)=false:=by rfl):DF n X (.Call (.Name x p) (e::es) [] pos) (aO g fa):=
 PE.imp (SE hc hgl hm hv ha hn hdb he hpl) fun σ H Q gh=>by
  obtain⟨P,ρ,d,hP,rs,ef,k⟩:=gh
  obtain⟨d1,e1,ef⟩:=XBs ef
  exact⟨P,ρ,d1,hP,rs,e1,fun vs H1 x1 r1=>hg P H1 vs d1 d Q (hP.ext x1) r1 ef (k.mono x1)⟩
theorem jS (hc:Aek X (.type T) r)(hg:CallD X.K n r g)(hgl:Gl X x)(hm:X.mg x=none)(hv:nO x=some (.type T))(ha:DA X (e::es) fa)(hn:x ≠ "__name__":=by decide)(hdb:(x == ("__debug__" : aC))=false:=by decide)
  (he:bK (e::es) X.env=(false,bM e X.env)::bK es X.env:=by rfl) (hpl:(eW pos (bK es X.env)).any (·.1)=false:=by rfl):DF n X (.Call (.Name x p) (e::es) [] pos) (aO g fa):=
 PE.imp (KP hc hgl hm hv ha hn hdb he hpl) fun σ H Q gh=>by
  obtain⟨P,ρ,d,hP,rs,ef,k⟩:=gh
  obtain⟨d1,e1,ef⟩:=XBs ef
  exact⟨P,ρ,d1,hP,rs,e1,fun vs H1 x1 r1=>hg P H1 vs d1 d Q (hP.ext x1) r1 ef (k.mono x1)⟩
def asB:aA->Option Bool
 | .bool b=>some b
 | _=>none
theorem JN{b:Bool}(h:asB d=some b):d = .bool b:=by
 cases d <;> simp[asB] at h
 rw[h]
def bOf (f:EF):BF:=fun ρ=>(f ρ).bind asB
theorem qV {f:EF}(h:DE X e f)(he : ∀ whole,isTrue e X.env whole=(do let v ← whole; standAt e.pos; pT [v] (truthy v)):=by intro _; rfl):DT X e (bOf f):=PT.imp (Ir h he) fun σ H Q gh=>by
 obtain⟨P,ρ,b,hP,rs,ef,k⟩:=gh
 obtain⟨d,e1,ef⟩:=XBs ef
 cases JN ef
 exact⟨P,ρ,_,hP,rs,e1,dU fun v H1 x1 r1=>⟨b,Aay.mp r1,k H1 x1⟩⟩
theorem fI {op:CmpOp}{r:R2}{g:aA->aA->Option aA}{fa fb:EF}(ho:OpR X (kJ op) r)(hg:OpD X.K 0 r g)(ha:DE X a fa)(hb:DE X b fb)(hm:uF op b=false):DT X (.Compare a [op] [b] pos) (bOf (eOp g fa fb)):=
 PT.imp (Ax ho ha hb hm) fun σ H Q gh=>by
  obtain⟨P,ρ,c,hP,rs,ef,k⟩:=gh
  obtain⟨d,e1,ef⟩:=XBs ef
  cases JN ef
  exact HQ hg σ H _ ⟨P,ρ,_,hP,rs,e1,dU fun v H1 x1 r1=>⟨c,Aay.mp r1,k H1 x1⟩⟩
def oK (f:BF):BF:=fun ρ=>(f ρ).bind fun b=>some (!b)
def lX (f g:BF):BF:=fun ρ=>(f ρ).bind fun b=>if b=true then g ρ else some false
def bOr (f g:BF):BF:=fun ρ=>(f ρ).bind fun b=>if b=true then some true else g ρ
variable {fB gB:BF}{rest:List aS}
theorem ZD (h:DT X a fB):DT X (.UnaryOp .Not a pos) (oK fB):=PT.imp (Hc h) fun σ H Q gh=>by
 obtain⟨P,ρ,c,hP,rs,ef,k⟩:=gh
 obtain⟨b,e1,ef⟩:=XBs ef
 cases ef
 exact⟨P,ρ,b,hP,rs,e1,fun H1 x1=>k H1 x1⟩
theorem ZS (h:DT X a fB):DW X (.BoolOp .And [a] pos) fB:=Ar h
theorem Iu (h:DT X a fB):DW X (.BoolOp .Or [a] pos) fB:=Gn h
theorem YQ (h:DT X a fB)(h2:DW X (.BoolOp .And (b::rest) pos) gB):DW X (.BoolOp .And (a::b::rest) pos) (lX fB gB):=PW.imp (ZH h h2) fun σ H Q gh=>by
 obtain⟨P,ρ,c,hP,rs,ef,k⟩:=gh
 obtain⟨b,e1,ef⟩:=XBs ef
 refine⟨P,ρ,b,hP,rs,e1,fun H1 x1=>?_⟩
 cases b with
 | true=>exact mU ⟨P,ρ,c,hP.ext x1,rs.ext (cT x1),by simpa using ef,fun H2 x2=>k H2 (x1.trans x2)⟩
 | false=>
  have:false=c:=by simpa using ef
  subst this
  exact nK (k H1 x1)
theorem Ei (h:DT X a fB)(h2:DW X (.BoolOp .Or (b::rest) pos) gB):DW X (.BoolOp .Or (a::b::rest) pos) (bOr fB gB):=PW.imp (Ez h h2) fun σ H Q gh=>by
 obtain⟨P,ρ,c,hP,rs,ef,k⟩:=gh
 obtain⟨b,e1,ef⟩:=XBs ef
 refine⟨P,ρ,b,hP,rs,e1,fun H1 x1=>?_⟩
 cases b with
 | true=>
  have:true=c:=by simpa using ef
  subst this
  exact mU (k H1 x1)
 | false=>exact nK ⟨P,ρ,c,hP.ext x1,rs.ext (cT x1),by simpa using ef,fun H2 x2=>k H2 (x1.trans x2)⟩
theorem HI (h:DW X a fB):DT X a fB:=h.pt
def HA (f:EF):EF:=fun ρ=>(f ρ).bind fun d=>(asB d).bind fun b=>some (.bool (!b))
def oI (f g:EF):EF:=fun ρ=>(f ρ).bind fun d=>(asB d).bind fun b=>if b=true then g ρ else some (.bool false)
def eOr (f g:EF):EF:=fun ρ=>(f ρ).bind fun d=>(asB d).bind fun b=>if b=true then some (.bool true) else g ρ
variable {f1 f2:EF}
theorem HV {op}(h:DE X a f1):DE X (.BoolOp op [a] pos) f1:=ZG h
theorem IA (h:DE X a f1)(h2:DE X (.BoolOp .And (b::rest) pos) f2):DE X (.BoolOp .And (a::b::rest) pos) (oI f1 f2):=PE.imp (ZE h h2) fun σ H Q gh=>by
 obtain⟨P,ρ,c,hP,rs,ef,k⟩:=gh
 obtain⟨d,e1,ef⟩:=XBs ef
 obtain⟨b,e2,ef2⟩:=XBs ef
 clear ef
 have ef:=ef2
 clear ef2
 cases JN e2
 refine⟨P,ρ,_,hP,rs,e1,dU fun v H1 x1 r1=>⟨b,Aay.mp r1,?_⟩⟩
 cases b with
 | true=>exact mU ⟨P,ρ,c,hP.ext x1,rs.ext (cT x1),by simpa using ef,k.mono x1⟩
 | false=>
  have:lA false=c:=by simpa using ef
  subst this
  exact nK (k.zero x1 (Aay.mpr rfl))
def eIf (t:BF)(f g:EF):EF:=fun ρ=>(t ρ).bind fun b=>if b=true then f ρ else g ρ
end
abbrev Slot:=Option (Nat×aA)
abbrev aX:=List Slot
def vS (ρ:aX):List (Option aA):=ρ.map fun s=>match s with | some (0,d)=>some d | _=>none
def vA (ρ:aX):List (Option aA):=ρ.map fun s=>s.map (·.2)
theorem Gy {ρ:aX}(h:(vS ρ)[i]?=some (some d)):ρ[i]?=some (some (0,d)):=by
 unfold vS at h
 rw[eQ] at h
 cases e:ρ[i]? with
 | none=>rw[e] at h; simp at h
 | some s=>
  rw[e] at h
  simp only[oU,FT] at h
  cases s with
  | none=>simp at h
  | some q=>
   obtain⟨n,d'⟩:=q
   cases n with
   | zero=>simp at h; rw[h]
   | succ n=>simp at h
theorem Kg {ρ:aX}(h:(vA ρ)[i]?=some (some d)) : ∃ n,ρ[i]?=some (some (n,d)):=by
 unfold vA at h
 rw[eQ] at h
 cases e:ρ[i]? with
 | none=>rw[e] at h; simp at h
 | some s=>
  rw[e] at h
  cases s with
  | none=>simp at h
  | some q=>
   obtain⟨n,d'⟩:=q
   simp at h
   exact⟨n,by rw[h]⟩
abbrev Hd (P0:aD->Prop)(fp:Nat->List aD):aD->Prop:=fun a=>P0 a \/ ∃ i,a∈fp i
structure Sta (K:aK)(H0:Hp)(P0:aD->Prop)(B0:Hp)(ρ:aX)(σ:St)(H:Hp)(fp:Nat->List aD):Prop where
 len:σ.length=ρ.length
 nd : ∀ i,(fp i).Nodup
 dj : ∀ i j a,a∈fp i->a∈fp j->i=j
 own : ∀ i a,a∈fp i->H0 a=none/\((∃ xs,H a=some (.lst xs)) \/ ∃ q:DQ,H a=some (dO q))
 ext:Ext H0 H
 hd:Hid P0 H0
 base:Ext B0 (hid H (Hd P0 fp))
 slot : ∀ (i:Nat) n d,ρ[i]?=some (some (n,d)) -> ∃ v,σ[i]?=some (some v)/\Afz K (hid H (Hd P0 fp)) H n d v (fp i)
section
variable {ρ:aX}
theorem Sta.hid (S:Sta K H0 P0 B0 ρ σ H fp):Hid (Hd P0 fp) H:=fun a h=>by
 rcases h with h | ⟨i,h⟩
 ·exact S.hd.ext S.ext a h
 ·exact(S.own i a h).2
theorem Sta.np (S:Sta K H0 P0 B0 ρ σ H fp)(m:a∈fp i) : ¬ P0 a:=S.hd.new (S.own i a m).1
theorem Sta.grow (S:Sta K H0 P0 B0 ρ σ H fp)(x:Ext H H'):Sta K H0 P0 B0 ρ σ H' fp:=by
 refine⟨S.len,S.nd,S.dj,fun i a m=>⟨(S.own i a m).1,(S.own i a m).2.imp (fun⟨xs,e⟩=>⟨xs,x _ _ e⟩) fun⟨xs,e⟩=>⟨xs,x _ _ e⟩⟩,S.ext.trans x,S.hd,S.base.trans (cT x),fun i n d e=>?_⟩
 obtain⟨v,h1,h2⟩:=S.slot i n d e
 refine⟨v,h1,h2.keep (cT x) fun a m=>?_⟩
 rcases(S.own i a m).2 with⟨xs,e⟩ | ⟨xs,e⟩
 ·rw[e,x _ _ e]
 ·rw[e,x _ _ e]
theorem Sta.viewS (S:Sta K H0 P0 B0 ρ σ H fp):Ana K (L2.hid H (Hd P0 fp)) (vS ρ) σ:=fun i d e=>by
 obtain⟨v,h1,h2⟩:=S.slot i 0 d (Gy e)
 exact⟨v,h1,h2.2⟩
theorem Sta.viewA (S:Sta K H0 P0 B0 ρ σ H fp):Ana K (L2.hid H P0) (vA ρ) σ:=fun i d e=>by
 obtain⟨n,e⟩:=Kg e
 obtain⟨v,h1,h2⟩:=S.slot i n d e
 exact⟨v,h1,h2.share (iQ fun a p=>.inl p) fun a m o e=>gJ (S.np m) e⟩
def Tmp (K:aK)(H0:Hp)(P0:aD->Prop)(B0:Hp)(ρ:aX)(σ:St)(n:Nat)(d:aA)(v:V)(H:Hp):Prop:=
 ∃ fp,Sta K H0 P0 B0 ρ σ H fp/\Afz K (L2.hid H (Hd P0 fp)) H n d v (fp ρ.length)
inductive Md | s | a
def uQ (ρ:aX):Bool:=ρ.all fun s=>match s with
 | some (0,_)=>true
 | some (1,.dict _)=>true
 | none=>true
 | _=>false
def rN (ρ:aX):Bool:=ρ.all fun s=>match s with
 | some (9,_)=>false
 | _=>true
def eV (n:Nat)(m:Md)(f:EF)(ρ:aX):Option aA:=match m with
 | .s=>f (vS ρ)
 | .a=>(f (vA ρ)).bind fun d=>if (gC n d||(uQ ρ&&decide (n<9)&&iM n d)||(rN ρ&&decide (n=0)&&ftD d))=true then some d else none
def bV (m:Md)(f:BF)(ρ:aX):Option Bool:=match m with
 | .s=>f (vS ρ)
 | .a=>f (vA ρ)
def aV (m:Md)(f:AF)(ρ:aX):Option (List aA):=match m with
 | .s=>f (vS ρ)
 | .a=>f (vA ρ)
def tE (K:aK)(H0:Hp)(P0:aD->Prop)(n:Nat)(m:Md)(f:EF):TE:=fun σ H Q=>∃ B0 ρ fp d,Sta K H0 P0 B0 ρ σ H fp/\eV n m f ρ=some d /\ ∀ v H',Tmp K H0 P0 B0 ρ σ n d v H'->Q v H'
end
theorem Sta.trim{ρ:aX}(S:Sta K H0 P0 B0 ρ σ H fp) : ∃ fp',Sta K H0 P0 B0 ρ σ H fp' /\ ∀ i a,a∈fp' i->a∈fp i /\ ∃ n d,ρ[i]?=some (some (n,d)):=by
 let fp':Nat->List aD:=fun i=>match ρ[i]? with
  | some (some _)=>fp i
  | _=>[]
 have sub : ∀ i a,a∈fp' i->a∈fp i /\ ∃ n d,ρ[i]?=some (some (n,d)):=fun i a m=>by
  have m:a∈(match ρ[i]? with | some (some _)=>fp i | _=>[]):=m
  split at m
  ·rename_i x e
   exact⟨m,x.1,x.2,e⟩
  ·simp at m
 have same : ∀ i n d,ρ[i]?=some (some (n,d))->fp' i=fp i:=fun i n d e=>by
  show(match ρ[i]? with | some (some _)=>fp i | _=>[])=fp i
  rw[e]
 have xb:Ext (L2.hid H (Hd P0 fp)) (L2.hid H (Hd P0 fp')):=iQ fun a h=>h.imp id fun⟨i,m⟩=>⟨i,(sub i a m).1⟩
 refine⟨fp',⟨S.len,fun i=>?_,fun i j a h1 h2=>S.dj i j a (sub i a h1).1 (sub j a h2).1,fun i a m=>S.own i a (sub i a m).1,S.ext,S.hd,S.base.trans xb,fun i n d e=>?_⟩,sub⟩
 ·show(match ρ[i]? with | some (some _)=>fp i | _=>[]).Nodup
  split
  ·exact S.nd i
  ·exact uL
 ·obtain⟨v,h1,h2⟩:=S.slot i n d e
  rw[same i n d e]
  exact⟨v,h1,h2.keep xb fun a m=>rfl⟩
theorem Sta.dicts{ρ:aX}(S:Sta K H0 P0 B0 ρ σ H fp)(ho:uQ ρ=true){n:Nat}(m:a∈fp i)(e:ρ[i]?=some (some (n,d))) : ∃ q,H a=some (dO (.inl q)):=by
 have:=fH.mp ho _ (fL e)
 obtain⟨v,h1,h2⟩:=S.slot i n d e
 split at this
 ·rename_i z
  cases z
  rw[h2.1] at m
  simp at m
 ·rename_i kds z
  cases z
  obtain⟨p,xs,Fs,_,hp,hF,h3⟩:=h2
  have hn : ∀ {ds:List (aA×aA)} {ys:List (aI×V)} {Gs:List (List aD)},All3 (fun(kd:aA×aA) (kv:aI×V) f=>kd.1=kD kv.1/\Afn K (L2.hid H (Hd P0 fp)) H 0 kd.2 kv.2 f) ds ys Gs->Gs.flatten=[]:=fun q=>by
   induction q with
   | nil=>rfl
   | cons h _ ih=>rw[nU,h.2.1,ih]; rfl
  rw[hF,hn h3] at m
  rw[cG.mp m]
  exact⟨xs,hp⟩
 ·rename_i z
  cases z
 ·cases this
theorem Sta.no9{ρ:aX}(S:Sta K H0 P0 B0 ρ σ H fp)(ho:rN ρ=true){n:Nat}(m:a∈fp i)(e:ρ[i]?=some (some (n,d))) : ∀ q,H a≠some (dO (.inr q)):=fun q z=>by
 have:=fH.mp ho _ (fL e)
 have n9:n≠9:=fun w=>by subst w; simp at this
 obtain⟨v,h1,h2⟩:=S.slot i n d e
 unfold Afz at h2
 rw[if_neg n9] at h2
 rcases h2.mut1 a m with⟨xs,w⟩ | ⟨p,w⟩ <;> rw[z] at w <;> cases w
theorem PM{f:EF}(m:Md) : ∀ σ H Q,tE K H0 P0 n m f σ H Q->tF K n f σ H Q:=fun σ H Q gh=>by
 obtain⟨B0,ρ,fp,d,S,ef,k⟩:=gh
 cases m with
 | s=>
  refine⟨Hd P0 fp,vS ρ,d,S.hid,S.viewS,ef,fun v H' Fr x nd fr r=>k v H' ?_⟩
  have S':=S.grow x
  have hsub : ∀ a,Hd P0 (fun i=>if i=ρ.length then Fr else fp i) a->orL (Hd P0 fp) Fr a:=fun a h=>by
   rcases h with h | ⟨i,h⟩
   ·exact .inl (.inl h)
   ·by_cases hi:i=ρ.length
    ·simp only[hi,if_true] at h; exact .inr h
    ·simp only[hi,if_false] at h; exact .inl (.inr ⟨i,h⟩)
  have nfr : ∀ i a,a∈fp i->a∉Fr:=fun i a h1 h2=>by
   have:=(fr a h2).1
   rcases(S.own i a h1).2 with⟨xs,e⟩ | ⟨xs,e⟩ <;> rw[this] at e <;> first | cases e | (cases xs <;> simp[dO] at e)
  have xb:Ext (L2.hid H (Hd P0 fp)) (L2.hid H' (Hd P0 fun i=>if i=ρ.length then Fr else fp i)):=fun b o e=>by
   obtain⟨nb,e⟩:=Acy.mp e
   refine gJ (fun q=>?_) (x _ _ e)
   rcases q with q | ⟨j,q⟩
   ·exact nb (.inl q)
   ·by_cases hj:j=ρ.length
    ·simp only[hj,if_true] at q; rw[(fr b q).1] at e; cases e
    ·simp only[hj,if_false] at q; exact nb (.inr ⟨j,q⟩)
  refine⟨fun i=>if i=ρ.length then Fr else fp i,⟨S.len,fun i=>?_,fun i j a hi hj=>?_,fun i a hi=>?_,S'.ext,S.hd,S.base.trans xb,fun i n' d' e'=>?_⟩,?_⟩
  ·by_cases hi:i=ρ.length
   ·simp only[hi,if_true]; exact nd
   ·simp only[hi,if_false]; exact S.nd i
  ·by_cases h1:i=ρ.length <;> by_cases h2:j=ρ.length
   ·rw[h1,h2]
   ·simp only[h1,if_true] at hi; simp only[h2,if_false] at hj; exact absurd hi (nfr _ _ hj)
   ·simp only[h1,if_false] at hi; simp only[h2,if_true] at hj; exact absurd hj (nfr _ _ hi)
   ·simp only[h1,if_false] at hi; simp only[h2,if_false] at hj; exact S.dj i j a hi hj
  ·by_cases h1:i=ρ.length
   ·simp only[h1,if_true] at hi
    exact⟨S.ext.none (fr a hi).1,r.mut a hi⟩
   ·simp only[h1,if_false] at hi
    exact S'.own i a hi
  ·have hlt:i<ρ.length:=(dD.mp e').1
   have h1:i≠ρ.length:=by omega
   obtain⟨v',q1,q2⟩:=S'.slot i n' d' e'
   refine⟨v',q1,?_⟩
   simp only[h1,if_false]
   obtain⟨v2,p1,p2⟩:=S.slot i n' d' e'
   have ev:v2=v':=eY (eY (p1.symm.trans q1))
   subst ev
   refine p2.keep xb fun a m=>?_
   rcases(S.own i a m).2 with⟨xs,e⟩ | ⟨xs,e⟩
   ·rw[e,x _ _ e]
   ·rw[e,x _ _ e]
  ·simp only[if_true]
   exact r.keep (iQ hsub) fun a m=>rfl
 | a=>
  obtain⟨d',ed,ef⟩:=XBs ef
  obtain⟨fl,rfl⟩:=cN ef
  obtain⟨fp,S,trm⟩:=S.trim
  refine⟨P0,vA ρ,d',S.hd.ext S.ext,S.viewA,ed,fun v H' Fr x nd fr r=>k v H' ?_⟩
  have S':=S.grow x
  have nfr : ∀ i a,a∈fp i->a∉Fr:=fun i a h1 h2=>by
   have:=(fr a h2).1
   rcases(S.own i a h1).2 with⟨xs,e⟩ | ⟨xs,e⟩ <;> rw[this] at e <;> first | cases e | (cases xs <;> simp[dO] at e)
  have xb:Ext (L2.hid H (Hd P0 fp)) (L2.hid H' (Hd P0 fun i=>if i=ρ.length then Fr else fp i)):=fun b o e=>by
   obtain⟨nb,e⟩:=Acy.mp e
   refine gJ (fun q=>?_) (x _ _ e)
   rcases q with q | ⟨j,q⟩
   ·exact nb (.inl q)
   ·by_cases hj:j=ρ.length
    ·simp only[hj,if_true] at q; rw[(fr b q).1] at e; cases e
    ·simp only[hj,if_false] at q; exact nb (.inr ⟨j,q⟩)
  refine⟨fun i=>if i=ρ.length then Fr else fp i,⟨S.len,fun i=>?_,fun i j a hi hj=>?_,fun i a hi=>?_,S'.ext,S.hd,S.base.trans xb,fun i n' d' e'=>?_⟩,?_⟩
  ·by_cases hi:i=ρ.length
   ·simp only[hi,if_true]; exact nd
   ·simp only[hi,if_false]; exact S.nd i
  ·by_cases h1:i=ρ.length <;> by_cases h2:j=ρ.length
   ·rw[h1,h2]
   ·simp only[h1,if_true] at hi; simp only[h2,if_false] at hj; exact absurd hi (nfr _ _ hj)
   ·simp only[h1,if_false] at hi; simp only[h2,if_true] at hj; exact absurd hj (nfr _ _ hi)
   ·simp only[h1,if_false] at hi; simp only[h2,if_false] at hj; exact S.dj i j a hi hj
  ·by_cases h1:i=ρ.length
   ·simp only[h1,if_true] at hi
    exact⟨S.ext.none (fr a hi).1,r.mut a hi⟩
   ·simp only[h1,if_false] at hi
    exact S'.own i a hi
  ·have hlt:i<ρ.length:=(dD.mp e').1
   have h1:i≠ρ.length:=by omega
   obtain⟨v2,p1,p2⟩:=S.slot i n' d' e'
   refine⟨v2,p1,?_⟩
   simp only[h1,if_false]
   refine p2.keep xb fun a m=>?_
   rcases(S.own i a m).2 with⟨xs,e⟩ | ⟨xs,e⟩
   ·rw[e,x _ _ e]
   ·rw[e,x _ _ e]
  ·simp only[if_true]
   have up : ∀ a o,(L2.hid H' (orL P0 Fr)) a=some o->((∃ xs,o = .tup xs) \/ (uQ ρ=true /\ ∀ q,o≠dO (.inl q)) \/ (rN ρ=true /\ ∃ q,o=dO (.inr q)))->(L2.hid H' (Hd P0 fun i=>if i=ρ.length then Fr else fp i)) a=some o:=fun a o e ho=>by
    obtain⟨na,e⟩:=Acy.mp e
    refine gJ (fun q=>?_) e
    rcases q with q | ⟨j,q⟩
    ·exact na (.inl q)
    ·by_cases hj:j=ρ.length
     ·simp only[hj,if_true] at q; exact na (.inr q)
     ·simp only[hj,if_false] at q
      rcases ho with⟨xs,rfl⟩ | ⟨ho,hq⟩ | ⟨ho,qq,rfl⟩
      ·rcases(S'.own j a q).2 with⟨ys,e2⟩ | ⟨ys,e2⟩ <;> rw[e] at e2 <;> first | cases e2 | (cases ys <;> simp[dO] at e2)
      ·obtain⟨_,n',d',e'⟩:=trm j a q
       obtain⟨z,ez⟩:=S'.dicts ho q e'
       rw[e] at ez
       injection ez with ez
       exact hq z ez
      ·obtain⟨_,n',d',e'⟩:=trm j a q
       exact absurd e (S'.no9 ho q e' qq)
   rcases Cz.mp fl with fl | fl3
   rcases Cz.mp fl with fl | fl
   ·exact r.flat (fun a xs e=>up a _ e (.inl ⟨xs,rfl⟩)) fl
   ·have fl:=iH.mp fl
    have fl1:=iH.mp fl.1
    exact r.nd (fun a o e hq=>up a o e (.inr (.inl ⟨fl1.1,hq⟩))) (of_decide_eq_true fl1.2) fl.2
   ·have fl:=iH.mp fl3
    have fl1:=iH.mp fl.1
    have z:n=0:=of_decide_eq_true fl1.2
    subst z
    exact⟨r.1,r.2.ft (fun a o e hq=>up a o e (hq.imp id fun hq=>.inr ⟨fl1.1,hq⟩)) _ fl.2⟩
theorem ev {f:EF}(m:Md)(h:DF n X e f):PE X e (tE X.K H0 P0 n m f):=PE.imp h (PM m)
def tB' (K:aK)(H0:Hp)(P0:aD->Prop)(m:Md)(f:BF):TT:=fun σ H Q=>∃ B0 ρ fp b,Sta K H0 P0 B0 ρ σ H fp/\bV m f ρ=some b /\ ∀ H',Sta K H0 P0 B0 ρ σ H' fp->Q b H'
theorem evB {f:BF}(m:Md)(h:DT X e f):PT X e (tB' X.K H0 P0 m f):=PT.imp h fun σ H Q gh=>by
 obtain⟨B0,ρ,fp,b,S,ef,k⟩:=gh
 cases m with
 | s=>exact⟨Hd P0 fp,vS ρ,b,S.hid,S.viewS,ef,fun H' x=>k H' (S.grow x)⟩
 | a=>exact⟨P0,vA ρ,b,S.hd.ext S.ext,S.viewA,ef,fun H' x=>k H' (S.grow x)⟩
inductive Out where
 | nx (ρ:aX) | rt (d:aA) | bk (ρ:aX) | ct (ρ:aX)
abbrev SF:=aX->Option Out
def OR (K:aK)(H0:Hp)(P0:aD->Prop)(n0:Nat)(d:aA)(v:V)(H':Hp):Prop:=
 ∃ Fr,Ext H0 H'/\Fr.Nodup/\(∀ a∈Fr,H0 a=none /\ ∃ o,H' a=some o)/\Afz K (hid H' (orL P0 Fr)) H' n0 d v Fr
def PY (K:aK)(H0:Hp)(P0:aD->Prop)(B0:Hp)(n0:Nat)(D:Ends):Out->Prop
 | .nx ρ=>∀ σ H fp,Sta K H0 P0 B0 ρ σ H fp->D.nx σ H
 | .bk ρ=>∀ σ H fp,Sta K H0 P0 B0 ρ σ H fp->D.bk σ H
 | .ct ρ=>∀ σ H fp,Sta K H0 P0 B0 ρ σ H fp->D.ct σ H
 | .rt d=>∀ v H',OR K H0 P0 n0 d v H'->D.rt v H'
def tS (K:aK)(H0:Hp)(P0:aD->Prop)(n0:Nat)(F:SF):TS:=fun D σ H=>∃ B0 ρ fp o,Sta K H0 P0 B0 ρ σ H fp/\F ρ=some o/\PY K H0 P0 B0 n0 D o
abbrev DS (X:Cx)(H0:Hp)(P0:aD->Prop)(n0:Nat)(s:bZ)(F:SF):Prop:=PS X s (tS X.K H0 P0 n0 F)
abbrev DSs (X:Cx)(H0:Hp)(P0:aD->Prop)(n0:Nat)(s:List bZ)(F:SF):Prop:=PSs X s (tS X.K H0 P0 n0 F)
section
variable {s:bZ}{ss:List bZ}{F G:SF}{f:EF}
theorem PS.imp {t t':TS}(h:PS X s t)(w : ∀ D σ H,t' D σ H->t D σ H):PS X s t':=fun pins st σ H D I q=>h pins st σ H D I (w _ _ _ q)
theorem PSs.imp {t t':TS}(h:PSs X ss t)(w : ∀ D σ H,t' D σ H->t D σ H):PSs X ss t':=fun pins st σ H D I q=>h pins st σ H D I (w _ _ _ q)
def fC:SF:=fun ρ=>some (.nx ρ)
def bA (F G:SF):SF:=fun ρ=>(F ρ).bind fun o=>match o with
 | .nx ρ'=>G ρ'
 | o=>some o
theorem gM:DSs X H0 P0 n0 [] fC:=PSs.imp ZZ fun D σ H gh=>by
 obtain⟨B0,ρ,fp,o,S,ef,k⟩:=gh
 cases ef
 exact k σ H fp S
theorem bJ (h:DS X H0 P0 n0 s F):DSs X H0 P0 n0 [s] F:=Lo h
theorem bH (h:DS X H0 P0 n0 s F)(h2:DSs X H0 P0 n0 ss G):DSs X H0 P0 n0 (s::ss) (bA F G):=PSs.imp (Vp h h2) fun D σ H gh=>by
 obtain⟨B0,ρ,fp,o,S,ef,k⟩:=gh
 obtain⟨o1,e1,ef⟩:=XBs ef
 refine⟨B0,ρ,fp,o1,S,e1,?_⟩
 cases o1 with
 | nx ρ1=>exact fun σ1 H1 fp1 S1=>⟨B0,ρ1,fp1,o,S1,ef,k⟩
 | rt d=>cases ef; exact k
 | bk ρ1=>cases ef; exact k
 | ct ρ1=>cases ef; exact k
def sIf (m:Md)(t:BF)(F G:SF):SF:=fun ρ=>(bV m t ρ).bind fun b=>if b=true then F ρ else G ρ
theorem fT{a b:List bZ}{t:BF}(m:Md)(hc:DT X c t)(ha:DSs X H0 P0 n0 a F)(hb:DSs X H0 P0 n0 b G):DS X H0 P0 n0 (.If c a b pos) (sIf m t F G):=
 PS.imp (PP (evB (H0:=H0) (P0:=P0) m hc) ha hb) fun D σ H gh=>by
  obtain⟨B0,ρ,fp,o,S,ef,k⟩:=gh
  obtain⟨b,e1,ef⟩:=XBs ef
  refine⟨B0,ρ,fp,b,S,e1,fun H1 S1=>?_⟩
  cases b with
  | true=>exact mU ⟨B0,ρ,fp,o,S1,by simpa using ef,k⟩
  | false=>exact nK ⟨B0,ρ,fp,o,S1,by simpa using ef,k⟩
def frz (i:Nat)(ρ:aX):aX:=match ρ[i]? with
 | some (some (_,d))=>ρ.set i (some (0,d))
 | _=>ρ
theorem Sta.frz{ρ:aX}(S:Sta K H0 P0 B0 ρ σ H fp)(i:Nat) : ∃ fp',Sta K H0 P0 B0 (L2.frz i ρ) σ H fp':=by
 unfold L2.frz
 cases e:ρ[i]? with
 | none=>exact⟨fp,S⟩
 | some s=>
  cases s with
  | none=>exact⟨fp,S⟩
  | some q=>
   obtain⟨n,d⟩:=q
   have hi:i<ρ.length:=(dD.mp e).1
   have hsub : ∀ a,Hd P0 (fun j=>if j=i then [] else fp j) a->Hd P0 fp a:=fun a h=>by
    rcases h with h | ⟨j,h⟩
    ·exact .inl h
    ·by_cases hj:j=i
     ·simp only[hj,if_true] at h; simp at h
     ·simp only[hj,if_false] at h; exact .inr ⟨j,h⟩
   refine⟨fun j=>if j=i then [] else fp j,⟨by simp[S.len],fun j=>?_,fun j k a h1 h2=>?_,fun j a h1=>?_,S.ext,S.hd,S.base.trans (iQ hsub),fun j n' d' e'=>?_⟩⟩
   ·by_cases hj:j=i
    ·simp only[hj,if_true]; exact .nil
    ·simp only[hj,if_false]; exact S.nd j
   ·by_cases hj:j=i
    ·simp only[hj,if_true] at h1; simp at h1
    ·by_cases hk:k=i
     ·simp only[hk,if_true] at h2; simp at h2
     ·simp only[hj,if_false] at h1; simp only[hk,if_false] at h2; exact S.dj j k a h1 h2
   ·by_cases hj:j=i
    ·simp only[hj,if_true] at h1; simp at h1
    ·simp only[hj,if_false] at h1; exact S.own j a h1
   ·by_cases hj:j=i
    ·subst hj
     rw[nR hi] at e'
     cases e'
     obtain⟨v,h1,h2⟩:=S.slot j n d e
     refine⟨v,h1,?_⟩
     simp only[if_true]
     refine⟨rfl,h2.share (iQ hsub) fun a m o q=>gJ (fun z=>?_) q⟩
     rcases z with z | ⟨k,z⟩
     ·exact S.np m z
     ·by_cases hk:k=j
      ·simp only[hk,if_true] at z; simp at z
      ·simp only[hk,if_false] at z; exact hk (S.dj k j a z m)
    ·rw[lW (fun z=>hj z.symm)] at e'
     obtain⟨v,h1,h2⟩:=S.slot j n' d' e'
     refine⟨v,h1,?_⟩
     simp only[hj,if_false]
     exact h2.keep (iQ hsub) fun a m=>rfl
def lE (i:Nat)(F:SF):SF:=fun ρ=>F (frz i ρ)
theorem qY (i:Nat)(h:DSs X H0 P0 n0 ss F):DSs X H0 P0 n0 ss (lE i F):=PSs.imp h fun D σ H ⟨B0,ρ,fp,o,S,ef,k⟩=>let ⟨fp',S'⟩:=S.frz i; ⟨B0,_,fp',o,S',ef,k⟩
theorem Tmp.set{ρ:aX}(t:Tmp K H0 P0 B0 ρ σ n d v H)(hi:i<ρ.length) : ∃ fp,Sta K H0 P0 B0 (ρ.set i (some (n,d))) (σ.set i (some v)) H fp:=by
 obtain⟨fp,S,r⟩:=t
 have hne:ρ.length≠i:=by omega
 have hsub : ∀ a,Hd P0 (fun j=>if j=i then fp ρ.length else if j=ρ.length then [] else fp j) a->Hd P0 fp a:=fun a h=>by
  rcases h with h | ⟨j,h⟩
  ·exact .inl h
  ·by_cases hj:j=i
   ·simp only[hj,if_true] at h; exact .inr ⟨_,h⟩
   ·by_cases hk:j=ρ.length
    ·simp only[hj,if_false,hk,if_true] at h
     rw[if_neg hne] at h
     simp at h
    ·simp only[hj,if_false,hk] at h; exact .inr ⟨j,h⟩
 have src : ∀ j a,a∈(if j=i then fp ρ.length else if j=ρ.length then [] else fp j)->(j=i/\a∈fp ρ.length) \/ (j≠i/\j≠ρ.length/\a∈fp j):=fun j a h=>by
  by_cases hj:j=i
  ·simp only[hj,if_true] at h; exact .inl ⟨hj,h⟩
  ·by_cases hk:j=ρ.length
   ·rw[if_neg hj,if_pos hk] at h; simp at h
   ·rw[if_neg hj,if_neg hk] at h; exact .inr ⟨hj,hk,h⟩
 refine⟨fun j=>if j=i then fp ρ.length else if j=ρ.length then [] else fp j,⟨by simp[S.len],fun j=>?_,fun j k a h1 h2=>?_,fun j a h1=>?_,S.ext,S.hd,S.base.trans (iQ hsub),fun j n' d' e'=>?_⟩⟩
 ·by_cases hj:j=i
  ·rw[if_pos hj]; exact S.nd _
  ·by_cases hk:j=ρ.length
   ·rw[if_neg hj,if_pos hk]; exact .nil
   ·rw[if_neg hj,if_neg hk]; exact S.nd _
 ·rcases src j a h1 with⟨e1,m1⟩ | ⟨e1,l1,m1⟩ <;> rcases src k a h2 with⟨e2,m2⟩ | ⟨e2,l2,m2⟩
  ·rw[e1,e2]
  ·exact absurd (S.dj _ _ a m2 m1) l2
  ·exact absurd (S.dj _ _ a m1 m2) l1
  ·exact S.dj j k a m1 m2
 ·rcases src j a h1 with⟨e1,m1⟩ | ⟨e1,l1,m1⟩
  ·exact S.own _ a m1
  ·exact S.own _ a m1
 ·by_cases hj:j=i
  ·subst hj
   rw[nR hi] at e'
   cases e'
   refine⟨v,?_,?_⟩
   ·rw[nR (by rw[S.len]; exact hi)]
   ·rw[if_pos rfl]
    exact r.keep (iQ hsub) fun a m=>rfl
  ·rw[lW (fun z=>hj z.symm)] at e'
   have hlt:j<ρ.length:=(dD.mp e').1
   have hk:j≠ρ.length:=by omega
   obtain⟨v',h1,h2⟩:=S.slot j n' d' e'
   refine⟨v',?_,?_⟩
   ·rw[lW (fun z=>hj z.symm)]; exact h1
   ·rw[if_neg hj,if_neg hk]
    exact h2.keep (iQ hsub) fun a m=>rfl
def bS (i n:Nat)(m:Md)(f:EF):SF:=fun ρ=>(eV n m f ρ).bind fun d=>if i<ρ.length then some (.nx (ρ.set i (some (n,d)))) else none
theorem cL{pos':bR}(n:Nat)(m:Md)(hN:X.N.Nodup)(hi:X.N[i]?=some x)(hx:jY X.env.scope x)(he:DF n X e f)(hs:jU e (some (.Name x pos')) pos.line X.env=pure false:=by rfl)(hf:X.fn x=true \/ X.env.scope.names.lookup x=some .local:=by first | exact .inl rfl | exact .inr rfl | assumption) :
  DS X H0 P0 n0 (.Assign [.Name x pos'] e pos) (bS i n m f):=PS.imp (HU hN hi hx (ev (H0:=H0) (P0:=P0) m he) hs hf) fun D σ H gh=>by
 obtain⟨B0,ρ,fp,o,S,ef,k⟩:=gh
 obtain⟨d,e1,ef⟩:=XBs ef
 obtain⟨hl,rfl⟩:=cN ef
 refine⟨B0,ρ,fp,d,S,e1,fun v H' t=>?_⟩
 obtain⟨fp',S'⟩:=t.set hl
 exact k _ _ fp' S'
theorem Tmp.ret{ρ:aX}(t:Tmp K H0 P0 B0 ρ σ n d v H):OR K H0 P0 n d v H:=by
 obtain⟨fp,S,r⟩:=t
 refine⟨fp ρ.length,S.ext,S.nd _,fun a m=>⟨(S.own _ a m).1,?_⟩,r.keep (iQ fun a h=>?_) fun a m=>rfl⟩
 ·rcases(S.own _ a m).2 with⟨xs,e⟩ | ⟨xs,e⟩
  ·exact⟨_,e⟩
  ·exact⟨_,e⟩
 ·rcases h with h | h
  ·exact .inl h
  ·exact .inr ⟨_,h⟩
def cW (n:Nat)(m:Md)(f:EF):SF:=fun ρ=>(eV n m f ρ).bind fun d=>some (.rt d)
theorem dR (m:Md)(he:DF n0 X e f):DS X H0 P0 n0 (.Return (some e) pos) (cW n0 m f):=PS.imp (CG (ev (H0:=H0) (P0:=P0) m he)) fun D σ H gh=>by
 obtain⟨B0,ρ,fp,o,S,ef,k⟩:=gh
 obtain⟨d,e1,ef⟩:=XBs ef
 cases ef
 exact⟨B0,ρ,fp,d,S,e1,fun v H' t=>k v H' t.ret⟩
def kP (i n0:Nat):SF:=fun ρ=>match ρ[i]? with
 | some (some (n,d))=>if n=n0 then some (.rt d) else none
 | _=>none
theorem CN (i:Nat)(hN:X.N[i]?=some x:=by rfl)(hv:hJ X.env.scope x:=by first | exact aP rfl | exact aQ (aP rfl) | exact aQ (aQ rfl))(hd:(x == ("__debug__" : aC))=false:=by decide)
  (hcd:(x == ("__classdict__" : aC))=false:=by decide):DS X H0 P0 n0 (.Return (some (.Name x p)) pos) (kP i n0):=PS.imp (CG (jC hN hv hd hcd)) fun D σ H gh=>by
 obtain⟨B0,ρ,fp,o,S,ef,k⟩:=gh
 unfold kP at ef
 cases e:ρ[i]? with
 | none=>rw[e] at ef; simp at ef
 | some q=>
  cases q with
  | none=>rw[e] at ef; simp at ef
  | some q=>
   obtain⟨n,d⟩:=q
   rw[e] at ef
   obtain⟨rfl,rfl⟩:=cN ef
   obtain⟨v,h1,h2⟩:=S.slot i n d e
   refine⟨v,h1,k v H ⟨fp i,S.ext,S.nd i,fun a m=>⟨(S.own i a m).1,?_⟩,h2.keep (iQ fun a h=>?_) fun a m=>rfl⟩⟩
   ·rcases(S.own i a m).2 with⟨xs,e⟩ | ⟨xs,e⟩
    ·exact⟨_,e⟩
    ·exact⟨_,e⟩
   ·rcases h with h | h
    ·exact .inl h
    ·exact .inr ⟨_,h⟩
def qO (m:Md)(f:EF):SF:=fun ρ=>(eV 0 m f ρ).bind fun _=>some (.nx ρ)
theorem JB (m:Md)(he:DE X e f)(hs:jU e none pos.line X.env=pure false:=by rfl):DS X H0 P0 n0 (.Expr e pos) (qO m f):=PS.imp (yS (ev (H0:=H0) (P0:=P0) m he) hs) fun D σ H gh=>by
 obtain⟨B0,ρ,fp,o,S,ef,k⟩:=gh
 obtain⟨d,e1,ef⟩:=XBs ef
 cases ef
 refine⟨B0,ρ,fp,d,S,e1,fun v H' ⟨fp',S',r⟩=>k _ _ fp' S'⟩
end
theorem Rk:Aek X (.builtin "isinstance") (fun xs H Q=>∃ x T t b,xs=[x,.ty T]/\TyOf X.K H x t/\Bm X.K t (.type T)=some b/\Q (.bl b) H):=by
 intro pins s σ H xs us Q I r h
 obtain⟨x,T,t,b,rfl,ty,e,q⟩:=h
 obtain⟨u,w',rfl,ru,rw'⟩:=vals2 r
 cases rw'
 exact Wx I ru ty e fun tk=>⟨.bl b,H,I.tok tk,rfl,q⟩
def BU (x:aC):It:=⟨fun i _=>i<x.cps.size,fun i H v H'=>H'=H /\ ∃ c,x.cps[i]?=some c/\v = .str ⟨#[c]⟩,fun i _=>x.cps.size≤i⟩
theorem UW {P:cB}{it:aD}{tk0:Tok}{ty:String}
  (W : ∀ A':cO,A'.handled=none->Walks P w A' it [it] [it] x.cps.size (SignAt x) (fun i h=>h.IsStrIter it ty x tk0 i))
  (sf : ∀ (A:cO) (i:Nat) (s:aJ) (Q:aE->aJ->Prop) (E:aE->aJ->Prop),s.heap.IsStrIter it ty x tk0 i->Q (.ref it) s->aN (aW P w) A (nN (.ref it)) Q E s)
  (hno:["enumerate","zip","dict_itemiterator","dict_reverseitemiterator","odict_iterator","itertools.zip_longest","itertools.pairwise"].contains ty=false) :
  Turn P w K tg (BU x) [it] it (fun i h=>h.IsStrIter it ty x tk0 i/\i≤x.cps.size) where
 mem:=by simp
 obj:=fun i h st b hb=>by
  have e:b=it:=by simpa using hb
  subst e
  obtain⟨o,e,_,d⟩:=st.1
  exact⟨o,e,fun v z=>by rw[d] at z; cases z⟩
 keep:=fun i h h' st k=>⟨let ⟨o,e,r⟩:=st.1; ⟨o,k it (by simp) o e,r⟩,st.2⟩
 item:=by
  intro X hP hw hK hc i pins s σ H E I hf st hg
  subst hP hw hK
  obtain⟨f0,f1,f2,f3,f4,f5⟩:=hf it (by simp)
  refine(W X.A (I.ok.hd hc)).item i s _ _ hg st.1 fun v h' tk hv st' kk=>?_
  obtain⟨c,u,hcx,rfl⟩:=hv
  have I1:Inv X pins σ H { s with heap:=h',toks:=tk }:=I.turned (fun b o hb e=>kk b o (by simpa using hb) e) f0 f1 f3 f4 f5
  obtain⟨o,e,hcl,d⟩:=id st'
  exact⟨_,rfl,AM (s:={ s with heap:=h',toks:=tk }) e hcl d hno ⟨.str ⟨#[c]⟩,H,I1,⟨u,rfl⟩,⟨rfl,c,hcx,rfl⟩,⟨st',hg⟩,fun b hb=>(hf b hb).1⟩⟩
 done:=by
  intro X hP hw hK hc i pins s σ H E I hf st hg
  subst hP hw hK
  obtain⟨f0,f1,f2,f3,f4,f5⟩:=hf it (by simp)
  have hi:i=x.cps.size:=Nat.le_antisymm st.2 hg
  subst hi
  exact(W X.A (I.ok.hd hc)).done s _ _ st.1 fun h' tk kk=>⟨rfl,I.turned (fun b o hb e=>kk b o (by simpa using hb) e) f0 f1 f3 f4 f5⟩
 self:=fun A i s Q E st h=>sf A i s Q E st.1 h
def Dz (tl:TE):TI:=fun σ H R=>tl σ H fun v H1=>∃ x,v = .str x/\R (BU x) H1
theorem Ja {X:Cx}{l:aS}{tl:TE}(hl:PE X l tl):PI X tg l (Dz tl):=by
 intro pins s σ H R I h
 refine thn (hl pins s σ H _ I h) fun v s1 gh=>?_
 obtain⟨y,H1,I1,r1,q1⟩:=gh
 obtain⟨x,rfl,q⟩:=q1
 obtain⟨t,rfl⟩:=r1
 have fin : ∀ (o:bG) (ty:String),Turn X.prog X.w X.K tg (BU x) [s1.heap.objs.size] s1.heap.objs.size (fun i h=>h.IsStrIter s1.heap.objs.size ty x t i/\i≤x.cps.size)->(s1.heap.push o).IsStrIter s1.heap.objs.size ty x t 0 ->
   PIE X pins σ tg R (.ref s1.heap.objs.size) { s1 with heap:=s1.heap.push o }:=fun o ty T st=>by
  refine⟨s1.heap.objs.size,[s1.heap.objs.size],_,_,H1,rfl,I1.kept (t':=s1.toks) fun b o e=>cC _ e,T,⟨st,fG _⟩,fun b hb=>?_,q⟩
  have e:b=s1.heap.objs.size:=by simpa using hb
  subst e
  exact I1.fpOk (bI _) (I1.hok.fresh (bI _))
 cases ha:x.cps.all (· < 128)
 ·exact wpAny_pyIter_wide ha (fin _ "str_iterator" (UW (fun A' hA=>Walks.strWide hA _ x t) (fun A i s Q E st h=>wpAny_pyIter_striter_wide st h) (by decide)) ⟨_,dQ _ rfl,rfl,rfl⟩)
 ·exact wpAny_pyIter_ascii ha (fin _ "str_ascii_iterator" (UW (fun A' hA=>Walks.strAscii hA _ x t) (fun A i s Q E st h=>wpAny_pyIter_striter_ascii st h) (by decide)) ⟨_,dQ _ rfl,rfl,rfl⟩)
def allB (xs:List V):Bool:=xs.all fun v=>decide (v = .bl true)
theorem Og (hc:X.calm=true):Aek X (.builtin "all") (fun xs H Q=>∃ p ys,xs=[.ref p]/\SqL X.K H p ys/\(∀ y∈ys,∃ b,y = .bl b)/\Q (.bl (allB ys)) H):=by
 intro pins s σ H xs us Q I r h
 obtain⟨p,ys,rfl,hs,hb,q⟩:=h
 obtain⟨u,rfl,ru⟩:=vals1 r
 cases ru
 obtain⟨its,rv,pl,hz⟩:=I.list hs
 have hl:s.heap.IsList p its.toArray:=pl.isList
 have hlt:p<s.heap.objs.size:=by obtain⟨o,n,e,_⟩:=pl; exact cA e
 have hh:X.A.handled=none:=I.ok.hd hc
 have len:=rv.length
 refine call_all_walk (FN hl ⟨s.heap.objs.size,_,_,_,_,_,fun i=>decide (ys[i]?=some (.bl true)),rfl,Walks.list (A:=X.A.in1) hh s.heap.objs.size p (dX hlt) its.toArray,
  ⟨⟨_,dQ _ rfl,rfl,rfl⟩,hl.at fun o e=>cC _ e⟩,?_,?_⟩)
 ·intro i v s' Q' E' hv hq
  have hv':its[i]?=some v:=by simpa using hv
  have hi:i<ys.length:=by rw[len]; exact(dD.mp hv').1
  obtain⟨b,hy⟩:=hb ys[i] (qG hi)
  have hy':ys[i]?=some (.bl b):=by rw[jX hi,hy]
  obtain⟨u',h1,h2⟩:=rv.get hy'
  rw[hv'] at h1; cases h1
  cases h2
  refine MW ?_
  have:decide (ys[i]?=some (V.bl true))=b:=by rw[hy']; cases b <;> simp
  have hq:Q' (decide (ys[i]?=some (V.bl true))) s':=hq
  rw[this] at hq
  exact hq
 ·intro h' tk hk
  have e:((cF its.toArray.size).all fun i=>decide (ys[i]?=some (V.bl true)))=allB ys:=by
   have hn:its.toArray.size=ys.length:=by simp[len]
   rw[hn]
   unfold allB
   rw[pA]
   simp only[fH,qE,decide_eq_true_eq]
   constructor
   ·intro h v hv
    obtain⟨i,hi,rfl⟩:=xR hv
    have:=h i hi
    rw[jX hi] at this
    exact eY this
   ·intro h i hi
    rw[jX hi,h _ (qG hi)]
  rw[e]
  refine⟨.bl (allB ys),H,?_,rfl,q⟩
  exact I.kept fun b o eb=>hk b o (by simp; exact dX (cA eb)) (cC _ eb)
structure Def (P:cB)(w:bN)(K:aK)(mg:aC->Option aE)(base:aY)(x:aC)(k:Nat)(ps:List aC)(sp:Sp):Prop where
 ex : ∃ f fd,FnOk P w K mg base CX0 k f fd ps sp/\mg x=some (.ref f)/\uI K (.ref f)=true/\Binds K fd ps []
section
variable {k:Nat}{t:TA}
theorem Hm (D:Def X.prog X.w X.K X.mg X.base x k ps sp)(hr:Room k X.A)(hg:Gl X x)(ha:PA X (e::es) t)(hdb:(x == ("__debug__" : aC))=false:=by decide)(he:bK (e::es) X.env=(false,bM e X.env)::bK es X.env:=by rfl)
  (hpl:(eW pos (bK es X.env)).any (·.1)=false:=by rfl):PE X (.Call (.Name x p) (e::es) [] pos) (PV sp [] E0 t):=by
 obtain⟨f,fd,F,hm,hk,hb⟩:=D.ex
 exact Mv F hr hg hm hk hb .nil Fi ha hdb he hpl
end
def HF (a b:String):Option Bool:=if (oT a == oT b)=true then some true else if PySem.W.kitMeta b=true then(fastBuiltinMro a).map (·.contains (.type b)) else none
theorem Ama{a b:String}:Bm K (.type a) (.type b)=HF a b:=rfl
def kinds:List String:=["NoneType","bool","int","str","list","tuple","dict"]
def isK (t T:String):Bool:=t == T||(t == "bool" && T == "int")
theorem Wm:(kinds.all fun t=>["int","bool","str","list","tuple","dict"].all fun T=>decide (HF t T=some (isK t T)))=true:=by decide +kernel
theorem Ls {t:String}(ht:t∈kinds)(hT:T∈["int","bool","str","list","tuple","dict"]):HF t T=some (isK t T):=by
 have h:=fH.mp Wm t ht
 have h:=fH.mp h T hT
 exact of_decide_eq_true h
def Kd (K:aK)(H:Hp)(x:V)(t:String):Prop:=TyOf K H x (.type t)/\t∈kinds
theorem Kd.int{x:V}(h:Kd K H x "int") : ∃ i,x = .int i:=by
 obtain⟨h,_⟩:=h
 generalize e:oT "int" = t at h
 cases h <;> first | exact⟨_,rfl⟩ | exact absurd (Value.type.inj e) (by decide) | cases e
theorem Kd.str{x:V}(h:Kd K H x "str") : ∃ i,x = .str i:=by
 obtain⟨h,_⟩:=h
 generalize e:oT "str" = t at h
 cases h <;> first | exact⟨_,rfl⟩ | exact absurd (Value.type.inj e) (by decide) | cases e
theorem Ey(hg:Gl X x)(hm:X.mg x=none)(hv:nO x=some (.type T))(hn:x ≠ "__name__":=by decide)(hd:(x == ("__debug__" : aC))=false:=by decide):PE X (.Name x pos) (tC (.ty T)):=
 Ky hg hm hv rfl hn hd
theorem boot_isinstance:nO "isinstance" = some (.builtin "isinstance"):=by decide +kernel
theorem boot_all:nO "all" = some (.builtin "all"):=by decide +kernel
theorem bits_le {i:Int}(h:i.natAbs<2 ^ n):mT i≤n:=by
 unfold mT
 split
 ·exact fG _
 ·rename_i hne
  have h0:i.natAbs≠0:=by
   intro z; apply hne; simp[Int.natAbs_eq_zero.mp z]
  have:i.natAbs.log2<n:=(Nat.log2_lt h0).mpr h
  omega
theorem Ll:OpR X (kK .Mult) (rI (fun i j=>i.natAbs<2 ^ 1000/\j.natAbs<2 ^ 1000) fun i j=>.int (i*j)):=opI fun i j _ _ _ _ _ hc q=>
 mul_int q (Yw (bits_le hc.1) (bits_le hc.2) (by decide))
theorem eK{k:Nat}(hr:Room k A):A.units+100<cLine:=by
 have:=hr.un
 omega
theorem LP : ∀ {xs:List V} {us:List aE},xs.length=us.length->(∀ (j:Nat) x u,xs[j]?=some x->us[j]?=some u->RelV x u)->Vals xs us
 | [],[],_,_=>.nil
 | [],_::_,h,_=>by simp at h
 | _::_,[],h,_=>by simp at h
 | x::xs,u::us,h,r=>.cons (r 0 x u rfl rfl) (LP (by simpa using h) fun j y w h1 h2=>r (j+1) y w (by simpa using h1) (by simpa using h2))
def qM (c:Nat):V:=.str ⟨#[c]⟩
theorem Pv (hc:X.calm=true):Aek X (.type "list") (fun xs H Q=>∃ z:aC,xs=[.str z]/\z.length≤sizeLine /\ ∀ l,H l=none->Q (.ref l) (upd H l (.lst (z.cps.toList.map qM)))):=by
 intro pins s σ H xs us Q I r h
 obtain⟨z,rfl,hz,q⟩:=h
 obtain⟨u,rfl,t,rfl⟩:=vals1 r
 refine call_list_str (I.ok.hd hc) z t (fun h' tk acc' c' hk hS hacc=>?_) hz
 have hv:Vals (z.cps.toList.map qM) acc'.toList:=by
  refine LP (by simp[hacc.1]) fun j x u h1 h2=>?_
  obtain⟨c,t',hc1,rfl⟩:=hacc.2 j u (by simpa using h2)
  have:(z.cps.toList.map qM)[j]?=some (qM c):=by simp[hc1]
  rw[this] at h1
  cases h1
  exact⟨t',rfl⟩
 exact⟨.ref s.heap.objs.size,_,I.laid (o:=.lst (z.cps.toList.map qM)) hk (bI _) (show Adc X.prog X.w _ h' _ (.lst (z.cps.toList.map qM)) from⟨by rw[cZ,BR]; exact hz,acc'.toList,c',hv,by simpa using hS⟩),rfl,q _ I.fresh⟩
def ItD (K:aK)(B:Hp)(J:It)(ds:List aA):Prop:=∀ (i:Nat) (H2:Hp),Ext B H2 ->
 (∀ d,ds[i]?=some d->J.go i H2 /\ ∀ x H3,J.yld i H2 x H3->Ext H2 H3 /\ ∀ P2,Hid P2 H2->Ext B (hid H2 P2)->Abq K (hid H3 P2) d x)/\(ds.length=i->J.stop i H2)
def tI (K:aK)(f:AF):TI:=fun σ H R=>∃ P ρ ds,Hid P H/\Ana K (hid H P) ρ σ/\f ρ=some ds /\ ∀ J H',Ext H H'->ItD K (hid H' P) J ds->R J H'
def tI0 (K:aK)(f:AF):TI:=fun σ H R=>∃ P ρ ds,Hid P H/\Ana K (hid H P) ρ σ/\f ρ=some ds /\ ∀ J H',Ext H H'->ItD K (fun _=>none) J ds->R J H'
abbrev DI (X:Cx)(tg e:aS)(f:AF):Prop:=PI X tg e (tI X.K f)
abbrev DI0 (X:Cx)(tg e:aS)(f:AF):Prop:=PI X tg e (tI0 X.K f)
def itemsOf:aA->Option (List aA)
 | .list ds=>some ds
 | .tuple ds=>some ds
 | .str x=>some (x.cps.toList.map fun c=>.str ⟨#[c]⟩)
 | _=>none
def iIt (f:EF):AF:=fun ρ=>(f ρ).bind itemsOf
section
variable {a:aS}
theorem PI.imp {t t':TI}(h:PI X tg e t)(w : ∀ σ H R,t' σ H R->t σ H R):PI X tg e t':=fun pins s σ H R I q=>h pins s σ H R I (w _ _ _ q)
theorem PI.or {t t':TI}(h:PI X tg e t)(h':PI X tg e t'):PI X tg e (fun σ H R=>t σ H R \/ t' σ H R):=fun pins s σ H R I q=>q.elim (h pins s σ H R I) (h' pins s σ H R I)
theorem Vi{a:aD}(h:SqL K B a xs)(r:Aas K B ds xs):ItD K B (GR K a) ds:=fun i H2 x2=>by
 have h2:SqL K H2 a xs:=x2.sqL h
 refine⟨fun d hd=>?_,fun e=>⟨xs,h2,by rw[r.length]; omega⟩⟩
 obtain⟨v,h3,h4⟩:=r.get hd
 refine⟨⟨xs,v,h2,h3⟩,?_⟩
 rintro x H3 ⟨rfl,hx⟩
 have:some v=some x:=h3.symm.trans (hx xs h2)
 cases this
 exact⟨Ext.refl,fun P2 _ xb=>h4.ext xb⟩
theorem Nn{a:aD}(h:B a=some (.tup xs))(r:Aas K B ds xs):ItD K B (GP K a) ds:=fun i H2 x2=>by
 have h2:SqT K H2 a xs:=SqT.of (x2 _ _ h)
 refine⟨fun d hd=>?_,fun e=>⟨xs,h2,by rw[r.length]; omega⟩⟩
 obtain⟨v,h3,h4⟩:=r.get hd
 refine⟨⟨xs,v,h2,h3⟩,?_⟩
 rintro x H3 ⟨rfl,hx⟩
 have:some v=some x:=h3.symm.trans (hx xs h2)
 cases this
 exact⟨Ext.refl,fun P2 _ xb=>h4.ext xb⟩
theorem JG {z:aC}{c:Nat}(h:cQ (.str z)=true)(hc:z.cps.toList[i]?=some c):cQ (.str ⟨#[c]⟩)=true:=by
 have hz : ∀ d∈z.cps,d<0x110000:=by
  have h':z.cps.all (· < 0x110000)=true:=by simpa only[cQ,NL] using h
  intro d hd
  exact of_decide_eq_true (Array.all_eq_true'.mp h' d hd)
 have:=hz c (by simpa using fL hc)
 simp[cQ,NL,this]
theorem Ko{z:aC}(hl:cQ (.str z)=true):ItD K B (BU z) (z.cps.toList.map fun c=>.str ⟨#[c]⟩):=fun i H2 x2=>by
 refine⟨fun d hd=>?_,fun e=>?_⟩
 ·rw[eQ] at hd
  cases hc:z.cps.toList[i]? with
  | none=>rw[hc] at hd; simp at hd
  | some c=>
   rw[hc] at hd
   have hd:cM ⟨#[c]⟩=d:=by simpa using hd
   subst hd
   have hlt:i<z.cps.size:=by simpa using(dD.mp hc).1
   refine⟨hlt,?_⟩
   rintro x H3 ⟨rfl,c',hc',rfl⟩
   have:z.cps.toList[i]?=some c':=by simpa using hc'
   rw[hc] at this
   cases this
   exact⟨Ext.refl,fun P2 _ _=>Aa7.mpr ⟨rfl,JG hl hc⟩⟩
 ·have:z.cps.size=i:=by simpa using e
  exact Nat.le_of_eq this
theorem Nt{lo:Int}:ItD K B (BV lo n) ((cF n).map fun(k:Nat)=>aU (lo+k)):=fun i H2 x2=>by
 refine⟨fun d hd=>?_,fun e=>?_⟩
 ·have hlt:i<n:=by
   have:=(dD.mp hd).1
   simpa using this
  have hd':aU (lo+i)=d:=by
   rw[eQ,GA hlt] at hd
   simpa using hd
  subst hd'
  refine⟨hlt,?_⟩
  rintro x H3 ⟨rfl,rfl⟩
  exact⟨Ext.refl,fun P2 _ _=>Aan.mpr rfl⟩
 ·have:n=i:=by simpa using e
  exact Nat.le_of_eq this
theorem eU {f:EF}(h:DE X e f):DI X tg e (iIt f):=PI.imp (PI.or (Nd h) (PI.or (Gw h) (Ja h))) fun σ H R gh=>by
 obtain⟨P,ρ,ds,hP,rs,ef,k⟩:=gh
 obtain⟨d,e1,ef⟩:=XBs ef
 cases d with
 | list ds'=>
  have:ds'=ds:=by simpa [itemsOf] using ef
  subst this
  refine .inl ⟨P,ρ,_,hP,rs,e1,dU fun v H1 x1 r1=>?_⟩
  obtain⟨a,xs,rfl,hr,rr⟩:=Abk.mp r1
  exact⟨a,rfl,⟨xs,Aau.sqL hr⟩,k _ H1 x1 (Vi hr rr)⟩
 | tuple ds'=>
  have:ds'=ds:=by simpa [itemsOf] using ef
  subst this
  refine .inr (.inl ⟨P,ρ,_,hP,rs,e1,dU fun v H1 x1 r1=>?_⟩)
  obtain⟨a,xs,rfl,hr,rr⟩:=Aar.mp r1
  exact⟨a,rfl,⟨xs,SqT.of (Aau _ _ hr)⟩,k _ H1 x1 (Nn hr rr)⟩
 | str z=>
  have:z.cps.toList.map (fun c=>cM ⟨#[c]⟩)=ds:=by simpa [itemsOf] using ef
  subst this
  refine .inr (.inr ⟨P,ρ,_,hP,rs,e1,dU fun v H1 x1 r1=>?_⟩)
  exact⟨z,(Aa7.mp r1).1,k _ H1 x1 (Ko (Aa7.mp r1).2)⟩
 | _=>simp[itemsOf] at ef
def GU (lo hi:Int):Option (List aA):=if -(2 ^ 62)≤lo/\lo<2 ^ 62 /\ -(2 ^ 62)≤hi/\hi<2 ^ 62 then some ((cF (hi - lo).toNat).map fun(k:Nat)=>aU (lo+k)) else none
def iR1 (fa:AF):AF:=fun ρ=>(fa ρ).bind fun ds=>match ds with
 | [.int j]=>GU 0 j
 | _=>none
theorem wI {fa:AF}(hg:Gl X "range")(hm:X.mg "range" = none)(ha:DA X [a] fa)(hs:bK [a] X.env=[(false,bM a X.env)]:=by rfl):DI0 X tg (.Call (.Name "range" p) [a] [] pos) (iR1 fa):=PI.imp (Ws hg hm ha hs) fun σ H R gh=>by
 obtain⟨P,ρ,ds,hP,rs,ef,k⟩:=gh
 obtain⟨as,e1,ef⟩:=XBs ef
 refine⟨P,ρ,as,hP,rs,e1,fun vs H1 x1 r1=>?_⟩
 split at ef
 ·rename_i j
  obtain⟨hb,rfl⟩:=cN ef
  obtain⟨v,t,rfl,h1,h2⟩:=Aah.mp r1
  obtain rfl:=Aao.mp h2
  obtain rfl:=Aan.mp h1
  have e0:(j - 0).toNat=j.toNat:=by simp
  refine⟨j,rfl,hb.2.2.1,hb.2.2.2,k _ H1 x1 ?_⟩
  rw[e0]
  exact Nt
 ·cases ef
theorem Ie {f:AF}(h:DI0 X tg e f):DI X tg e f:=PI.imp h fun σ H R ⟨P,ρ,ds,hP,rs,ef,k⟩=>⟨P,ρ,ds,hP,rs,ef,fun J H' x it=>k J H' x fun i H2 x2=>by
 obtain⟨h1,h2⟩:=it i H2 (fun _ _ e=>by cases e)
 exact⟨fun d hd=>⟨(h1 d hd).1,fun v H3 y=>⟨((h1 d hd).2 v H3 y).1,fun P2 hp _=>((h1 d hd).2 v H3 y).2 P2 hp fun _ _ e=>by cases e⟩⟩,h2⟩⟩
def tI' (K:aK)(H0:Hp)(P0:aD->Prop)(m:Md)(f:AF):TI:=fun σ H R=>∃ B0 ρ fp ds,Sta K H0 P0 B0 ρ σ H fp/\aV m f ρ=some ds /\ ∀ J B1 H',Sta K H0 P0 B1 ρ σ H' fp->Ext B0 B1->ItD K B1 J ds->R J H'
theorem Sta.rebase{B1:Hp}{ρ:aX}(S:Sta K H0 P0 B0 ρ σ H fp)(b:Ext B1 (L2.hid H (Hd P0 fp))):Sta K H0 P0 B1 ρ σ H fp:=⟨S.len,S.nd,S.dj,S.own,S.ext,S.hd,b,S.slot⟩
theorem evI {f:AF}(h:DI X tg e f):PI X tg e (tI' X.K H0 P0 .s f):=PI.imp h fun σ H R ⟨B0,ρ,fp,ds,S,ef,k⟩=>
 ⟨Hd P0 fp,vS ρ,ds,S.hid,S.viewS,ef,fun J H' x it=>k J _ H' ((S.grow x).rebase Ext.refl) (S.grow x).base it⟩
theorem Dn {f:AF}(m:Md)(h:DI0 X tg e f):PI X tg e (tI' X.K H0 P0 m f):=PI.imp h fun σ H R gh=>by
 obtain⟨B0,ρ,fp,ds,S,ef,k⟩:=gh
 have up : ∀ {J:It} {B:Hp},ItD X.K (fun _=>none) J ds->ItD X.K B J ds:=fun {J B} it i H2 x2=>by
  obtain⟨h1,h2⟩:=it i H2 (fun _ _ e=>by cases e)
  exact⟨fun d hd=>⟨(h1 d hd).1,fun v H3 y=>⟨((h1 d hd).2 v H3 y).1,fun P2 hp _=>((h1 d hd).2 v H3 y).2 P2 hp fun _ _ e=>by cases e⟩⟩,h2⟩
 cases m with
 | s=>exact⟨Hd P0 fp,vS ρ,ds,S.hid,S.viewS,ef,fun J H' x it=>k J _ H' (S.grow x) Ext.refl (up it)⟩
 | a=>exact⟨P0,vA ρ,ds,S.hd.ext S.ext,S.viewA,ef,fun J H' x it=>k J _ H' (S.grow x) Ext.refl (up it)⟩
end
def tG (K:aK)(H0:Hp)(P0:aD->Prop)(T:aA->aX->Option aX):TG:=fun v σ H Q=>∃ B0 ρ fp d ρ',Sta K H0 P0 B0 ρ σ H fp/\Abq K (hid H (Hd P0 fp)) d v/\T d ρ=some ρ' /\ ∀ σ' fp',Sta K H0 P0 B0 ρ' σ' H fp'->Q σ' H
abbrev DG (X:Cx)(H0:Hp)(P0:aD->Prop)(tg:aS)(T:aA->aX->Option aX):Prop:=PG X tg (tG X.K H0 P0 T)
theorem PG.imp{t t':TG}(h:PG X tg t)(w : ∀ v σ H Q,t' v σ H Q->t v σ H Q):PG X tg t':=fun pins s σ H v u Q I r q=>h pins s σ H v u Q I r (w _ _ _ _ q)
theorem Sta.set0{ρ:aX}(S:Sta K H0 P0 B0 ρ σ H fp)(r:Abq K (L2.hid H (Hd P0 fp)) d v)(hi:i<ρ.length) : ∃ fp',Sta K H0 P0 B0 (ρ.set i (some (0,d))) (σ.set i (some v)) H fp':=by
 have hsub : ∀ a,Hd P0 (fun j=>if j=ρ.length then [] else fp j) a->Hd P0 fp a:=fun a h=>by
  rcases h with h | ⟨j,h⟩
  ·exact .inl h
  ·by_cases hj:j=ρ.length
   ·simp only[hj,if_true] at h; simp at h
   ·simp only[hj,if_false] at h; exact .inr ⟨j,h⟩
 have S2:Sta K H0 P0 B0 ρ σ H (fun j=>if j=ρ.length then [] else fp j):=by
  refine⟨S.len,fun j=>?_,fun j k a h1 h2=>?_,fun j a h1=>?_,S.ext,S.hd,S.base.trans (iQ hsub),fun j n d e=>?_⟩
  ·by_cases hj:j=ρ.length
   ·simp only[hj,if_true]; exact .nil
   ·simp only[hj,if_false]; exact S.nd j
  ·by_cases hj:j=ρ.length
   ·simp only[hj,if_true] at h1; simp at h1
   ·by_cases hk:k=ρ.length
    ·simp only[hk,if_true] at h2; simp at h2
    ·simp only[hj,if_false] at h1; simp only[hk,if_false] at h2; exact S.dj j k a h1 h2
  ·by_cases hj:j=ρ.length
   ·simp only[hj,if_true] at h1; simp at h1
   ·simp only[hj,if_false] at h1; exact S.own j a h1
  ·have hlt:j<ρ.length:=(dD.mp e).1
   have hj:j≠ρ.length:=by omega
   obtain⟨v',h1,h2⟩:=S.slot j n d e
   refine⟨v',h1,?_⟩
   simp only[hj,if_false]
   exact h2.keep (iQ hsub) fun a m=>rfl
 refine Tmp.set (n:=0) ⟨_,S2,?_⟩ hi
 simp only[if_true]
 exact⟨rfl,r.ext (iQ hsub)⟩
def gNm (i:Nat):aA->aX->Option aX:=fun d ρ=>if i<ρ.length then some (ρ.set i (some (0,d))) else none
theorem jR(hN:X.N.Nodup)(hi:X.N[i]?=some x)(hx:jY X.env.scope x)(hf:X.fn x=true \/ X.env.scope.names.lookup x=some .local:=by first | exact .inl rfl | exact .inr rfl | assumption):DG X H0 P0 (.Name x pos) (gNm i):=
 PG.imp (vV hN hi hx hf) fun v σ H Q gh=>by
  obtain⟨B0,ρ,fp,d,ρ',S,r,ef,k⟩:=gh
  obtain⟨hl,rfl⟩:=cN ef
  obtain⟨fp',S'⟩:=S.set0 r hl
  exact k _ fp' S'
def nZ (i j:Nat):aA->aX->Option aX:=fun d ρ=>match d with
 | .tuple [a,b]=>(gNm i a ρ).bind fun ρ'=>gNm j b ρ'
 | _=>none
theorem qX{p1:bR}{k}(hc:X.calm=true)(hN:X.N.Nodup)(hi:X.N[i]?=some x)(hj:X.N[j]?=some y)(hx:jY X.env.scope x)(hy:jY X.env.scope y)
  (hf:X.fn x=true \/ X.env.scope.names.lookup x=some .local:=by first | exact .inl rfl | exact .inr rfl | assumption) (hf2:X.fn y=true \/ X.env.scope.names.lookup y=some .local:=by first | exact .inl rfl | exact .inr rfl | assumption)
  (hn:(iU [.Name x p1,.Name y p2] X.env).length=2:=by rfl) (hst:(iU [.Name x p1,.Name y p2] X.env).findIdx? (·.1)=none:=by rfl)
  (h1:(iU [.Name x p1,.Name y p2] X.env).map (·.2)=kM (.Name x p1) X.env::(iU [.Name y p2] X.env).map (·.2):=by rfl) (h2:(iU [.Name y p2] X.env).map (·.2)=kM (.Name y p2) X.env::(iU [] X.env).map (·.2):=by rfl):DG X H0 P0 (.Tuple [.Name x p1,.Name y p2] k pos) (nZ i j):=
 PG.imp (QO hc (DP (vV hN hi hx hf) (DP (vV hN hj hy hf2) ZO h2) h1) hn hst) fun v σ H Q gh=>by
  obtain⟨B0,ρ,fp,d,ρ',S,r,ef,k⟩:=gh
  unfold nZ at ef
  split at ef
  ·rename_i a b
   obtain⟨ρ1,e1,e2⟩:=XBs ef
   obtain⟨l1,rfl⟩:=cN e1
   obtain⟨l2,rfl⟩:=cN e2
   obtain⟨p,xs,rfl,hp,rr⟩:=Aar.mp r
   obtain⟨v1,t1,rfl,r1,rr⟩:=Aah.mp rr
   obtain⟨v2,t2,rfl,r2,rr⟩:=Aah.mp rr
   obtain rfl:=Aao.mp rr
   refine⟨p,_,rfl,SqT.of (Aau _ _ hp),rfl,v1,_,rfl,v2,_,rfl,rfl,?_⟩
   have Sb:=S.rebase (B1:=hid H (Hd P0 fp)) Ext.refl
   obtain⟨fp1,S1⟩:=Sb.set0 r1 l1
   obtain⟨fp2,S2⟩:=S1.set0 (r2.ext S1.base) l2
   exact k _ fp2 (S2.rebase (S.base.trans S2.base))
  ·cases ef
def jI (F:SF)(T:aA->aX->Option aX):List aA->SF
 | [],ρ=>some (.nx ρ)
 | d::r,ρ=>(T d ρ).bind fun ρ1=>(F ρ1).bind fun o=>match o with
  | .nx ρ'=>jI F T r ρ'
  | .ct ρ'=>jI F T r ρ'
  | .bk ρ'=>some (.nx ρ')
  | .rt d=>some (.rt d)
def eE (m:Md)(fi:AF)(T:aA->aX->Option aX)(F:SF):SF:=fun ρ=>(aV m fi ρ).bind fun ds=>jI F T ds ρ
section
variable {body:List bZ}{F:SF}{T:aA->aX->Option aX}{fi:AF}{m:Md}
theorem SO (hp:BB (aW X.prog X.w) X.A X.env X.xe)(hc:X.calm=true)(hi:PI X tg iter (tI' X.K H0 P0 m fi))(hg:DG X H0 P0 tg T)(hb:DSs X H0 P0 n0 body F)
  (hs : ∀ x,uE iter X.env x=pure x:=by intro _; rfl):DS X H0 P0 n0 (.For tg iter body [] pos) (eE m fi T F):=PS.imp (Iy hp hc hi hg hb hs) fun D σ H gh=>by
 obtain⟨B0,ρ,fp,o,S,ef,k⟩:=gh
 obtain⟨ds,e1,ef⟩:=XBs ef
 refine⟨B0,ρ,fp,ds,S,e1,fun J B1 H' S1 xb it=>?_⟩
 refine⟨fun i m σ H=>m=ds.length - i/\i≤ds.length /\ ∃ ρ fp,Sta X.K H0 P0 B1 ρ σ H fp/\jI F T (ds.drop i) ρ=some o,⟨ds.length,by simp,fG _,ρ,fp,S1,by simpa using ef⟩,?_⟩
 rintro i m σ2 H2 ⟨rfl,hi,ρ2,fp2,S2,e2⟩
 have x2:Ext B1 H2:=S2.base.trans Aau
 obtain⟨go,st⟩:=it i H2 x2
 by_cases hlt:i<ds.length
 ·have hd:ds[i]?=some ds[i]:=jX hlt
  rw[Zc hlt] at e2
  obtain⟨ρ3,e3,e2⟩:=XBs e2
  obtain⟨o3,e4,e2⟩:=XBs e2
  obtain⟨g1,g2⟩:=go _ hd
  refine .inr ⟨g1,fun σ' H'=>i+1≤ds.length /\ ∃ ρ fp,Sta X.K H0 P0 B1 ρ σ' H' fp/\jI F T (ds.drop (i+1)) ρ=some o,fun σ' H' ⟨h1,h2⟩=>⟨ds.length - (i+1),by omega,rfl,h1,h2⟩,fun x H3 y=>?_⟩
  obtain⟨x3,r3⟩:=g2 x H3 y
  refine⟨B1,ρ2,fp2,_,ρ3,S2.grow x3,r3 _ S2.hid S2.base,e3,fun σ4 fp4 S4=>⟨B1,ρ3,fp4,o3,S4,e4,?_⟩⟩
  cases o3 with
  | nx ρ5=>exact fun σ5 H5 fp5 S5=>⟨hlt,ρ5,fp5,S5,e2⟩
  | ct ρ5=>exact fun σ5 H5 fp5 S5=>⟨hlt,ρ5,fp5,S5,e2⟩
  | bk ρ5=>
   cases e2
   exact fun σ5 H5 fp5 S5=>k σ5 H5 fp5 (S5.rebase (xb.trans S5.base))
  | rt d=>
   cases e2
   exact k
 ·have e:i=ds.length:=by omega
  subst e
  rw[List.drop_length] at e2
  cases e2
  exact .inl ⟨st rfl,k σ2 H2 fp2 (S2.rebase (xb.trans S2.base))⟩
theorem hX (hp:BB (aW X.prog X.w) X.A X.env X.xe)(hc:X.calm=true)(hi:DI X tg iter fi)(hg:DG X H0 P0 tg T)(hb:DSs X H0 P0 n0 body F)
  (hs : ∀ x,uE iter X.env x=pure x:=by intro _; rfl):DS X H0 P0 n0 (.For tg iter body [] pos) (eE .s fi T F):=SO hp hc (evI hi) hg hb hs
theorem yX (m:Md)(hp:BB (aW X.prog X.w) X.A X.env X.xe)(hc:X.calm=true)(hi:DI0 X tg iter fi)(hg:DG X H0 P0 tg T)(hb:DSs X H0 P0 n0 body F)
  (hs : ∀ x,uE iter X.env x=pure x:=by intro _; rfl):DS X H0 P0 n0 (.For tg iter body [] pos) (eE m fi T F):=SO hp hc (Dn m hi) hg hb hs
end
def whD (m:Md)(t:BF)(F:SF):Nat->SF
 | 0,_=>none
 | n+1,ρ=>(bV m t ρ).bind fun b=>if b=true then(F ρ).bind fun o=>match o with
   | .nx ρ'=>whD m t F n ρ'
   | .ct ρ'=>whD m t F n ρ'
   | .bk ρ'=>some (.nx ρ')
   | .rt d=>some (.rt d)
  else some (.nx ρ)
section
variable {body:List bZ}{F:SF}{t:BF}
theorem Um (m:Md)(fuel:Nat)(hp:BB (aW X.prog X.w) X.A X.env X.xe)(hc:DT X c t)(hb:DSs X H0 P0 n0 body F):DS X H0 P0 n0 (.While c body [] pos) (whD m t F fuel):=
 PS.imp (Ul hp (evB (H0:=H0) (P0:=P0) m hc) hb) fun D σ H gh=>by
  obtain⟨B0,ρ,fp,o,S,ef,k⟩:=gh
  refine⟨fun n σ H=>∃ ρ fp,Sta X.K H0 P0 B0 ρ σ H fp/\whD m t F n ρ=some o,⟨fuel,ρ,fp,S,ef⟩,?_⟩
  rintro n σ1 H1 ⟨ρ1,fp1,S1,e1⟩
  cases n with
  | zero=>cases e1
  | succ n=>
   obtain⟨b,e2,e1⟩:=XBs e1
   refine⟨B0,ρ1,fp1,b,S1,e2,fun H2 S2=>?_⟩
   cases b with
   | false=>
    have:some (Out.nx ρ1)=some o:=by simpa using e1
    cases this
    exact nK (k σ1 H2 fp1 S2)
   | true=>
    rw[if_pos rfl] at e1
    obtain⟨o3,e4,e1⟩:=XBs e1
    refine mU ⟨fun σ' H'=>∃ ρ fp,Sta X.K H0 P0 B0 ρ σ' H' fp/\whD m t F n ρ=some o,fun σ' H' h=>⟨n,Nat.lt_succ_self n,h⟩,B0,ρ1,fp1,o3,S2,e4,?_⟩
    cases o3 with
    | nx ρ5=>exact fun σ5 H5 fp5 S5=>⟨ρ5,fp5,S5,e1⟩
    | ct ρ5=>exact fun σ5 H5 fp5 S5=>⟨ρ5,fp5,S5,e1⟩
    | bk ρ5=>cases e1; exact k
    | rt d=>cases e1; exact k
end
def lcD (T:aA->List (Option aA)->Option (List (Option aA)))(t:BF)(f:EF)(ρ:List (Option aA)):List aA->Option (List aA)
 | []=>some []
 | d::r=>(T d ρ).bind fun ρ1=>(t ρ1).bind fun c=>if c=true then(f ρ1).bind fun y=>(lcD T t f ρ r).bind fun ys=>some (y::ys) else lcD T t f ρ r
def lD (cap:List (Option Nat))(ρ:List (Option aA)):List (Option aA):=cap.map fun o=>o.bind fun j=>(ρ[j]?).join
def eLC (cap:List (Option Nat))(fi:AF)(T:aA->List (Option aA)->Option (List (Option aA)))(t:BF)(f:EF):EF:=fun ρ=>(fi ρ).bind fun ds=>(lcD T t f (lD cap ρ) ds).bind fun ys=>if ds.length≤sizeLine then some (.list ys) else none
def tGB (K:aK)(T:aA->List (Option aA)->Option (List (Option aA))):TG:=fun v σ H Q=>∃ P ρ d ρ',Hid P H/\Ana K (hid H P) ρ σ/\Abq K (hid H P) d v/\T d ρ=some ρ' /\ ∀ σ',Ana K (hid H P) ρ' σ'->Q σ' H
def TOk (T:aA->List (Option aA)->Option (List (Option aA))):Prop:=∀ d ρ ρ',T d ρ=some ρ' -> ∀ (i:Nat) d',ρ[i]?=some (some d')->ρ'[i]?=some (some d')
def dM:BF:=fun _=>some true
def gB (j:Nat):aA->List (Option aA)->Option (List (Option aA)):=fun d ρ=>match ρ[j]? with
 | some none=>some (ρ.set j (some d))
 | _=>none
theorem CT{ρ':List (Option aA)}(h:gB j d ρ=some ρ'):ρ[j]?=some none/\ρ.set j (some d)=ρ':=by
 unfold gB at h
 split at h
 ·rename_i e
  exact⟨e,eY h⟩
 ·cases h
def gB2 (i j:Nat):aA->List (Option aA)->Option (List (Option aA)):=fun d ρ=>match d with
 | .tuple [a,b]=>(gB i a ρ).bind fun ρ'=>gB j b ρ'
 | _=>none
theorem hU:TOk (gB j):=fun d ρ ρ' e i d' h=>by
 obtain⟨hj,rfl⟩:=CT e
 by_cases q:j=i
 ·subst q; rw[hj] at h; cases h
 ·rw[lW q]; exact h
theorem YK:TOk (gB2 i j):=fun d ρ ρ' e k d' h=>by
 unfold gB2 at e
 split at e
 ·obtain⟨ρ1,e1,e2⟩:=XBs e
  exact hU _ _ _ e2 k d' (hU _ _ _ e1 k d' h)
 ·cases e
section
variable {fi:AF}{T:aA->List (Option aA)->Option (List (Option aA))}{t:BF}{f:EF}
theorem jQ:uN X [] (tTF X.K dM):=fun pins s σ H Q I gh=>by
 obtain⟨P,ρ,b,hP,rs,ef,k⟩:=gh
 cases ef
 exact La pins s σ H Q I (k H Ext.refl)
theorem IR (h:DT X c t):uN X [c] (tTF X.K t):=Lk h
theorem Ana.set(h:Ana K B ρ σ)(r:Abq K B d v)(hl:j<σ.length):Ana K B (ρ.set j (some d)) (σ.set j (some v)):=fun i d' e=>by
 by_cases q:j=i
 ·subst q
  have hj:j<ρ.length:=by
   have:=(dD.mp e).1
   simpa using this
  rw[nR hj] at e
  cases e
  exact⟨v,nR hl,r⟩
 ·rw[lW q] at e
  obtain⟨w,h1,h2⟩:=h i d' e
  exact⟨w,by rw[lW q]; exact h1,h2⟩
def DGB (X:Cx)(tg:aS)(T:aA->List (Option aA)->Option (List (Option aA))):Prop:=
 ∀ (pins:List (aD×bG)) (s:aJ) (σ:St) (H:Hp) (v:V) (u:aE) (Q:St->Hp->Prop),Inv X pins σ H s->RelV v u->tGB X.K T v σ H Q ->
  aN (aW X.prog X.w) X.A (kM tg X.env u) (fun _ s'=>∃ σ' H',Inv X pins σ' H' s'/\Q σ' H') X.xe s
theorem jE(hN:X.N.Nodup)(hi:X.N[j]?=some x)(hx:jY X.env.scope x)(hf:X.fn x=true \/ X.env.scope.names.lookup x=some .local:=by first | exact .inl rfl | exact .inr rfl | assumption):DGB X (.Name x pos) (gB j):=fun pins s σ H v u Q I r gh=>by
 obtain⟨P,ρ,d,ρ',hP,rs,rd,ef,k⟩:=gh
 obtain⟨hj,rfl⟩:=CT ef
 have hl:j<σ.length:=by rw[I.len]; exact(dD.mp hi).1
 exact vV hN hi hx hf pins s σ H v u Q I r (k _ (rs.set rd hl))
theorem SC{p1:bR}{kk}(hc:X.calm=true)(hN:X.N.Nodup)(hi:X.N[i]?=some x)(hj:X.N[j]?=some y)(hx:jY X.env.scope x)(hy:jY X.env.scope y)
  (hf:X.fn x=true \/ X.env.scope.names.lookup x=some .local:=by first | exact .inl rfl | exact .inr rfl | assumption) (hf2:X.fn y=true \/ X.env.scope.names.lookup y=some .local:=by first | exact .inl rfl | exact .inr rfl | assumption)
  (hn:(iU [.Name x p1,.Name y p2] X.env).length=2:=by rfl) (hst:(iU [.Name x p1,.Name y p2] X.env).findIdx? (·.1)=none:=by rfl)
  (h1:(iU [.Name x p1,.Name y p2] X.env).map (·.2)=kM (.Name x p1) X.env::(iU [.Name y p2] X.env).map (·.2):=by rfl) (h2:(iU [.Name y p2] X.env).map (·.2)=kM (.Name y p2) X.env::(iU [] X.env).map (·.2):=by rfl):DGB X (.Tuple [.Name x p1,.Name y p2] kk pos) (gB2 i j):=fun pins s σ H v u Q I r gh=>by
 obtain⟨P,ρ,d,ρ',hP,rs,rd,ef,k⟩:=gh
 unfold gB2 at ef
 split at ef
 ·rename_i a b
  obtain⟨ρ1,e1,e2⟩:=XBs ef
  obtain⟨l1,rfl⟩:=CT e1
  obtain⟨l2,rfl⟩:=CT e2
  obtain⟨p,xs,rfl,hp,rr⟩:=Aar.mp rd
  obtain⟨v1,t1,rfl,r1,rr⟩:=Aah.mp rr
  obtain⟨v2,t2,rfl,r2,rr⟩:=Aah.mp rr
  obtain rfl:=Aao.mp rr
  have hl:i<σ.length:=by rw[I.len]; exact(dD.mp hi).1
  have hl2:j<σ.length:=by rw[I.len]; exact(dD.mp hj).1
  exact QO hc (DP (vV hN hi hx hf) (DP (vV hN hj hy hf2) ZO h2) h1) hn hst pins s σ H _ u Q I r ⟨p,_,rfl,SqT.of (Aau _ _ hp),rfl,v1,_,rfl,v2,_,rfl,rfl,k _ ((rs.set r1 hl).set r2 (by simpa using hl2))⟩
 ·cases ef
theorem Tx(h:Ana K B ρ σ):Ana K B (lD cap ρ) (uU cap σ):=fun i d e=>by
 unfold lD at e
 unfold uU
 rw[eQ] at e ⊢
 cases hc:cap[i]? with
 | none=>rw[hc] at e; simp at e
 | some o=>
  rw[hc] at e
  cases o with
  | none=>simp at e
  | some j=>
   simp only[oU,bE,FT] at e ⊢
   obtain⟨v,h1,h2⟩:=h j d (VQ e)
   exact⟨v,by rw[h1]; rfl,h2⟩
theorem QH(hT:TOk T) : ∀ σ H Q,tF K 1 (eLC cap fi T t f) σ H Q->tLC cap (tI K fi) (tGB K T) (tTF K t) (tF K 0 f) σ H Q:=fun σ H Q gh=>by
 obtain⟨P,ρ,d,hP,rs,ef,k⟩:=gh
 obtain⟨ds,e1,ef⟩:=XBs ef
 obtain⟨all,e2,ef⟩:=XBs ef
 obtain⟨hz,rfl⟩:=cN ef
 refine⟨P,ρ,ds,hP,rs,e1,fun J H1 x1 it A hA=>?_⟩
 have hPA : ¬ P A:=(hP.ext x1).new hA
 have back : ∀ {H':Hp} {ys:List V},hid (upd H' A (.lst ys)) (orL P [A])=hid H' (orL P [A]):=fun {H' ys}=>by
  funext b
  unfold hid
  by_cases hb:orL P [A] b
  ·rw[if_pos hb,if_pos hb]
  ·rw[if_neg hb,if_neg hb]
   exact cP (fun z=>hb (.inr (by simp[z])))
 refine⟨fun i m ys σ' H'=>m=ds.length - i/\i≤ds.length/\H' A=some (.lst ys)/\Ext H1 H'/\Ext (hid H1 P) (hid H' (orL P [A]))/\Ana K (hid H' (orL P [A])) (lD cap ρ) σ'/\ys.length≤i /\
  ∃ done rest,Aas K (hid H' (orL P [A])) done ys/\lcD T t f (lD cap ρ) (ds.drop i)=some rest/\all=done++rest,⟨ds.length,?_⟩,?_⟩
 ·have xa:Ext (hid H1 P) (hid (upd H1 A (.lst [])) (orL P [A])):=fun b o e=>by
   obtain⟨nb,e⟩:=Acy.mp e
   have hb:b≠A:=jT e hA
   exact gJ (fun z=>z.elim nb fun m=>hb (by simpa using m)) (by rw[cP hb]; exact e)
  exact⟨by simp,fG _,eO,Ext.new hA,xa,(Tx (rs.ext (cT x1))).ext xa,fG _,[],all,Aao.mpr rfl,by simpa using e2,rfl⟩
 ·rintro i m ys σ' H' ⟨rfl,hi,hD,x2,xb,rs2,hl,done,rest,rd,e3,rfl⟩
  refine⟨hD,?_⟩
  obtain⟨go,st⟩:=it i H' (Aau.trans x2)
  have hid2:Hid (orL P [A]) H':=fun a h=>by
   rcases h with h | h
   ·exact(hP.ext (x1.trans x2)) a h
   ·have:a=A:=by simpa using h
    subst this
    exact .inl ⟨_,hD⟩
  by_cases hlt:i<ds.length
  ·have hd:ds[i]?=some ds[i]:=jX hlt
   rw[Zc hlt] at e3
   obtain⟨ρ1,e4,e3⟩:=XBs e3
   obtain⟨c,e5,e3⟩:=XBs e3
   obtain⟨g1,g2⟩:=go _ hd
   refine .inr ⟨g1,by omega,fun ys σ' H'=>i+1≤ds.length/\H' A=some (.lst ys)/\Ext H1 H'/\Ext (hid H1 P) (hid H' (orL P [A]))/\Ana K (hid H' (orL P [A])) (lD cap ρ) σ'/\ys.length≤i+1 /\
    ∃ d2 r2,Aas K (hid H' (orL P [A])) d2 ys/\lcD T t f (lD cap ρ) (ds.drop (i+1))=some r2/\done++rest=d2++r2,fun zs σ2 H2 h=>⟨ds.length - (i+1),by omega,rfl,h⟩,fun x H2 y=>?_⟩
   obtain⟨x3,r3⟩:=g2 x H2 y
   refine⟨orL P [A],lD cap ρ,_,ρ1,hid2.ext x3,rs2.ext (cT x3),r3 _ hid2 xb,e4,fun σ3 rs3=>?_⟩
   refine⟨orL P [A],ρ1,c,hid2.ext x3,rs3,e5,fun H4 x4=>?_⟩
   have rs4:Ana K (hid H2 (orL P [A])) (lD cap ρ) σ3:=fun j d' e=>rs3 j d' (hT _ _ _ e4 j d' e)
   cases c with
   | false=>
    rw[if_neg jG] at e3
    refine nK ⟨hlt,x4 _ _ (x3 _ _ hD),x2.trans (x3.trans x4),xb.trans (cT (x3.trans x4)),rs4.ext (cT x4),by omega,done,rest,rd.ext (cT (x3.trans x4)),e3,rfl⟩
   | true=>
    rw[if_pos rfl] at e3
    obtain⟨yd,e6,e3⟩:=XBs e3
    obtain⟨r2,e7,e3⟩:=XBs e3
    cases e3
    refine mU ⟨orL P [A],ρ1,yd,hid2.ext (x3.trans x4),rs3.ext (cT x4),e6,dU fun v H5 x5 r5=>⟨x5 _ _ (x4 _ _ (x3 _ _ hD)),hlt,eO,?_,?_,?_,by simp; omega,done++[yd],r2,?_,e7,by simp⟩⟩
    ·intro b o e
     rw[cP (jT e hA)]
     exact x5 _ _ (x4 _ _ (x3 _ _ (x2 _ _ e)))
    ·rw[back]; exact xb.trans (cT (x3.trans (x4.trans x5)))
    ·rw[back]; exact rs4.ext (cT (x4.trans x5))
    ·rw[back]; exact(rd.ext (cT (x3.trans (x4.trans x5)))).snoc r5
  ·have e:i=ds.length:=by omega
   subst e
   rw[List.drop_length] at e3
   cases e3
   rw[mS] at k
   refine .inl ⟨st rfl,?_⟩
   refine k (.ref A) H' [A] (x1.trans x2) (jW.mpr ⟨by simp,.nil⟩) (fun a m=>?_) ⟨A,ys,ys.map fun _=>[],rfl,hD,?_,?_⟩
   ·have:a=A:=by simpa using m
    subst this
    exact⟨x1.none hA,_,hD⟩
   ·have : ∀ l:List V,(l.map fun _=>([]:List aD)).flatten=[]:=fun l=>by
     induction l with
     | nil=>rfl
     | cons a l ih=>rw[dH,nU,ih]; rfl
    rw[this]
   ·have go : ∀ (ds:List aA) (xs:List V),Aas K (hid H' (orL P [A])) ds xs->All3 (Afn K (hid H' (orL P [A])) H' 0) ds xs (xs.map fun _=>[]):=by
     intro ds
     induction ds with
     | nil=>intro xs r; rw[Aao.mp r]; exact .nil
     | cons d ds ih=>
      intro xs r
      obtain⟨y,t,rfl,h1,h2⟩:=Aah.mp r
      exact .cons ⟨rfl,h1⟩ (ih t h2)
    exact go _ _ rd
def QK (X:Cx)(N:List aC)(sc:iV)(tg elt:aS)(ifs:List aS)(T:aA->List (Option aA)->Option (List (Option aA)))(t:BF)(f:EF):Prop:=
 ∀ (cl:List (aC×aD)) (C:aD) (s₀:aJ) (H₀:Hp) (ex:List aD),DGB (hW X N sc cl C s₀ H₀ ex) tg T/\uN (hW X N sc cl C s₀ H₀ ex) ifs (tTF X.K t)/\DE (hW X N sc cl C s₀ H₀ ex) elt f
theorem iO (hc:X.calm=true)(S:CompScope X N cap sc)(hT:TOk T)(hi:DI X tg iter fi)(hb:QK X N sc tg elt ifs T t f)(hs : ∀ x,uE iter X.env x=pure x:=by intro _; rfl) :
  DF 1 X (.ListComp elt [⟨tg,iter,ifs,0⟩] sc pos) (eLC cap fi T t f):=PE.imp (Fv hc S hi (g:=tGB X.K T) (tc:=tTF X.K t) (te:=tF X.K 0 f) hb hs) (QH hT)
theorem Wg(m:Md)(hc:X.calm=true)(hN:X.N.Nodup)(hi':X.N[i]?=some x)(hx:jY X.env.scope x)(S:CompScope X N cap sc)(hT:TOk T)(hi:DI X tg iter fi)(hb:QK X N sc tg elt ifs T t f)
  (hsw:jU (.ListComp elt [⟨tg,iter,ifs,0⟩] sc pos) (some (.Name x px)) spos.line X.env=pure true:=by rfl)
  (hs : ∀ x,uE iter X.env x=pure x:=by intro _; rfl) (hf:X.fn x=true \/ X.env.scope.names.lookup x=some .local:=by first | exact .inl rfl | exact .inr rfl | assumption) :
  DS X H0 P0 n0 (.Assign [.Name x px] (.ListComp elt [⟨tg,iter,ifs,0⟩] sc pos) spos) (bS i 1 m (eLC cap fi T t f)):=PS.imp (Tf hc hN hi' hx S hi (g:=tGB X.K T) (tc:=tTF X.K t) (te:=tF X.K 0 f) hb hsw hs hf) fun D σ H gh=>by
 obtain⟨B0,ρ,fp,o,S,ef,k⟩:=gh
 obtain⟨d,e1,ef⟩:=XBs ef
 obtain⟨hl,rfl⟩:=cN ef
 refine QH hT σ H _ (PM m σ H _ ⟨B0,ρ,fp,d,S,e1,fun v H' t=>?_⟩)
 obtain⟨fp',S'⟩:=t.set hl
 exact k _ _ fp' S'
end
def outD:Option Out->Option aA
 | some (.rt d)=>some d
 | some (.nx _)=>some .none
 | _=>none
def fnD (np n:Nat)(body:SF):List aA->Option aA:=fun ds=>if ds.length=np then outD (body (ds.map (fun d=>some (0,d))++BH (n - np) none)) else none
def spF (K:aK)(n0:Nat)(F:List aA->Option aA):Sp:=fun vs H Q _=>∃ P ds d,Hid P H/\Aas K (hid H P) ds vs/\F ds=some d/\Res K P n0 d H Q
section
variable {P:cB}{base:aY}
theorem eM{fd:hE}{k np:Nat}{body:SF}(F:Fun K x qual st f fd)(S:FnScope N ps (bY st))(hnp:np=ps.length)(hN:ps.length≤N.length)
  (hb : ∀ (cdv:aE) (A:cO) (outer:List Env) (s:aJ) (H:Hp) (E:XK) (P0:aD->Prop),Room k (A.deeper (pV qual (bY st) s.heap.objs.size f cdv))->DSs (sJ CX0 P w K mg base N qual (bY st) f cdv A outer s H E).nox H P0 n0 (kX st) body) :
  FnOk P w K mg base CX0 (k+1) f fd ps (spF K n0 (fnD np N.length body)):=by
 refine F.ok S (fun vs H Q E h=>?_) (fun cdv A outer s H vs Q E hr h=>?_)
 ·obtain⟨P,ds,d,_,r,ef,_⟩:=h
  unfold fnD at ef
  by_cases hl:ds.length=np
  ·rw[r.length,hl,hnp]
  ·rw[if_neg hl] at ef; cases ef
 ·obtain⟨P0,ds,d,hP,r,ef,k⟩:=h
  refine⟨_,hb cdv A outer s H E P0 hr,?_⟩
  unfold fnD at ef
  by_cases hl:ds.length=np
  case neg=>rw[if_neg hl] at ef; cases ef
  rw[if_pos hl] at ef
  rw[← hl] at ef
  have hlen:=r.length
  have S0:Sta K H P0 (hid H P0) (ds.map (fun d=>some (0,d))++BH (N.length - ds.length) none) (start N vs) H (fun _=>[]):=by
   have eH:Hd P0 (fun _=>[])=P0:=by
    funext a
    simp[Hd]
   refine⟨by simp[start,hlen],fun _=>.nil,fun i j a h=>by simp at h,fun i a h=>by simp at h,Ext.refl,hP,by rw[eH]; exact Ext.refl,fun i n' d' e=>?_⟩
   rw[eH]
   by_cases hi:i<ds.length
   ·rw[Ce (by simpa using hi),eQ] at e
    cases q:ds[i]? with
    | none=>rw[q] at e; simp at e
    | some d2=>
     rw[q] at e
     have e':0=n'/\d2=d':=by simpa using e
     obtain⟨rfl,rfl⟩:=e'
     obtain⟨v,h1,h2⟩:=r.get q
     refine⟨v,?_,rfl,h2⟩
     unfold start
     rw[Ce (by rw[cZ,hlen]; exact hi),eQ,h1]
     rfl
   ·rw[Yz (by simpa using hi)] at e
    have:=fL e
    simp at this
  cases eb:body (ds.map (fun d=>some (0,d))++BH (N.length - ds.length) none) with
  | none=>rw[eb] at ef; cases ef
  | some o=>
   rw[eb] at ef
   refine⟨_,_,_,o,S0,eb,?_⟩
   cases o with
   | rt d'=>
    cases ef
    exact fun v H' ⟨Fr,h1,h2,h3,h4⟩=>k v H' Fr h1 h2 h3 h4
   | nx ρ'=>
    cases ef
    intro σ' H' fp' S'
    refine k .non H' [] S'.ext .nil (fun a m=>by simp at m) ?_
    cases n0 with
    | zero=>exact⟨rfl,Ab3.mpr rfl⟩
    | succ n=>
     unfold Afz
     split
     ·exact .inl ⟨rfl,rfl,rfl⟩
     ·exact⟨rfl,Ab3.mpr rfl⟩
   | bk _=>cases ef
   | ct _=>cases ef
variable {k np:Nat}{F:List aA->Option aA}{fa:AF}
theorem cI (D:Def X.prog X.w X.K X.mg X.base x k ps (spF X.K n0 F))(hr:Room k X.A)(hg:Gl X x)(ha:DA X (e::es) fa)(hdb:(x == ("__debug__" : aC))=false:=by decide)(he:bK (e::es) X.env=(false,bM e X.env)::bK es X.env:=by rfl)
  (hpl:(eW pos (bK es X.env)).any (·.1)=false:=by rfl):DF n0 X (.Call (.Name x p) (e::es) [] pos) (aO F fa):=
 PE.imp (Hm D hr hg ha hdb he hpl) fun σ H Q gh=>by
  obtain⟨P,ρ,d,hP,rs,ef,k⟩:=gh
  obtain⟨ds,e1,ef⟩:=XBs ef
  refine⟨P,ρ,ds,hP,rs,e1,fun vs H1 x1 r1=>?_⟩
  show spF X.K n0 F (vs++[]) H1 Q E0
  rw[mS]
  exact⟨P,ds,d,hP.ext x1,r1,ef,k.mono x1⟩
end
def g2I (g:Int->Int->aA):aA->aA->Option aA
 | .int i,.int j=>some (g i j)
 | _,_=>none
def g2C (C:Int->Int->Prop)[∀ i j,Decidable (C i j)](g:Int->Int->aA):aA->aA->Option aA
 | .int i,.int j=>if C i j then some (g i j) else none
 | _,_=>none
theorem YU {g:Int->Int->V}{gd:Int->Int->aA}(h : ∀ i j H,Abq K H (gd i j) (g i j)):OpD K 0 (rI0 g) (g2I gd):=fun P H x y a b d Q hP ra rb e k=>by
 unfold g2I at e
 split at e
 ·rename_i i j
  cases e
  exact⟨i,j,Aan.mp ra,Aan.mp rb,k.zero Ext.refl (h i j _)⟩
 ·cases e
theorem AO {C C':Int->Int->Prop}[∀ i j,Decidable (C' i j)]{g:Int->Int->V}{gd:Int->Int->aA}(hC : ∀ i j,C' i j->C i j)(h : ∀ i j H,Abq K H (gd i j) (g i j)):OpD K 0 (rI C g) (g2C C' gd):=fun P H x y a b d Q hP ra rb e k=>by
 unfold g2C at e
 split at e
 ·rename_i i j
  obtain⟨hc,rfl⟩:=cN e
  exact⟨i,j,Aan.mp ra,Aan.mp rb,hC i j hc,k.zero Ext.refl (h i j _)⟩
 ·cases e
section
variable {a:aS}{fa fb fc:EF}
def tD:aA->aA->Option aA:=g2I fun i j=>.int (i - j)
theorem ZI (ha:DE X a fa)(hb:DE X b fb):DE X (.BinOp a .Sub b pos) (eOp tD fa fb):=pC Kb (YU fun _ _ _=>Aan.mpr rfl) ha hb
def jZ:aA->aA->Option aA:=g2C (fun i j=>(i.natAbs<2 ^ 64 \/ j.natAbs<2 ^ 64) \/ (i.natAbs<2 ^ 1000/\j.natAbs<2 ^ 1000)) fun i j=>.int (i*j)
theorem WE:OpR X (kK .Mult) (rI (fun i j=>(i.natAbs<2 ^ 64 \/ j.natAbs<2 ^ 64) \/ (i.natAbs<2 ^ 1000/\j.natAbs<2 ^ 1000)) fun i j=>.int (i*j)):=by
 intro pins s σ H x y v u Q I rx ry h
 obtain⟨i,j,ex,ey,hc,q⟩:=h
 rcases hc with hc | hc
 ·refine Ib pins s σ H x y v u Q I rx ry ⟨i,j,ex,ey,?_,q⟩
  rcases hc with hc | hc
  ·exact .inl ⟨by omega,by omega⟩
  ·exact .inr ⟨by omega,by omega⟩
 ·exact Ll pins s σ H x y v u Q I rx ry ⟨i,j,ex,ey,hc,q⟩
theorem sY (ha:DE X a fa)(hb:DE X b fb):DE X (.BinOp a .Mult b pos) (eOp jZ fa fb):=pC WE (AO (fun _ _ h=>h) fun _ _ _=>Aan.mpr rfl) ha hb
def kA:aA->aA->Option aA:=g2C (fun _ j=>0<j/\j<1073741824) fun i j=>.int (i / j)
theorem qZ (ha:DE X a fa)(hb:DE X b fb):DE X (.BinOp a .FloorDiv b pos) (eOp kA fa fb):=pC Lf (AO (fun _ _ h=>h) fun _ _ _=>Aan.mpr rfl) ha hb
def eA:aA->aA->Option aA:=g2C (fun _ j=>0<j) fun i j=>.int (i%j)
theorem fU (ha:DE X a fa)(hb:DE X b fb):DE X (.BinOp a .Mod b pos) (eOp eA fa fb):=pC Gg (AO (fun _ _ h=>h) fun _ _ _=>Aan.mpr rfl) ha hb
def rL:aA->aA->Option aA:=g2C (fun i j=>0≤j/\j≤1000000/\i.natAbs<2 ^ 64) fun i j=>.int (i ^ j.toNat)
theorem YO (ha:DE X a fa)(hb:DE X b fb):DE X (.BinOp a .Pow b pos) (eOp rL fa fb):=pC Hf (AO (fun _ _ h=>h) fun _ _ _=>Aan.mpr rfl) ha hb
def pO:aA->Option aA
 | .int i=>some (.int (-i))
 | _=>none
theorem MG (ha:DE X a fa):DE X (.UnaryOp .USub a pos) (eUn pO fa):=Ej Hk (fun P H x a d Q hP r e k=>by
 unfold pO at e
 split at e
 ·cases e
  exact⟨_,Aan.mp r,k.zero Ext.refl (Aan.mpr rfl)⟩
 ·cases e) ha
theorem XH(hx:cQ (.str x)=true)(hy:cQ (.str y)=true):cQ (.str (x++y))=true:=by
 have e:(x++y).cps=x.cps++y.cps:=rfl
 simp only[cQ,NL] at hx hy ⊢
 rw[e,Array.all_append,hx,hy]
 rfl
def dI:aA->aA->Option aA
 | .int i,.int j=>some (.int (i+j))
 | .str x,.str y=>if x.length+y.length≤sizeLine then some (.str (x++y)) else none
 | .tuple (x::xs),.tuple ys=>if (x::xs).length+ys.length≤sizeLine then some (.tuple ((x::xs)++ys)) else none
 | _,_=>none
theorem Jy:OpD K 0 (fun x y H Q=>rI0 (fun i j=>.int (i+j)) x y H Q \/ (∃ i j,x = .str i/\y = .str j/\i.length+j.length≤sizeLine/\Q (.str (i++j)) H) \/ HM K x y H Q) dI:=fun P H x y a b d Q hP ra rb e k=>by
 unfold dI at e
 split at e
 ·rename_i i j
  cases e
  exact .inl ⟨i,j,Aan.mp ra,Aan.mp rb,k.zero Ext.refl (Aan.mpr rfl)⟩
 ·rename_i i j
  obtain⟨hc,rfl⟩:=cN e
  exact .inr (.inl ⟨i,j,(Aa7.mp ra).1,(Aa7.mp rb).1,hc,k.zero Ext.refl (Aa7.mpr ⟨rfl,XH (Aa7.mp ra).2 (Aa7.mp rb).2⟩)⟩)
 ·rename_i z zs ys
  obtain⟨hc,rfl⟩:=cN e
  obtain⟨p,us,rfl,hp,r1⟩:=Aar.mp ra
  obtain⟨q,ws,rfl,hq,r2⟩:=Aar.mp rb
  have l1:=r1.length
  have l2:=r2.length
  refine .inr (.inr ⟨p,q,us,ws,rfl,rfl,SqT.of (Aau _ _ hp),SqT.of (Aau _ _ hq),fun z=>by rw[z] at l1; simp at l1,by rw[l1,l2]; exact hc,fun z=>?_,fun z r hr=>?_⟩)
  ·subst z
   have:ys=[]:=by simpa using l2.symm
   subst this
   refine k.zero Ext.refl ?_
   rw[mS]
   exact ra
  ·exact k.tup hP hr (r1.append r2)
 ·cases e
theorem fA (ha:DE X a fa)(hb:DE X b fb):DE X (.BinOp a .Add b pos) (eOp dI fa fb):=pC (Bfv.or (Axa.or Azh)) Jy ha hb
mutual
def noDict:aA->Bool
 | .dict _=>false
 | .list ds=>noDicts ds
 | .tuple ds=>noDicts ds
 | _=>true
def noDicts:List aA->Bool
 | []=>true
 | d::r=>noDict d&&noDicts r
end
mutual
theorem lO {X:Cx}(I:Inv X pins σ H s) : ∀ {d:aA} {v:V} {u:aE},noDict d=true->Abq X.K H d v->RelV v u->d.canLay0=true /\ ∃ as,qB s.heap u d as
 | .none,v,u,_,h,r=>by
  obtain rfl:=Ab3.mp h
  cases r; exact⟨by simp[cQ],_,.none⟩
 | .bool b,v,u,_,h,r=>by
  obtain rfl:=Aay.mp h
  cases r; exact⟨by simp[cQ],_,.bool b⟩
 | .int i,v,u,_,h,r=>by
  obtain rfl:=Aan.mp h
  obtain⟨t,rfl⟩:=r; exact⟨by simp[cQ],_,.int i t⟩
 | .str x,v,u,_,h,r=>by
  obtain⟨rfl,hl⟩:=Aa7.mp h
  obtain⟨t,rfl⟩:=r; exact⟨hl,_,.str x t⟩
 | .list ds,v,u,n,h,r=>by
  obtain⟨a,xs,rfl,hs,hr⟩:=Abk.mp h
  cases r
  obtain⟨its,rv,⟨o,m,e,hc,_,hd⟩,_⟩:=I.list hs
  obtain⟨hl,as,ha⟩:=LJ I (by simpa [noDict] using n) hr rv
  exact⟨by simpa [cQ] using hl,_,.list e hc hd (by simpa using ha)⟩
 | .tuple ds,v,u,n,h,r=>by
  obtain⟨a,xs,rfl,hs,hr⟩:=Aar.mp h
  cases r
  obtain⟨its,rv,⟨o,e,hc,m,hd⟩,_⟩:=I.tuple (SqT.of hs)
  obtain⟨hl,as,ha⟩:=LJ I (by simpa [noDict] using n) hr rv
  exact⟨by simpa [cQ] using hl,_,.tuple e hc hd (by simpa using ha)⟩
 | .dict _,_,_,n,h,_=>by simp[noDict] at n
theorem LJ {X:Cx}(I:Inv X pins σ H s) : ∀ {ds:List aA} {vs:List V} {us:List aE},noDicts ds=true->Aas X.K H ds vs->Vals vs us->BA ds=true /\ ∃ as,qA s.heap us ds as
 | [],vs,us,_,h,r=>by
  obtain rfl:=Aao.mp h
  cases r; exact⟨by simp[BA],_,.nil⟩
 | d::ds,vs,us,n,h,r=>by
  have n':noDict d=true/\noDicts ds=true:=by simpa [noDicts] using n
  obtain⟨x,rr,rfl,h1,h2⟩:=Aah.mp h
  cases r with
  | cons r1 r2=>
   obtain⟨l1,as,ha⟩:=lO I n'.1 h1 r1
   obtain⟨l2,bs,hb⟩:=LJ I n'.2 h2 r2
   exact⟨by simp[BA,l1,l2],_,.cons ha hb⟩
end
def dE (d:aA):Bool:=noDict d&&decide (d.depth≤60)
def gEq:aA->aA->Option aA:=fun a b=>if (dE a&&dE b)=true then some (.bool (cJ a b)) else none
def gNe:aA->aA->Option aA:=fun a b=>if (dE a&&dE b)=true then some (.bool (!cJ a b)) else none
def yB (K:aK)(neg:Bool):R2:=fun x y H Q=>∃ da db,Abq K H da x/\Abq K H db y/\dE da=true/\dE db=true/\Q (.bl (neg != cJ da db)) H
theorem lH (hu:X.A.units+100<cLine):OpR X (kJ .Eq) (yB X.K false):=by
 intro pins s σ H x y v u Q I rx ry h
 obtain⟨da,db,ra,rb,fa,fb,q⟩:=h
 have fa':noDict da=true/\da.depth≤60:=by simpa [dE] using fa
 have fb':noDict db=true/\db.depth≤60:=by simpa [dE] using fb
 obtain⟨la,as,ra⟩:=lO I fa'.1 ra rx
 obtain⟨lb,bs,rb⟩:=lO I fb'.1 rb ry
 exact SeqAt.compareEq_reads ra rb la lb (by omega) ⟨.bl _,H,I,rfl,by simpa using q⟩
theorem MR (hu:X.A.units+100<cLine):OpR X (kJ .NotEq) (yB X.K true):=by
 intro pins s σ H x y v u Q I rx ry h
 obtain⟨da,db,ra,rb,fa,fb,q⟩:=h
 have fa':noDict da=true/\da.depth≤60:=by simpa [dE] using fa
 have fb':noDict db=true/\db.depth≤60:=by simpa [dE] using fb
 obtain⟨la,as,ra⟩:=lO I fa'.1 ra rx
 obtain⟨lb,bs,rb⟩:=lO I fb'.1 rb ry
 exact SeqAt.compareNe_reads ra rb la lb (by omega) ⟨.bl _,H,I,rfl,by simpa using q⟩
theorem mE:OpD K 0 (yB K false) gEq:=fun P H x y a b d Q hP ra rb e k=>by
 obtain⟨hc,rfl⟩:=cN e
 have hc':dE a=true/\dE b=true:=by simpa using hc
 exact⟨a,b,ra.ext Aau,rb.ext Aau,hc'.1,hc'.2,k.zero Ext.refl (Aay.mpr (by simp))⟩
theorem MP:OpD K 0 (yB K true) gNe:=fun P H x y a b d Q hP ra rb e k=>by
 obtain⟨hc,rfl⟩:=cN e
 have hc':dE a=true/\dE b=true:=by simpa using hc
 exact⟨a,b,ra.ext Aau,rb.ext Aau,hc'.1,hc'.2,k.zero Ext.refl (Aay.mpr (by simp))⟩
def HD (K:aK)(neg:Bool):R2:=fun x y H Q=>∃ d ds,Abq K H d x/\(Abq K H (.list ds) y \/ Abq K H (.tuple ds) y)/\dE d=true/\noDicts ds=true/\Q (.bl (neg != ds.any fun z=>cJ z d)) H
theorem Hw (hu:X.A.units+100<cLine):OpR X (kJ .In) (HD X.K false):=by
 intro pins s σ H x y v u Q I rx ry h
 obtain⟨d,ds,ra,rb,fa,fb,q⟩:=h
 have fa':noDict d=true/\d.depth≤60:=by simpa [dE] using fa
 obtain⟨la,as,ra⟩:=lO I fa'.1 ra rx
 rcases rb with rb | rb
 ·obtain⟨lb,bs,rb⟩:=lO I (by simpa [noDict] using fb) rb ry
  exact SeqAt.in_list_reads rb ra (by simpa [cQ] using lb) la (by omega) ⟨.bl _,H,I,rfl,by simpa using q⟩
 ·obtain⟨lb,bs,rb⟩:=lO I (by simpa [noDict] using fb) rb ry
  exact SeqAt.in_tuple_reads rb ra (by simpa [cQ] using lb) la (by omega) ⟨.bl _,H,I,rfl,by simpa using q⟩
theorem Ob (hu:X.A.units+100<cLine):OpR X (kJ .NotIn) (HD X.K true):=by
 intro pins s σ H x y v u Q I rx ry h
 obtain⟨d,ds,ra,rb,fa,fb,q⟩:=h
 have fa':noDict d=true/\d.depth≤60:=by simpa [dE] using fa
 obtain⟨la,as,ra⟩:=lO I fa'.1 ra rx
 rcases rb with rb | rb
 ·obtain⟨lb,bs,rb⟩:=lO I (by simpa [noDict] using fb) rb ry
  exact SeqAt.notIn_list_reads rb ra (by simpa [cQ] using lb) la (by omega) ⟨.bl _,H,I,rfl,by simpa using q⟩
 ·obtain⟨lb,bs,rb⟩:=lO I (by simpa [noDict] using fb) rb ry
  exact SeqAt.notIn_tuple_reads rb ra (by simpa [cQ] using lb) la (by omega) ⟨.bl _,H,I,rfl,by simpa using q⟩
end
theorem PE.or{t t':TE}(h:PE X e t)(h':PE X e t'):PE X e (fun σ H Q=>t σ H Q \/ t' σ H Q):=fun pins s σ H Q I q=>q.elim (h pins s σ H Q I) (h' pins s σ H Q I)
def gLt:aA->aA->Option aA
 | .int i,.int j=>some (.bool (decide (i<j)))
 | .str i,.str j=>some (.bool (decide (i.cps.toList<j.cps.toList)))
 | _,_=>none
def gLe:aA->aA->Option aA
 | .int i,.int j=>some (.bool (decide (i≤j)))
 | .str i,.str j=>some (.bool (!(decide (j.cps.toList<i.cps.toList))))
 | _,_=>none
def gGt:aA->aA->Option aA:=g2I fun i j=>.bool (decide (j<i))
def gGe:aA->aA->Option aA:=g2I fun i j=>.bool (decide (j≤i))
theorem IB:OpD K 0 (fun x y H Q=>rI0 (fun i j=>.bl (decide (i<j))) x y H Q \/ ∃ i j,x = .str i/\y = .str j/\Q (.bl (decide (i.cps.toList<j.cps.toList))) H) gLt:=fun P H x y a b d Q hP ra rb e k=>by
 unfold gLt at e
 split at e
 ·cases e
  exact .inl ⟨_,_,Aan.mp ra,Aan.mp rb,k.zero Ext.refl (Aay.mpr rfl)⟩
 ·cases e
  exact .inr ⟨_,_,(Aa7.mp ra).1,(Aa7.mp rb).1,k.zero Ext.refl (Aay.mpr rfl)⟩
 ·cases e
theorem CD:OpD K 0 (rI0 fun i j=>.bl (decide (j<i))) gGt:=YU fun _ _ _=>Aay.mpr rfl
def oB:aA->aA->Option aA
 | .none,.none=>some (.bool false)
 | _,.none=>some (.bool true)
 | _,_=>none
theorem Om{a:aA}{x:V}(r:Abq K H a x):decide (x = .non)=(match a with | .none=>true | _=>false):=by
 cases a with
 | none=>obtain rfl:=Ab3.mp r; rfl
 | bool b=>obtain rfl:=Aay.mp r; rfl
 | int b=>obtain rfl:=Aan.mp r; rfl
 | str b=>obtain⟨rfl,_⟩:=Aa7.mp r; rfl
 | list b=>obtain⟨_,_,rfl,_⟩:=Abk.mp r; rfl
 | tuple b=>obtain⟨_,_,rfl,_⟩:=Aar.mp r; rfl
 | dict b=>obtain⟨_,rfl,_⟩:=Adv.mp r; rfl
theorem DX:OpD K 0 (fun x y H Q=>y = .non/\Q (.bl (!decide (x = .non))) H) oB:=fun P H x y a b d Q hP ra rb e k=>by
 have q:=Om ra
 unfold oB at e
 split at e
 ·cases e
  exact⟨Ab3.mp rb,k.zero Ext.refl (Aay.mpr (by rw[q]; rfl))⟩
 ·rename_i h
  cases e
  refine⟨Ab3.mp rb,k.zero Ext.refl (Aay.mpr ?_)⟩
  rw[q]
  cases a <;> first | rfl | exact(h rfl).elim
 ·cases e
def bP:aA->Option aI
 | .int i=>some (.inl i)
 | .str x=>some (.inr x)
 | _=>none
theorem uA(h:bP d=some k):d=kD k:=by
 cases d <;> simp[bP] at h <;> subst h <;> rfl
def bW (kds:List (aA×aA))(k:aI):Option aA:=(kds.find? fun kd=>decide (bP kd.1=some k)).map (·.2)
theorem kY (k:aI):bP (kD k)=some k:=by cases k <;> rfl
theorem tZ : ∀ {kds:List (aA×aA)} {kvs:List (aI×V)},Ab4 K H kds kvs->(bW kds k=none/\eG kvs k=none) \/ ∃ d v,bW kds k=some d/\eG kvs k=some v/\Abq K H d v
 | [],kvs,h=>by rw[Acf.mp h]; exact .inl ⟨rfl,rfl⟩
 | (k0,d)::r,kvs,h=>by
  obtain⟨k',x,rr,rfl,rfl,h1,h2⟩:=Abh.mp h
  by_cases e:k'=k
  ·refine .inr ⟨d,x,?_,kZ e,h1⟩
   simp[bW,fZ,kY,e]
  ·have e1:bW ((kD k',d)::r) k=bW r k:=by simp[bW,fZ,kY,e]
   rw[e1,kE e]
   exact tZ h2
theorem XJ : ∀ {kds:List (aA×aA)} {kvs:List (List aA×V)},Abu K H kds kvs->bW kds k=none
 | [],kvs,h=>rfl
 | (k0,d)::r,kvs,h=>by
  obtain⟨k',x,rr,rfl,⟨rfl,_⟩,h1,h2⟩:=Abm.mp h
  have e1:bW ((.tuple k',d)::r) k=bW r k:=by simp[bW,fZ,bP]
  rw[e1]
  exact XJ h2
theorem Uq(h:Abq K H (.dict kds) v)(e:bW kds k=some d) : ∃ a,∃ kvs:Nat×List (aI×V),v = .ref a/\H a=some (.dK kvs.1 kvs.2)/\Ab4 K H kds kvs.2:=by
 obtain⟨a,ev,⟨kvs,h1,r⟩ | ⟨ts,h1,r⟩ | ⟨xs,h1,r⟩⟩:=Adv.mp h
 case inr.inr=>
  obtain⟨es,rfl,_⟩:=KN r
  cases e
 ·exact⟨a,kvs,ev,h1,r⟩
 ·cases kds with
  | nil=>simp[Ayh] at r
  | cons p q=>
   obtain⟨k0,m⟩:=p
   obtain⟨rfl,r2⟩:=Afl.mp r
   have e1:bW ((.none,m)::q) k=bW q k:=by simp[bW,fZ,bP]
   rw[e1,XJ r2] at e
   cases e
def iN (kds:List (aA×aA))(k:List aA):Option aA:=(kds.find? fun kd=>cJ kd.1 (.tuple k)).map (·.2)
theorem Ad (a b:List aA):cJ (.tuple a) (.tuple b)=AZ a b:=by simp[cJ]
theorem EH {a k:List aA}{r:List (aA×aA)}(ha:bU a=true)(hk:bU k=true):iN ((.tuple a,d)::r) k=if a=k then some d else iN r k:=by
 have e:cJ (.tuple a) (.tuple k)=decide (a=k):=by rw[Ad,zK _ _ ha hk]
 unfold iN
 rw[fZ,e]
 by_cases h:a=k
 ·rw[if_pos h,decide_eq_true h]; rfl
 ·rw[if_neg h,decide_eq_false h]
theorem zO{k:List aA}(hk:bU k=true) : ∀ {kds:List (aA×aA)} {kvs:List (List aA×V)},Abu K H kds kvs->(iN kds k=none/\eG kvs k=none) \/ ∃ d v,iN kds k=some d/\eG kvs k=some v/\Abq K H d v
 | [],kvs,h=>by rw[Acj.mp h]; exact .inl ⟨rfl,rfl⟩
 | (k0,d)::r,kvs,h=>by
  obtain⟨k',x,rr,rfl,⟨rfl,hk'⟩,h1,h2⟩:=Abm.mp h
  rw[EH hk' hk]
  by_cases e:k'=k
  ·rw[if_pos e]
   exact .inr ⟨d,x,rfl,kZ e,h1⟩
  ·rw[if_neg e,kE e]
   exact zO hk h2
def putD (kds:List (aA×aA))(k:aI)(d:aA):List (aA×aA):=
 if (kds.any fun kd=>decide (bP kd.1=some k))=true then kds.map fun kd=>if bP kd.1=some k then(kd.1,d) else kd else kds++[(kD k,d)]
theorem QX : ∀ {kds:List (aA×aA)} {kvs:List (aI×V)},Ab4 K H kds kvs->(kds.any fun kd=>decide (bP kd.1=some k))=kvs.any fun kv=>decide (kv.1=k)
 | [],kvs,h=>by rw[Acf.mp h]; rfl
 | (k0,d)::r,kvs,h=>by
  obtain⟨k',x,rr,rfl,rfl,h1,h2⟩:=Abh.mp h
  rw[xS,xS,QX h2,kY]
  simp
theorem JQ(rv:Abq K H d v) : ∀ {kds:List (aA×aA)} {kvs:List (aI×V)},Ab4 K H kds kvs ->
  Ab4 K H (kds.map fun kd=>if bP kd.1=some k then(kd.1,d) else kd) (kvs.map fun kv=>if kv.1=k then(kv.1,v) else kv)
 | [],kvs,h=>by rw[Acf.mp h]; exact Acf.mpr rfl
 | (k0,d0)::r,kvs,h=>by
  obtain⟨k',x,rr,rfl,rfl,h1,h2⟩:=Abh.mp h
  rw[dH,dH]
  by_cases e:k'=k
  ·rw[if_pos (show bP (kD k',d0).1=some k by rw[kY,e]),if_pos (show(k',x).1=k from e)]
   exact Abh.mpr ⟨k',v,_,rfl,rfl,rv,JQ rv h2⟩
  ·rw[if_neg (show ¬ bP (kD k',d0).1=some k by rw[kY]; simpa using e),if_neg (show ¬ (k',x).1=k from e)]
   exact Abh.mpr ⟨k',x,_,rfl,rfl,h1,JQ rv h2⟩
theorem Ab4.snoc(rv:Abq K H d v) : ∀ {kds:List (aA×aA)} {kvs:List (aI×V)},Ab4 K H kds kvs->Ab4 K H (kds++[(kD k,d)]) (kvs++[(k,v)])
 | [],kvs,h=>by rw[Acf.mp h]; exact Abh.mpr ⟨k,v,[],rfl,rfl,rv,Acf.mpr rfl⟩
 | (k0,d0)::r,kvs,h=>by
  obtain⟨k',x,rr,rfl,rfl,h1,h2⟩:=Abh.mp h
  exact Abh.mpr ⟨k',x,_,rfl,rfl,h1,Ab4.snoc rv h2⟩
theorem CJ{kvs:List (aI×V)}(h:Ab4 K H kds kvs)(rv:Abq K H d v):Ab4 K H (putD kds k d) (putK kvs k v):=by
 unfold putD putK
 rw[QX h]
 by_cases q:(kvs.any fun kv=>decide (kv.1=k))=true
 ·rw[if_pos q,if_pos q]; exact JQ rv h
 ·rw[if_neg q,if_neg q]; exact Ab4.snoc rv h
theorem Ab4.length : ∀ {kds:List (aA×aA)} {kvs:List (aI×V)},Ab4 K H kds kvs->kvs.length=kds.length
 | [],kvs,h=>by rw[Acf.mp h]; rfl
 | (k0,d0)::r,kvs,h=>by
  obtain⟨k',x,rr,rfl,rfl,h1,h2⟩:=Abh.mp h
  rw[fN,fN,Ab4.length h2]
theorem kG{x:V}(h:bP d=some k)(r:Abq K H d x):x=kV k:=by
 rw[uA h] at r
 exact Qq r
def gIx:aA->aA->Option aA
 | .list ds,.int i=>atI ds i
 | .tuple ds,.int i=>atI ds i
 | .str z,.int i=>if z.length≤sizeLine then(atI z.cps.toList i).bind fun c=>some (.str ⟨#[c]⟩) else none
 | .dict kds,d=>(bP d).bind fun k=>bW kds k
 | _,_=>none
theorem QW{i:Int}(r:Aas K H ds xs)(h:atI ds i=some d) : ∃ v,atI xs i=some v/\Abq K H d v:=by
 unfold atI at h ⊢
 rw[r.length]
 obtain⟨j,h1,h2⟩:=XBs h
 obtain⟨v,h3,h4⟩:=r.get h2
 exact⟨v,by rw[h1]; exact h3,h4⟩
theorem Lb {α:Type}{xs:List α}{i:Int}{x:α}(h:atI xs i=some x) : ∃ j:Nat,xs[j]?=some x:=by
 unfold atI at h
 obtain⟨j,h1,h2⟩:=XBs h
 exact⟨j,h2⟩
section
variable {a:aS}{fa fb f:EF}
theorem dJ (hu:X.A.units+40<cLine)(ha:DE X a fa)(hb:DE X b fb)(hs:CY b):DE X (.Subscript a b pos) (eOp gIx fa fb):=PE.imp (PE.or (QB QI ha hb hs) (CV hu ha hb hs)) fun σ H Q h=>by
 obtain⟨P,ρ,d,hP,rs,ef,k⟩:=h
 obtain⟨d1,e1,ef2⟩:=XBs ef
 obtain⟨d2,e2,ef3⟩:=XBs ef2
 clear ef ef2
 have seq:(∀ (H2:Hp) (v u:V),Ext H H2->Abq X.K (hid H2 P) d1 v->Abq X.K (hid H2 P) d2 u->rIx X.K v u H2 Q)->tOp (rIx X.K) (tF X.K 0 fa) (tF X.K 0 fb) σ H Q:=fun z=>
  ⟨P,ρ,d1,hP,rs,e1,dU fun v H1 x1 r1=>⟨P,ρ,d2,hP.ext x1,rs.ext (cT x1),e2,dU fun u H2 x2 r2=>z H2 v u (x1.trans x2) (r1.ext (cT x2)) r2⟩⟩
 cases d1 with
 | list ds=>
  cases d2 with
  | int i=>
   refine .inl (seq fun H2 v u x r1 r2=>.inl ?_)
   obtain⟨q,xs,rfl,hq,rr⟩:=Abk.mp r1
   obtain⟨w,h1,h2⟩:=QW rr (show atI ds i=some d from ef3)
   exact⟨q,xs,i,w,rfl,Aan.mp r2,Aau.sqL hq,h1,k.zero x h2⟩
  | _=>cases ef3
 | tuple ds=>
  cases d2 with
  | int i=>
   refine .inl (seq fun H2 v u x r1 r2=>.inr (.inl ?_))
   obtain⟨q,xs,rfl,hq,rr⟩:=Aar.mp r1
   obtain⟨w,h1,h2⟩:=QW rr (show atI ds i=some d from ef3)
   exact⟨q,xs,i,w,rfl,Aan.mp r2,SqT.of (Aau _ _ hq),h1,k.zero x h2⟩
  | _=>cases ef3
 | str z=>
  cases d2 with
  | int i=>
   have ef3:(if z.length≤sizeLine then(atI z.cps.toList i).bind fun c=>some (.str ⟨#[c]⟩) else none)=some d:=ef3
   by_cases hz:z.length≤sizeLine
   ·rw[if_pos hz] at ef3
    obtain⟨c,h1,h2⟩:=XBs ef3
    cases h2
    obtain⟨j,hj⟩:=Lb h1
    refine .inl (seq fun H2 v u x r1 r2=>.inr (.inr ⟨z,i,c,(Aa7.mp r1).1,Aan.mp r2,hz,h1,k.zero x (Aa7.mpr ⟨rfl,JG (Aa7.mp r1).2 hj⟩)⟩))
   ·rw[if_neg hz] at ef3; cases ef3
  | _=>cases ef3
 | dict kds=>
  obtain⟨kk,h1,h2⟩:=XBs (show((bP d2).bind fun k=>bW kds k)=some d by cases d2 <;> exact ef3)
  refine .inr ⟨P,ρ,_,hP,rs,e1,dU fun v H1 x1 r1=>⟨P,ρ,d2,hP.ext x1,rs.ext (cT x1),e2,dU fun u H2 x2 r2=>?_⟩⟩
  obtain⟨q,kvs,rfl,hq,rr⟩:=Uq (r1.ext (cT x2)) h2
  rcases tZ (k:=kk) rr with⟨n1,_⟩ | ⟨d',v',s1,s2,rd⟩
  ·rw[h2] at n1; cases n1
  ·rw[h2] at s1
   cases s1
   refine⟨q,v',rfl,.inl ⟨kvs.1,kvs.2,kk,.inl (Aau _ _ hq),kG h1 r2,s2.symm⟩,k.zero (x1.trans x2) rd⟩
 | _=>cases d2 <;> cases ef3
def PJ (neg:Bool):aA->List (aA×aA)->Option aA
 | .tuple _,(_,.list _)::_=>none
 | .tuple k,(_,_)::kds=>if (bU k&&decide (dA k≤6))=true then some (.bool (neg != (iN kds k).isSome)) else none
 | _,_=>none
def gIn (neg:Bool):aA->aA->Option aA
 | d,.list ds=>if (dE d&&noDicts ds)=true then some (.bool (neg != ds.any fun z=>cJ z d)) else none
 | d,.tuple ds=>if (dE d&&noDicts ds)=true then some (.bool (neg != ds.any fun z=>cJ z d)) else none
 | .str i,.str j=>some (.bool (neg != !(Cw j i 0 j.length 1).isEmpty))
 | d,.dict kds=>if plK kds=true then(bP d).bind fun k=>some (.bool (neg != (bW kds k).isSome)) else PJ neg d kds
 | _,_=>none
def YS (K:aK)(neg:Bool):R2:=fun x y H Q=>HD K neg x y H Q \/ (∃ i j,x = .str i/\y = .str j/\Q (.bl (neg != !(Cw j i 0 j.length 1).isEmpty)) H) \/ ∃ a o,y = .ref a/\A5e H a x o/\Q (.bl (neg != o.isSome)) H
theorem JX (hu:X.A.units+100<cLine):OpR X (kJ .In) (YS X.K false):=by
 intro pins s σ H x y v u Q I rx ry h
 rcases h with h | ⟨i,j,ex,ey,q⟩ | ⟨a,o,rfl,g,q⟩
 ·exact Hw hu pins s σ H x y v u Q I rx ry h
 ·exact Xa pins s σ H x y v u Q I rx ry ⟨i,j,ex,ey,by simpa using q⟩
 ·cases ry
  exact Ee (by omega) I g rx fun s' I'=>⟨.bl _,H,I',rfl,by simpa using q⟩
theorem MI{neg:Bool}:OpD K 0 (YS K neg) (gIn neg):=fun P H x y a b d Q hP ra rb e k=>by
 unfold gIn at e
 split at e
 ·obtain⟨hc,rfl⟩:=cN e
  have hc':=iH.mp hc
  exact .inl ⟨a,_,ra.ext Aau,.inl (rb.ext Aau),hc'.1,hc'.2,k.zero Ext.refl (Aay.mpr rfl)⟩
 ·obtain⟨hc,rfl⟩:=cN e
  have hc':=iH.mp hc
  exact .inl ⟨a,_,ra.ext Aau,.inr (rb.ext Aau),hc'.1,hc'.2,k.zero Ext.refl (Aay.mpr rfl)⟩
 ·cases e
  exact .inr (.inl ⟨_,_,(Aa7.mp ra).1,(Aa7.mp rb).1,k.zero Ext.refl (Aay.mpr rfl)⟩)
 ·rename_i kds
  by_cases pk:plK kds=true
  case neg=>
   rw[if_neg pk] at e
   have ek : ∃ m r,kds=(.none,m)::r:=by
    cases kds with
    | nil=>simp[plK] at pk
    | cons p r=>
     obtain⟨k0,m⟩:=p
     cases k0 <;> simp[plK] at pk
     exact⟨m,r,rfl⟩
   obtain⟨m,r,rfl⟩:=ek
   cases a with
   | tuple kk=>
    have hm : ∀ es,m ≠ .list es:=by
     rintro es rfl
     cases e
    replace e:(if (bU kk&&decide (dA kk≤6))=true then some (lA (neg != (iN r kk).isSome)) else none)=some d:=by
     cases m with
     | list es=>exact absurd rfl (hm es)
     | _=>exact e
    obtain⟨hc,rfl⟩:=cN e
    have hc':bU kk=true/\dA kk≤6:=by simpa using hc
    obtain⟨q,ts,rfl,hq,rr⟩:=(nB hm).mp rb
    obtain⟨b,xs,rfl,hb,rx⟩:=Aar.mp (ra.ext Aau)
    refine .inr (.inr ⟨q,eG ts.2 kk,rfl,.inr ⟨ts.2,kk,b,⟨_,.inl (Aau _ _ hq)⟩,rfl,⟨hc'.1,hc'.2,xs,hb,Aas.keys kk hc'.1 rx⟩,rfl⟩,k.zero Ext.refl (Aay.mpr ?_)⟩)
    rcases zO hc'.1 rr with⟨n1,n2⟩ | ⟨d',v',s1,s2,rd⟩
    ·rw[n1,n2]; rfl
    ·rw[s1,s2]; rfl
   | _=>simp[PJ] at e
  rw[if_pos pk] at e
  obtain⟨kk,h1,h2⟩:=XBs e
  cases h2
  obtain⟨q,kvs,rfl,hq,rr⟩:=(rA pk).mp rb
  refine .inr (.inr ⟨q,eG kvs.2 kk,rfl,.inl ⟨kvs.1,kvs.2,kk,.inl (Aau _ _ hq),kG h1 ra,rfl⟩,k.zero Ext.refl (Aay.mpr ?_)⟩)
  rcases tZ (k:=kk) rr with⟨n1,n2⟩ | ⟨d',v',s1,s2,rd⟩
  ·rw[n1,n2]; rfl
  ·rw[s1,s2]; rfl
 ·cases e
end
def cV:List aA->Option aA
 | [.list ds]=>some (.int ds.length)
 | [.tuple ds]=>some (.int ds.length)
 | [.dict kds]=>if plK kds=true then some (.int kds.length) else none
 | [.str z]=>if z.length≤sizeLine then some (.int z.length) else none
 | _=>none
theorem hZ(r:Aas K H [d] xs) : ∃ v,xs=[v]/\Abq K H d v:=by
 obtain⟨v,t,rfl,h1,h2⟩:=Aah.mp r
 obtain rfl:=Aao.mp h2
 exact⟨v,rfl,h1⟩
section
def OX (K:aK):List V->Hp->VK->Prop:=fun xs H Q=>(∃ p ys,xs=[.ref p]/\(SqL K H p ys \/ SqT K H p ys)/\Q (.int ys.length) H) \/ (∃ z,xs=[.str z]/\z.length≤sizeLine/\Q (.int z.length) H) \/ ∃ a ep kvs,xs=[V.ref a]/\H a=some (.dK ep kvs)/\Q (.int kvs.length) H
theorem iD:Aek X (.builtin "len") (OX X.K):=Aqw.or (Asj.or Xd)
theorem iB:CallD K 0 (OX K) cV:=fun P H xs ds d Q hP r e k=>by
 unfold cV at e
 split at e
 ·cases e
  obtain⟨v,rfl,r'⟩:=hZ r
  replace r:=r'
  obtain⟨q,ys,rfl,hq,rr⟩:=Abk.mp r
  exact .inl ⟨q,ys,rfl,.inl (Aau.sqL hq),k.zero Ext.refl (Aan.mpr (by rw[rr.length]))⟩
 ·cases e
  obtain⟨v,rfl,r'⟩:=hZ r
  replace r:=r'
  obtain⟨q,ys,rfl,hq,rr⟩:=Aar.mp r
  exact .inl ⟨q,ys,rfl,.inr (SqT.of (Aau _ _ hq)),k.zero Ext.refl (Aan.mpr (by rw[rr.length]))⟩
 ·obtain⟨pk,rfl⟩:=cN e
  obtain⟨v,rfl,r'⟩:=hZ r
  replace r:=r'
  obtain⟨q,ys,rfl,hq,rr⟩:=(rA pk).mp r
  exact .inr (.inr ⟨q,ys.1,ys.2,rfl,Aau _ _ hq,k.zero Ext.refl (Aan.mpr (by rw[rr.length]))⟩)
 ·obtain⟨hz,rfl⟩:=cN e
  obtain⟨v,rfl,r'⟩:=hZ r
  replace r:=r'
  exact .inr (.inl ⟨_,by rw[(Aa7.mp r).1],hz,k.zero Ext.refl (Aan.mpr rfl)⟩)
 ·cases e
def lG:aA->String
 | .none=>"NoneType"
 | .bool _=>"bool"
 | .int _=>"int"
 | .str _=>"str"
 | .list _=>"list"
 | .tuple _=>"tuple"
 | .dict _=>"dict"
def TC:List String:=["int","bool","str","list","tuple","dict"]
theorem Wo (d:aA):lG d∈kinds:=by cases d <;> simp[lG,kinds]
theorem Xv:Aek X (.builtin "isinstance") (fun xs H Q=>∃ x T d,xs=[x,.ty T]/\Abq X.K H d x/\T∈TC/\Q (.bl (isK (lG d) T)) H):=by
 intro pins s σ H xs us Q I r h
 obtain⟨x,T,d,rfl,rd,hT,q⟩:=h
 have ek:=Ls (Wo d) hT
 have by_ty:TyOf X.K H x (.type (lG d))->aN (aW X.prog X.w) X.A (call (.builtin "isinstance") us) (EP X pins σ Q) X.xe s:=fun ty=>
  Rk pins s σ H _ us Q I r ⟨x,T,_,isK (lG d) T,rfl,ty,Ama.trans ek,q⟩
 cases d with
 | none=>obtain rfl:=Ab3.mp rd; exact by_ty .non
 | bool b=>obtain rfl:=Aay.mp rd; exact by_ty (.bl _)
 | int b=>obtain rfl:=Aan.mp rd; exact by_ty (.int _)
 | str b=>obtain⟨rfl,_⟩:=Aa7.mp rd; exact by_ty (.str _)
 | list b=>
  obtain⟨a,ys,rfl,h,_⟩:=Abk.mp rd
  obtain⟨u,w',rfl,ru,rw'⟩:=vals2 r
  cases rw'
  cases ru
  obtain⟨its,_,⟨o,n,e1,hc,_,_⟩,_⟩:=I.list h
  exact mM Bj I.kIn ⟨o,e1,hc⟩ (Ama.trans ek) (fun z=>nomatch z) fun tk=>⟨.bl _,H,I.tok tk,rfl,q⟩
 | tuple b=>obtain⟨_,_,rfl,h,_⟩:=Aar.mp rd; exact by_ty (.tup h)
 | dict b=>
  obtain⟨_,rfl,⟨_,h,_⟩ | ⟨_,h,_⟩ | ⟨_,h,_⟩⟩:=Adv.mp rd
  ·exact by_ty (.dK h)
  ·exact by_ty (.dT h)
  ·obtain⟨u,w',rfl,ru,rw'⟩:=vals2 r
   cases rw'
   cases ru
   obtain⟨⟨_,o,_,_,e1,hc,_⟩,_⟩:=I.hok _ _ h
   exact mM Bl I.kIn ⟨o,e1,hc.1⟩ (Ama.trans ek) (fun z=>nomatch z) fun tk=>⟨.bl _,H,I.tok tk,rfl,q⟩
def fS (T:String):aA->Option aA:=fun d=>some (.bool (isK (lG d) T))
variable {a:aS}{f:EF}{fa:AF}{apos cpos:bR}
theorem yF(hgl:Gl X "isinstance")(hm:X.mg "isinstance" = none)(hg:Gl X x)(hmx:X.mg x=none)(hv:nO x=some (.type T))(hT:T∈TC)(he:DE X e f)
  (hn:x ≠ "__name__":=by decide) (hd:(x == ("__debug__" : aC))=false:=by decide) (hs1:bK (e::[.Name x p2]) X.env=(false,bM e X.env)::bK [.Name x p2] X.env:=by rfl)
  (hs2:bK (.Name x p2::[]) X.env=(false,bM (.Name x p2) X.env)::bK [] X.env:=by rfl) (hpl:(eW pos (bK [.Name x p2] X.env)).any (·.1)=false:=by rfl):DE X (.Call (.Name "isinstance" p) [e,.Name x p2] [] pos) (eUn (fS T) f):=
 PE.imp (SE Xv hgl hm boot_isinstance (iR he (iR (Ey hg hmx hv hn hd) lJ hs2) hs1) (by decide) (by decide) hs1 hpl) fun σ H Q gh=>by
  obtain⟨P,ρ,d,hP,rs,ef,k⟩:=gh
  obtain⟨d1,e1,ef⟩:=XBs ef
  cases ef
  exact⟨P,ρ,d1,hP,rs,e1,dU fun v H1 x1 r1=>⟨v,T,d1,rfl,r1.ext Aau,hT,k.zero x1 (Aay.mpr rfl)⟩⟩
def kU:List aA->Option aA
 | [.list ds]=>some (.tuple ds)
 | [.tuple ds]=>some (.tuple ds)
 | _=>none
theorem rF:CallD K 0 (fun xs H Q=>∃ p ys,xs=[.ref p]/\((SqL K H p ys /\ ∀ l,H l=none->Q (.ref l) (upd H l (.tup ys))) \/ (SqT K H p ys/\Q (.ref p) H))) kU:=fun P H xs ds d Q hP r e k=>by
 unfold kU at e
 split at e
 ·cases e
  obtain⟨v,rfl,r'⟩:=hZ r
  replace r:=r'
  obtain⟨q,ys,rfl,hq,rr⟩:=Abk.mp r
  exact⟨q,ys,rfl,.inl ⟨Aau.sqL hq,fun l hl=>k.tup hP hl rr⟩⟩
 ·cases e
  obtain⟨v,rfl,r'⟩:=hZ r
  replace r:=r'
  obtain⟨q,ys,rfl,hq,rr⟩:=Aar.mp r
  exact⟨q,ys,rfl,.inr ⟨SqT.of (Aau _ _ hq),k.zero Ext.refl r⟩⟩
 ·cases e
def sR:List aA->Option aA
 | [.list ds]=>some (.list ds)
 | [.tuple ds]=>some (.list ds)
 | [.str z]=>if z.length≤sizeLine then some (.list (z.cps.toList.map fun c=>.str ⟨#[c]⟩)) else none
 | _=>none
def PR (K:aK):List V->Hp->VK->Prop:=fun xs H Q=>(∃ p ys,xs=[.ref p]/\(SqL K H p ys \/ SqT K H p ys) /\ ∀ l,H l=none->Q (.ref l) (upd H l (.lst ys))) \/ ∃ z:aC,xs=[.str z]/\z.length≤sizeLine /\ ∀ l,H l=none->Q (.ref l) (upd H l (.lst (z.cps.toList.map qM)))
theorem Rj (hc:X.calm=true):Aek X (.type "list") (PR X.K):=Aqk.or (Pv hc)
theorem WX : ∀ {cs:List Nat},(∀ c∈cs,cQ (.str ⟨#[c]⟩)=true)->Aas K H (cs.map fun c=>.str ⟨#[c]⟩) (cs.map qM)
 | [],_=>Aao.mpr rfl
 | c::r,h=>Aah.mpr ⟨_,_,rfl,Aa7.mpr ⟨rfl,h c bO⟩,WX fun c' m=>h c' (bT _ m)⟩
theorem Pp:CallD K 1 (PR K) sR:=fun P H xs ds d Q hP r e k=>by
 unfold sR at e
 split at e
 ·cases e
  obtain⟨v,rfl,r'⟩:=hZ r
  replace r:=r'
  obtain⟨q,ys,rfl,hq,rr⟩:=Abk.mp r
  exact .inl ⟨q,ys,rfl,.inl (Aau.sqL hq),fun l hl=>k.lst hP hl rr⟩
 ·cases e
  obtain⟨v,rfl,r'⟩:=hZ r
  replace r:=r'
  obtain⟨q,ys,rfl,hq,rr⟩:=Aar.mp r
  exact .inl ⟨q,ys,rfl,.inr (SqT.of (Aau _ _ hq)),fun l hl=>k.lst hP hl rr⟩
 ·obtain⟨hz,rfl⟩:=cN e
  obtain⟨v,rfl,r'⟩:=hZ r
  replace r:=r'
  refine .inr ⟨_,by rw[(Aa7.mp r).1],hz,fun l hl=>k.lst hP hl (WX fun c m=>?_)⟩
  obtain⟨j,hj⟩:=Cc.mp m
  exact JG (Aa7.mp r).2 hj
 ·cases e
def HC:List aA->Option aA
 | [.int i]=>some (.int i)
 | [.bool b]=>some (.int (if b then 1 else 0))
 | _=>none
def sP:List aA->Option (List Bool)
 | []=>some []
 | .bool b::r=>(sP r).bind fun bs=>some (b::bs)
 | _::_=>none
def yC:List aA->Option aA
 | [.list ds]=>(sP ds).bind fun bs=>some (.bool (bs.all id))
 | _=>none
theorem TU : ∀ {ds:List aA} {xs:List V} {bs:List Bool},sP ds=some bs->Aas K H ds xs->xs=bs.map V.bl
 | [],xs,bs,e,r=>by
  cases e
  rw[Aao.mp r]; rfl
 | .bool b::ds,xs,bs,e,r=>by
  obtain⟨bs',e1,e2⟩:=XBs (show((sP ds).bind fun bs=>some (b::bs))=some bs from e)
  cases e2
  obtain⟨v,t,rfl,h1,h2⟩:=Aah.mp r
  rw[Aay.mp h1,TU e1 h2]; rfl
 | .none::_,_,_,e,_=>by cases e
 | .int _::_,_,_,e,_=>by cases e
 | .str _::_,_,_,e,_=>by cases e
 | .list _::_,_,_,e,_=>by cases e
 | .tuple _::_,_,_,e,_=>by cases e
 | .dict _::_,_,_,e,_=>by cases e
theorem Xw:CallD K 0 (fun xs H Q=>∃ p ys,xs=[.ref p]/\SqL K H p ys/\(∀ y∈ys,∃ b,y = .bl b)/\Q (.bl (allB ys)) H) yC:=fun P H xs ds d Q hP r e k=>by
 unfold yC at e
 split at e
 ·obtain⟨bs,e1,e2⟩:=XBs e
  cases e2
  obtain⟨v,rfl,r'⟩:=hZ r
  replace r:=r'
  obtain⟨q,ys,rfl,hq,rr⟩:=Abk.mp r
  obtain rfl:=TU e1 rr
  refine⟨q,_,rfl,Aau.sqL hq,fun y m=>?_,k.zero Ext.refl (Aay.mpr ?_)⟩
  ·obtain⟨b,_,rfl⟩:=dC.mp m
   exact⟨b,rfl⟩
  ·unfold allB
   rw[List.all_map]
   congr 2
   funext b
   cases b <;> rfl
 ·cases e
def cutD (ds:List aA)(lo hi:Option Int):List aA:=(ds.drop (HT.sIx ds.length 0 lo)).take (HT.sIx ds.length ds.length hi - HT.sIx ds.length 0 lo)
abbrev OF:=List (Option aA)->Option (Option Int)
def tOF (K:aK)(f:OF):TO:=fun σ H Q=>∃ P ρ o,Hid P H/\Ana K (hid H P) ρ σ/\f ρ=some o /\ ∀ H',Ext H H'->Q o H'
abbrev DO (X:Cx)(e:Option aS)(f:OF):Prop:=PO X e (tOF X.K f)
def oN:OF:=fun _=>some none
def oS (f:EF):OF:=fun ρ=>(f ρ).bind fun d=>match d with
 | .int i=>some (some i)
 | _=>none
theorem PO.imp {o:Option aS}{t t':TO}(h:PO X o t)(w : ∀ σ H Q,t' σ H Q->t σ H Q):PO X o t':=fun pins s σ H Q I q=>h pins s σ H Q I (w _ _ _ q)
theorem vZ:DO X none oN:=PO.imp Nj fun σ H Q gh=>by
 obtain⟨P,ρ,o,hP,rs,ef,k⟩:=gh
 cases ef
 exact k H Ext.refl
theorem vU (h:DE X e f):DO X (some e) (oS f):=PO.imp (Km h) fun σ H Q gh=>by
 obtain⟨P,ρ,o,hP,rs,ef,k⟩:=gh
 obtain⟨d,e1,ef⟩:=XBs ef
 refine⟨P,ρ,d,hP,rs,e1,dU fun v H1 x1 r1=>?_⟩
 cases d with
 | int i=>cases ef; exact⟨i,Aan.mp r1,k H1 x1⟩
 | _=>cases ef
theorem yT {α:Type}{c:Prop}[Decidable c]{x:Option α}{y:α}(h:(if c then x else none)=some y):c/\x=some y:=by
 by_cases e:c
 ·rw[if_pos e] at h; exact⟨e,h⟩
 ·rw[if_neg e] at h; cases h
def EY:aA->aA->aA->Option aA
 | .dict kds,k,x=>if plK kds=true then(bP k).bind fun k=>some ((bW kds k).getD x) else none
 | _,_,_=>none
def kB (fd fk fx:EF):EF:=fun ρ=>(fd ρ).bind fun d=>(fk ρ).bind fun k=>(fx ρ).bind fun x=>EY d k x
theorem DD {o k z:aS}{fd fk fx:EF}(hu:X.A.units+40<cLine)(ho:DE X o fd)(hk:DE X k fk)(hz:DE X z fx)(m:M2 X o "get" apos k z cpos:=by exact⟨rfl,rfl,rfl,rfl⟩):DE X (.Call (.Attribute o "get" apos) [k,z] [] cpos) (kB fd fk fx):=
 PE.imp (TB hu ho hk hz m) fun σ H Q gh=>by
  obtain⟨P,ρ,d,hP,rs,ef,kk⟩:=gh
  obtain⟨d1,e1,ef2⟩:=XBs ef
  obtain⟨d2,e2,ef3⟩:=XBs ef2
  obtain⟨d3,e3,ef4⟩:=XBs ef3
  clear ef ef2 ef3
  cases d1 with
  | dict kds=>
   obtain⟨pk,ef5⟩:=yT (show(if plK kds=true then(bP d2).bind fun k=>some ((bW kds k).getD d3) else none)=some d from ef4)
   obtain⟨key,h1,h2⟩:=XBs ef5
   cases h2
   refine⟨P,ρ,_,hP,rs,e1,dU fun v H1 x1 r1=>?_⟩
   obtain⟨q,kvs,rfl,hq,rr⟩:=(rA pk).mp r1
   refine⟨q,rfl,.inl ⟨kvs.1,kvs.2,.inl (Aau _ _ hq)⟩,P,ρ,d2,hP.ext x1,rs.ext (cT x1),e2,dU fun u H2 x2 r2=>⟨P,ρ,d3,hP.ext (x1.trans x2),rs.ext (cT (x1.trans x2)),e3,dU fun w H3 x3 r3=>?_⟩⟩
   refine⟨eG kvs.2 key,.inl ⟨kvs.1,kvs.2,key,.inl (x3 _ _ (x2 _ _ (Aau _ _ hq))),kG h1 r2,rfl⟩,kk.zero ((x1.trans x2).trans x3) ?_⟩
   rcases tZ (k:=key) (rr.ext (cT (x2.trans x3))) with⟨n1,n2⟩ | ⟨d',v',s1,s2,rd⟩
   ·rw[n1,n2]; exact r3
   ·rw[s1,s2]; exact rd
  | _=>cases ef4
theorem Res.dic{ep:Nat}{kvs:List (aI×V)}{q:aD}(hP:Hid P H)(h:Res K P 1 (.dict kds) H Q)(n:H q=none)(r:Ab4 K (hid H P) kds kvs):Q (.ref q) (upd H q (.dK ep kvs)):=by
 refine h (.ref q) _ [q] (Ext.new n) (jW.mpr ⟨by simp,.nil⟩) (fun a m=>?_) ⟨q,(ep,kvs),kvs.map fun _=>[],rfl,eO,?_,?_⟩
 ·have:a=q:=by simpa using m
  subst this
  exact⟨n,_,eO⟩
 ·have : ∀ l:List (aI×V),(l.map fun _=>([]:List aD)).flatten=[]:=fun l=>by
   induction l with
   | nil=>rfl
   | cons a l ih=>rw[dH,nU,ih]; rfl
  rw[this]
 ·have xe:Ext (hid H P) (hid (upd H q (.dK ep kvs)) (orL P [q])):=fun b o e=>by
   obtain⟨nb,e⟩:=Acy.mp e
   have hb:b≠q:=jT e n
   exact gJ (fun z=>z.elim nb fun m=>hb (by simpa using m)) (by rw[cP hb]; exact e)
  generalize hid (upd H q (.dK ep kvs)) (orL P [q])=B at xe
  generalize upd H q (.dK ep kvs)=H1
  clear h
  have go : ∀ (ds:List (aA×aA)) (xs:List (aI×V)),Ab4 K (hid H P) ds xs->All3 (fun(kd:aA×aA) (kv:aI×V) f=>kd.1=kD kv.1/\Afz K B H1 0 kd.2 kv.2 f) ds xs (xs.map fun _=>[]):=by
   intro ds
   induction ds with
   | nil=>intro xs r; rw[Acf.mp r]; exact .nil
   | cons d ds ih=>
    intro xs r
    obtain⟨k',y,t,rfl,ek,h1,h2⟩:=Abh.mp (show Ab4 K (hid H P) ((d.1,d.2)::ds) xs from r)
    exact .cons ⟨ek,rfl,h1.ext xe⟩ (ih t h2)
  exact go kds kvs r
theorem vX:DF 1 X (.Dict [] [] pos) (eC (.dict [])):=PE.imp RY fun σ H Q gh=>by
 obtain⟨P,ρ,d,hP,rs,ef,k⟩:=gh
 cases ef
 exact fun q hq=>k.dic hP hq (Acf.mpr rfl)
def FI:List aA->Option aA
 | [.dict kds]=>if plK kds=true then some (.dict kds) else none
 | _=>none
theorem WV:Aek X (.type "dict") (fun xs H Q=>∃ a ep kvs,xs=[.ref a]/\H a=some (.dK ep kvs) /\ ∀ p n,H p=none->Q (.ref p) (upd H p (.dK n kvs))):=by
 intro pins s σ H xs us Q I r h
 obtain⟨a,ep,kvs,rfl,ha,q⟩:=h
 obtain⟨u,rfl,ru⟩:=vals1 r
 cases ru
 exact Vx I (.inl ha) fun p n s' hp I'=>⟨.ref p,_,I',rfl,q p n hp⟩
theorem WS:CallD K 1 (fun xs H Q=>∃ a ep kvs,xs=[.ref a]/\H a=some (.dK ep kvs) /\ ∀ p n,H p=none->Q (.ref p) (upd H p (.dK n kvs))) FI:=fun P H xs ds d Q hP r e k=>by
 unfold FI at e
 split at e
 ·obtain⟨pk,rfl⟩:=cN e
  obtain⟨v,rfl,r'⟩:=hZ r
  replace r:=r'
  obtain⟨q,ys,rfl,hq,rr⟩:=(rA pk).mp r
  exact⟨q,ys.1,ys.2,rfl,Aau _ _ hq,fun l n hl=>k.dic hP hl rr⟩
 ·cases e
end
section
variable {ρ:aX}
theorem KQ : ∀ {ds:List aA} {xs:List V} {Fs:List (List aD)},All3 (Afn K B H 0) ds xs Fs->Aas K B ds xs/\Fs.flatten=[]:=by
 intro ds xs Fs h
 induction h with
 | nil=>exact⟨Aao.mpr rfl,rfl⟩
 | cons h t ih=>
  obtain⟨rfl,r⟩:=h
  exact⟨Aah.mpr ⟨_,_,rfl,r,ih.1⟩,by rw[nU,ih.2]; rfl⟩
theorem Pe : ∀ {ds:List (aA×aA)} {xs:List (aI×V)} {Fs:List (List aD)},All3 (fun(kd:aA×aA) (kv:aI×V) f=>kd.1=kD kv.1/\Afn K B H 0 kd.2 kv.2 f) ds xs Fs->Ab4 K B ds xs/\Fs.flatten=[]:=by
 intro ds xs Fs h
 induction h with
 | nil=>exact⟨Acf.mpr rfl,rfl⟩
 | @cons p q F ds xs Fs h t ih=>
  obtain⟨k,d⟩:=p
  obtain⟨k',v⟩:=q
  obtain⟨ek,rfl,r⟩:=h
  exact⟨Abh.mpr ⟨_,_,_,rfl,ek,r,ih.1⟩,by rw[nU,ih.2]; rfl⟩
theorem EC : ∀ {ds:List aA} {xs:List V},Aas K B ds xs->All3 (Afn K B H1 0) ds xs (xs.map fun _=>[])/\(xs.map fun _=>([]:List aD)).flatten=[]
 | [],xs,r=>by rw[Aao.mp r]; exact⟨.nil,rfl⟩
 | d::ds,xs,r=>by
  obtain⟨y,t,rfl,h1,h2⟩:=Aah.mp r
  obtain⟨q1,q2⟩:=EC h2
  exact⟨.cons ⟨rfl,h1⟩ q1,by rw[dH,nU,q2]; rfl⟩
theorem WT : ∀ {ds:List (aA×aA)} {xs:List (aI×V)},Ab4 K B ds xs->All3 (fun(kd:aA×aA) (kv:aI×V) f=>kd.1=kD kv.1/\Afn K B H1 0 kd.2 kv.2 f) ds xs (xs.map fun _=>[])/\(xs.map fun _=>([]:List aD)).flatten=[]
 | [],xs,r=>by rw[Acf.mp r]; exact⟨.nil,rfl⟩
 | (k,d)::ds,xs,r=>by
  obtain⟨k',y,t,rfl,ek,h1,h2⟩:=Abh.mp r
  obtain⟨q1,q2⟩:=WT h2
  exact⟨.cons ⟨ek,rfl,h1⟩ q1,by rw[dH,nU,q2]; rfl⟩
theorem Sta.write {p:aD}{d':aA}(S:Sta K H0 P0 B0 ρ σ H fp)(hi:i<ρ.length)(hv:σ[i]?=some (some (.ref p)))(hp:p∈fp i)(ho:(∃ xs,o = .lst xs) \/ ∃ q:DQ,o=dO q)
  (new:Afz K (L2.hid H (Hd P0 fp)) (upd H p o) 1 d' (.ref p) (fp i)):Sta K H0 P0 B0 (ρ.set i (some (1,d'))) σ (upd H p o) fp:=by
 have hb:L2.hid (upd H p o) (Hd P0 fp)=L2.hid H (Hd P0 fp):=by
  funext b
  unfold L2.hid
  by_cases q:Hd P0 fp b
  ·rw[if_pos q,if_pos q]
  ·rw[if_neg q,if_neg q]
   exact cP fun z=>q (.inr ⟨i,by rw[z]; exact hp⟩)
 refine⟨by simp[S.len],S.nd,S.dj,fun j a m=>⟨(S.own j a m).1,?_⟩,fun b u e=>?_,S.hd,by rw[hb]; exact S.base,fun j n d e=>?_⟩
 ·by_cases q:a=p
  ·subst q
   rcases ho with⟨xs,rfl⟩ | ⟨xs,rfl⟩
   ·exact .inl ⟨xs,eO⟩
   ·exact .inr ⟨xs,eO⟩
  ·rw[cP q]; exact(S.own j a m).2
 ·rw[cP (jT e (S.own i p hp).1)]; exact S.ext b u e
 ·by_cases q:j=i
  ·subst q
   rw[nR hi] at e
   cases e
   exact⟨_,hv,by rw[hb]; exact new⟩
  ·rw[lW (fun z=>q z.symm)] at e
   obtain⟨v,h1,h2⟩:=S.slot j n d e
   refine⟨v,h1,?_⟩
   rw[hb]
   exact h2.keep Ext.refl fun a m=>cP fun z=>q (S.dj j i a m (by rw[z]; exact hp))
theorem Sta.lst1(S:Sta K H0 P0 B0 ρ σ H fp)(e:ρ[i]?=some (some (1,.list ds))) : ∃ p xs,σ[i]?=some (some (.ref p))/\H p=some (.lst xs)/\Aas K (L2.hid H (Hd P0 fp)) ds xs /\
  ∀ ds' xs',Aas K (L2.hid H (Hd P0 fp)) ds' xs'->Sta K H0 P0 B0 (ρ.set i (some (1,.list ds'))) σ (upd H p (.lst xs')) fp:=by
 obtain⟨v,h1,h2⟩:=S.slot i 1 _ e
 obtain⟨p,xs,Fs,rfl,hp,hF,h3⟩:=h2
 obtain⟨r,hn⟩:=KQ h3
 rw[hn] at hF
 refine⟨p,xs,h1,hp,r,fun ds' xs' r'=>S.write (dD.mp e).1 h1 (by rw[hF]; exact bO) (.inl ⟨_,rfl⟩) ?_⟩
 obtain⟨q1,q2⟩:=EC (H1:=upd H p (.lst xs')) r'
 exact⟨p,xs',_,rfl,eO,by rw[hF,q2],q1⟩
theorem Sta.dic1 {ds:List (aA×aA)}(S:Sta K H0 P0 B0 ρ σ H fp)(e:ρ[i]?=some (some (1,.dict ds))) : ∃ p ep xs,σ[i]?=some (some (.ref p))/\H p=some (.dK ep xs)/\Ab4 K (L2.hid H (Hd P0 fp)) ds xs /\
  ∀ n ds' xs',Ab4 K (L2.hid H (Hd P0 fp)) ds' xs'->Sta K H0 P0 B0 (ρ.set i (some (1,.dict ds'))) σ (upd H p (.dK n xs')) fp:=by
 obtain⟨v,h1,h2⟩:=S.slot i 1 _ e
 obtain⟨p,xs,Fs,rfl,hp,hF,h3⟩:=h2
 obtain⟨r,hn⟩:=Pe h3
 rw[hn] at hF
 refine⟨p,xs.1,xs.2,h1,hp,r,fun n ds' xs' r'=>S.write (dD.mp e).1 h1 (by rw[hF]; exact bO) (.inr ⟨.inl (n,xs'),rfl⟩) ?_⟩
 obtain⟨q1,q2⟩:=WT (H1:=upd H p (.dK n xs')) r'
 exact⟨p,(n,xs'),_,rfl,eO,by rw[hF,q2],q1⟩
end
def getL (i:Nat)(ρ:aX):Option (List aA):=match ρ[i]? with
 | some (some (1,.list ds))=>some ds
 | _=>none
def nL (i:Nat)(ρ:aX):Option (List (aA×aA)):=match ρ[i]? with
 | some (some (1,.dict ds))=>some ds
 | _=>none
theorem rC{ρ:aX}(h:getL i ρ=some ds):ρ[i]?=some (some (1,.list ds)):=by
 unfold getL at h
 split at h
 ·rename_i e; cases h; exact e
 ·cases h
theorem wN{ρ:aX}{ds:List (aA×aA)}(h:nL i ρ=some ds):ρ[i]?=some (some (1,.dict ds)):=by
 unfold nL at h
 split at h
 ·rename_i e; cases h; exact e
 ·cases h
section
variable {k o:aS}{f g:EF}{apos cpos:bR}
def iJ (i:Nat)(m:Md)(f:EF):SF:=fun ρ=>(eV 0 m f ρ).bind fun d=>(getL i ρ).bind fun ds=>if ds.length<sizeLine then some (.nx (ρ.set i (some (1,.list (ds++[d]))))) else none
theorem wL (i:Nat)(m:Md)(he:DE X e f)(hN:X.N[i]?=some x:=by rfl)(hv:hJ X.env.scope x:=by first | exact aP rfl | exact aQ (aP rfl) | exact aQ (aQ rfl))(hd:(x == ("__debug__" : aC))=false:=by decide)
  (hcd:(x == ("__classdict__" : aC))=false:=by decide) (hbase:lT (.Name x px) "append" X.env (bM (.Name x px) X.env)=bM (.Name x px) X.env:=by rfl)
  (hfew:((eW cpos (bK (e::[]) X.env)).all (fun x=>!x.1)&&(pX cpos (pS [] X.env)).all (fun x=>x.1.isSome)
   && decide ((e::[]).length+([]:List iG).length+(if ([]:List iG).isEmpty then 0 else 1)<30))=true:=by rfl)
  (hline:(apos.endLine == cpos.line)=true:=by rfl) (hs:bK (e::[]) X.env=(false,bM e X.env)::bK [] X.env:=by rfl) (hplain:(eW cpos (bK [] X.env)).any (·.1)=false:=by rfl)
  (hsw:jU (.Call (.Attribute (.Name x px) "append" apos) [e] [] cpos) none pos.line X.env=pure false:=by rfl):DS X H0 P0 n0 (.Expr (.Call (.Attribute (.Name x px) "append" apos) [e] [] cpos) pos) (iJ i m f):=
 PS.imp (yS (qK FS Yu Ys KM (jC hN hv hd hcd) (iR (ev (H0:=H0) (P0:=P0) m he) lJ hs) hbase hfew hline hs hplain) hsw) fun D σ H gh=>by
  obtain⟨B0,ρ,fp,o,S,ef,k⟩:=gh
  obtain⟨d,e1,ef2⟩:=XBs ef
  obtain⟨ds,e2,ef3⟩:=XBs ef2
  obtain⟨hl,rfl⟩:=cN ef3
  obtain⟨p,xs,h1,h2,_,_⟩:=S.lst1 (rC e2)
  refine⟨.ref p,h1,.inl ⟨rfl,xs,SqL.of h2⟩,B0,ρ,fp,d,S,e1,fun v H2 gh=>?_⟩
  obtain⟨fp2,S2,r2⟩:=gh
  obtain⟨p2,xs2,q1,q2,q3,q4⟩:=S2.lst1 (rC e2)
  have:p2=p:=by rw[h1] at q1; cases q1; rfl
  subst this
  exact⟨p2,xs2,v,rfl,rfl,q2,by rw[q3.length]; exact hl,k _ _ fp2 (q4 _ _ (q3.snoc r2.2))⟩
def GZ (i:Nat):SF:=fun ρ=>(getL i ρ).bind fun ds=>some (.nx (ρ.set i (some (1,.list []))))
def oA (i:Nat)(m:Md)(f:EF)(mk:Md)(g:EF):SF:=fun ρ=>(eV 0 m f ρ).bind fun d=>(getL i ρ).bind fun ds=>(eV 0 mk g ρ).bind fun k=>match k with
 | .int j=>(ixN ds.length j).bind fun j=>some (.nx (ρ.set i (some (1,.list (ds.set j d)))))
 | _=>none
theorem pE{m:Md}{ρ:aX}(S:Sta K H0 P0 B0 ρ σ H fp)(e:eV 0 m g ρ=some d)(hd:dB d=true)(k : ∀ v H',Ext H H'->Abq K (hid H' (Hd P0 fp)) d v->Q v H'):tF K 0 g σ H Q:=by
 cases m with
 | s=>exact⟨Hd P0 fp,vS ρ,d,S.hid,S.viewS,e,dU k⟩
 | a=>
  obtain⟨d',ed,ef⟩:=XBs e
  obtain⟨fl,rfl⟩:=cN ef
  refine⟨P0,vA ρ,d',S.hd.ext S.ext,S.viewA,ed,dU fun v H' x r=>k v H' x (r.flat (fun a xs e=>?_) _ hd)⟩
  obtain⟨na,e⟩:=Acy.mp e
  refine gJ (fun q=>?_) e
  rcases q with q | ⟨j,q⟩
  ·exact na q
  ·rcases((S.grow x).own j a q).2 with⟨ys,e2⟩ | ⟨ys,e2⟩ <;> rw[e] at e2 <;> first | cases e2 | (cases ys <;> simp[dO] at e2)
theorem ZT (i:Nat)(m mk:Md)(he:DE X e f)(hk:DE X k g)(hN:X.N[i]?=some x:=by rfl)(hv:hJ X.env.scope x:=by first | exact aP rfl | exact aQ (aP rfl) | exact aQ (aQ rfl))(hd:(x == ("__debug__" : aC))=false:=by decide)
  (hcd:(x == ("__classdict__" : aC))=false:=by decide)
  (ha : ∀ v,kM (.Subscript (.Name x px) k apos) X.env v=(do
   let ov ← pT [v] (bM (.Name x px) X.env)
   let iv ← pT [v,ov] (bM k X.env)
   standAt apos
   pT [v,ov,iv] (setItem ov iv v)
   release [v,ov,iv] []):=by intro _; rfl)
  (hs:swapsWithSole [.Subscript (.Name x px) k apos] e pos.line X.env=pure false:=by rfl) (hw:swappedStores [.Subscript (.Name x px) k apos] e X.env=pure none:=by rfl)
  (h1:(iU [.Subscript (.Name x px) k apos] X.env).map (·.2)=[kM (.Subscript (.Name x px) k apos) X.env]:=by rfl):DS X H0 P0 n0 (.Assign [.Subscript (.Name x px) k apos] e pos) (oA i m f mk g):=
 PS.imp (Hj (ev (H0:=H0) (P0:=P0) m he) (Iv (jC hN hv hd hcd) hk set_list ha) hs hw h1) fun D σ H gh=>by
  obtain⟨B0,ρ,fp,o,S,ef,kk⟩:=gh
  obtain⟨d,e1,ef2⟩:=XBs ef
  obtain⟨ds,e2,ef3⟩:=XBs ef2
  obtain⟨kd,e3,ef4⟩:=XBs ef3
  clear ef ef2 ef3
  cases kd with
  | int j=>
   obtain⟨jn,e5,ef5⟩:=XBs (show((ixN ds.length j).bind fun j=>some (Out.nx (ρ.set i (some (1,.list (ds.set j d))))))=some o from ef4)
   cases ef5
   refine⟨B0,ρ,fp,d,S,e1,fun v H2 gh=>?_⟩
   obtain⟨fp2,S2,r2⟩:=gh
   obtain⟨p,xs,h1,h2,_,_⟩:=S2.lst1 (rC e2)
   refine⟨.ref p,h1,pE S2 e3 (by simp[dB]) fun u H3 x3 r3=>?_⟩
   have S3:=S2.grow x3
   obtain⟨p3,xs3,q1,q2,q3,q4⟩:=S3.lst1 (rC e2)
   have:p3=p:=by rw[h1] at q1; cases q1; rfl
   subst this
   exact⟨p3,xs3,j,jn,rfl,Aan.mp r3,q2,by rw[q3.length]; exact e5,kk _ _ fp2 (q4 _ _ (q3.set (r2.2.ext (cT x3)) jn))⟩
  | _=>cases ef4
def qP (i:Nat)(m:Md)(f:EF)(mk:Md)(g:EF):SF:=fun ρ=>(eV 0 m f ρ).bind fun d=>(nL i ρ).bind fun kds=>(eV 0 mk g ρ).bind fun k=>(bP k).bind fun k=>if kds.length<sizeLine then some (.nx (ρ.set i (some (1,.dict (putD kds k d))))) else none
theorem RB (i:Nat)(m mk:Md)(hu:X.A.units+40<cLine)(he:DE X e f)(hk:DE X k g)(hN:X.N[i]?=some x:=by rfl)(hv:hJ X.env.scope x:=by first | exact aP rfl | exact aQ (aP rfl) | exact aQ (aQ rfl))(hd:(x == ("__debug__" : aC))=false:=by decide)
  (hcd:(x == ("__classdict__" : aC))=false:=by decide) (hs:jU e (some (.Subscript (.Name x px) k apos)) pos.line X.env=pure false:=by rfl):DS X H0 P0 n0 (.Assign [.Subscript (.Name x px) k apos] e pos) (qP i m f mk g):=
 PS.imp (CK hu (jC hN hv hd hcd) hk (ev (H0:=H0) (P0:=P0) m he) hs) fun D σ H gh=>by
  obtain⟨B0,ρ,fp,o,S,ef,kk⟩:=gh
  obtain⟨d,e1,ef2⟩:=XBs ef
  obtain⟨kds,e2,ef3⟩:=XBs ef2
  obtain⟨kd,e3,ef4⟩:=XBs ef3
  obtain⟨key,e4,ef5⟩:=XBs ef4
  obtain⟨hl,rfl⟩:=cN ef5
  clear ef ef2 ef3 ef4
  refine⟨B0,ρ,fp,d,S,e1,fun v H2 gh=>?_⟩
  obtain⟨fp2,S2,r2⟩:=gh
  obtain⟨p,ep,xs,h1,h2,_,_⟩:=S2.dic1 (wN e2)
  have hf:dB kd=true:=by rw[uA e4]; cases key <;> simp[kD,dB]
  refine⟨.ref p,h1,pE S2 e3 hf fun u H3 x3 r3=>?_⟩
  have S3:=S2.grow x3
  obtain⟨p3,ep3,xs3,q1,q2,q3,q4⟩:=S3.dic1 (wN e2)
  have:p3=p:=by rw[h1] at q1; cases q1; rfl
  subst this
  refine⟨p3,_,rfl,.inl ⟨ep3,xs3,key,q2,kG e4 r3,by rw[q3.length]; exact hl,rfl⟩,fun n=>kk _ _ fp2 (q4 n _ _ (CJ q3 (r2.2.ext (cT x3))))⟩
end
section
variable {a:aS}{fa fb fc:EF}
def HB:aA->aA->Option aA
 | .list xs,.list ys=>if xs.length+ys.length≤sizeLine then some (.list (xs++ys)) else none
 | _,_=>none
theorem Lq:OpR X (kK .Add) (fun x y H Q=>∃ l b xs zs,x = .ref l/\y = .ref b/\SqL X.K H l xs/\SqL X.K H b zs/\xs.length+zs.length≤sizeLine /\ ∀ p,H p=none->Q (.ref p) (upd H p (.lst (xs++zs)))):=by
 intro pins s σ H x y v u Q I rx ry h
 obtain⟨l,b,xs,zs,rfl,rfl,hH,hB,hz,q⟩:=h
 cases rx
 cases ry
 obtain⟨its,r,p1,z1⟩:=I.list hH
 obtain⟨its2,r2,p2,z2⟩:=I.list hB
 have l1:=r.length
 have l2:=r2.length
 obtain⟨⟨cls,dd,data,sl⟩,ho,hc,n,hd⟩:=p1.isList
 obtain⟨⟨cls2,dd2,data2,sl2⟩,ho2,hc2,n2,hd2⟩:=p2.isList
 simp only at hc hd hc2 hd2
 subst hc hd hc2 hd2
 refine NH ⟨_,ho,rfl⟩ ⟨_,ho2,rfl⟩ noFill_list_add seq_list_add PySem.F.slot_list_add PySem.F.entry_list_add (PySem.F.args_list_add_2 _ _) (list_addW l b its.toArray its2.toArray n n2 dd dd2 sl sl2 (by simp only[eB]; omega)) ⟨ho,ho2,?_⟩
 have ea:its.toArray++its2.toArray=(its++its2).toArray:=by simp
 rw[ea]
 exact⟨.ref _,_,I.lnew (t':=s.toks) (r.append r2) (by rw[qF]; omega),rfl,q _ I.fresh⟩
theorem Jm (ha:DE X a fa)(hb:DE X b fb):DF 1 X (.BinOp a .Add b pos) (eOp HB fa fb):=pC Lq (fun P H x y a b d Q hP ra rb e k=>by
 unfold HB at e
 split at e
 ·obtain⟨hz,rfl⟩:=cN e
  obtain⟨p,xs,rfl,hp,r1⟩:=Abk.mp ra
  obtain⟨q,ys,rfl,hq,r2⟩:=Abk.mp rb
  exact⟨p,q,xs,ys,rfl,rfl,Aau.sqL hp,Aau.sqL hq,by rw[r1.length,r2.length]; exact hz,fun l hl=>k.lst hP hl (r1.append r2)⟩
 ·cases e) ha hb
end
variable {a:aS}{f fa fb:EF}
def iX (x:aC)(lo hi:Option Int):aC:=
 if (GJ lo hi 1 x.length).length == x.length then x else⟨((GJ lo hi 1 x.length).filterMap (x.cps[·]?)).toArray⟩
theorem UI (x:aC)(lo hi:Option Int):(iX x lo hi).length≤x.length:=by
 unfold iX
 split
 ·exact bI _
 ·refine dS ?_ (sliceIndices_le lo hi x.length)
  exact FZ _ _
theorem UD(lo hi:Option Int)(h:cQ (.str x)=true):cQ (.str (iX x lo hi))=true:=by
 unfold iX
 split
 ·exact h
 ·simp only[cQ,NL] at h ⊢
  rw[List.all_toArray,fH]
  intro c m
  obtain⟨i,_,e⟩:=xP.mp m
  exact Array.all_eq_true_iff_forall_mem.mp h c (Array.mem_of_getElem? e)
def vI:aE->Option (Int×Tok)
 | .int i t=>some (i,t)
 | _=>none
theorem VX {v:aE}{o:Option Int}(h:oX v o):partValue (vI v)=v/\(vI v).map (·.1)=o:=by
 cases h with
 | none=>exact⟨rfl,rfl⟩
 | int i t=>exact⟨rfl,rfl⟩
def Dk:V->Option Int->Option Int->Hp->VK->Prop:=fun x lo hi H Q=>∃ z,x = .str z/\z.length≤sizeLine/\Q (.str (iX z lo hi)) H
theorem Be3:SlR X Dk:=by
 intro pins s σ H x v vl vu lo hi sl Q I rx hs pl pu h
 obtain⟨z,rfl,hz,q⟩:=h
 obtain⟨t,rfl⟩:=rx
 obtain⟨e1,m1⟩:=VX pl
 obtain⟨e2,m2⟩:=VX pu
 refine⟨"str",_,PySem.F.slot_str_getitem.lookup,typeIs_str s z t,?_⟩
 have hs':s.heap.IsSlice sl (vI vl) (vI vu) none:=by
  obtain⟨o,h1,h2,h3⟩:=hs
  exact⟨o,h1,h2,by rw[e1,e2]; exact h3⟩
 refine wpAny_getItem_str_slice hs' rfl ?_
 have es:slicePicked z (vI vl) (vI vu) none=GJ lo hi 1 z.length:=by
  unfold slicePicked
  rw[m1,m2]
  rfl
 unfold sliceMade
 rw[es]
 unfold iX at q
 by_cases hc:(GJ lo hi 1 z.length).length == z.length
 ·rw[if_pos hc] at q
  rw[if_pos (by rw[hc]; rfl)]
  exact⟨.str z,H,I,⟨t,rfl⟩,q⟩
 ·rw[if_neg hc] at q
  rw[if_neg (by simpa using hc)]
  refine⟨?_,⟨.str ⟨((GJ lo hi 1 z.length).filterMap (z.cps[·]?)).toArray⟩,H,I.tok _,⟨_,rfl⟩,q⟩⟩
  have:=UI z lo hi
  unfold iX at this
  rw[if_neg hc] at this
  exact dS this hz
def eSl (f:EF)(lo hi:OF):EF:=fun ρ=>(f ρ).bind fun d=>(lo ρ).bind fun l=>(hi ρ).bind fun h=>match d with
 | .str z=>if z.length≤sizeLine then some (.str (iX z l h)) else none
 | .tuple ds=>if HT.sIx ds.length 0 l=0/\HT.sIx ds.length ds.length h=ds.length then none else some (.tuple (cutD ds l h))
 | _=>none
theorem HL {lo hi:Option aS}{fl fh:OF}{pp:bR}(he:DE X e f)(hl:DO X lo fl)(hh:DO X hi fh):DE X (.Subscript e (.Slice lo hi none pp) pos) (eSl f fl fh):=PE.imp (TY (Be3.or ZK) he hl hh) fun σ H Q gh=>by
 obtain⟨P,ρ,d,hP,rs,ef,k⟩:=gh
 obtain⟨d1,e1,ef2⟩:=XBs ef
 obtain⟨l,e2,ef3⟩:=XBs ef2
 obtain⟨h,e3,ef4⟩:=XBs ef3
 clear ef ef2 ef3
 cases d1 with
 | str z=>
  obtain⟨hc,rfl⟩:=cN ef4
  refine⟨P,ρ,_,hP,rs,e1,dU fun v H1 x1 r1=>⟨P,ρ,l,hP.ext x1,rs.ext (cT x1),e2,fun H2 x2=>⟨P,ρ,h,hP.ext (x1.trans x2),rs.ext (cT (x1.trans x2)),e3,fun H3 x3=>?_⟩⟩⟩
  refine .inl ⟨z,(Aa7.mp r1).1,hc,(k.mono ((x1.trans x2).trans x3)).zero Ext.refl (Aa7.mpr ⟨rfl,UD _ _ (Aa7.mp r1).2⟩)⟩
 | tuple ds=>
  by_cases hw:HT.sIx ds.length 0 l=0/\HT.sIx ds.length ds.length h=ds.length
  ·have ef5:(if HT.sIx ds.length 0 l=0/\HT.sIx ds.length ds.length h=ds.length then none else some (dZ (cutD ds l h)))=some d:=ef4
   rw[if_pos hw] at ef5; cases ef5
  have ef5:(if HT.sIx ds.length 0 l=0/\HT.sIx ds.length ds.length h=ds.length then none else some (dZ (cutD ds l h)))=some d:=ef4
  rw[if_neg hw] at ef5
  cases ef5
  refine⟨P,ρ,_,hP,rs,e1,dU fun v H1 x1 r1=>⟨P,ρ,l,hP.ext x1,rs.ext (cT x1),e2,fun H2 x2=>⟨P,ρ,h,hP.ext (x1.trans x2),rs.ext (cT (x1.trans x2)),e3,fun H3 x3=>?_⟩⟩⟩
  obtain⟨q,ys,rfl,hq,rr⟩:=Aar.mp (r1.ext (cT (x2.trans x3)))
  refine .inr ⟨q,ys,rfl,SqT.of (Aau _ _ hq),by rw[rr.length]; exact hw,fun p hp=>(k.mono ((x1.trans x2).trans x3)).tup (hP.ext ((x1.trans x2).trans x3)) hp ?_⟩
  unfold uS cutD
  rw[rr.length]
  exact(rr.drop _).take _
 | _=>cases ef4
def QE (K:aK):R2:=fun x y H Q=>∃ a b ys,x = .ref a/\y = .ref b/\SqT K H a []/\SqT K H b ys/\Q (.ref b) H
theorem Ku:OpR X (kK .Add) (QE X.K):=by
 intro pins s σ H x y v u Q I rx ry h
 obtain⟨a,b,ys,rfl,rfl,ha,hb,q⟩:=h
 cases rx
 cases ry
 obtain⟨its,r1,p1,_⟩:=I.tuple ha
 obtain⟨its2,r2,p2,_⟩:=I.tuple hb
 cases r1
 obtain⟨⟨cls,dd,data,sl⟩,ho,hc,n,hd⟩:=p1
 obtain⟨⟨cls2,dd2,data2,sl2⟩,ho2,hc2,n2,hd2⟩:=p2
 simp only at hc hd hc2 hd2
 subst hc hd hc2 hd2
 exact NH ⟨_,ho,rfl⟩ ⟨_,ho2,rfl⟩ Bf seq_tuple_add Bq Bs (Bt _ _)
  (tuple_addW0 a b _ _ n n2 dd dd2 sl sl2 rfl) ⟨ho,ho2,⟨.ref b,H,I,rfl,q⟩⟩
def FB:aA->aA->Option aA
 | .tuple xs,.tuple ys=>if xs.length+ys.length≤sizeLine then some (.tuple (xs++ys)) else none
 | _,_=>none
theorem Tu:OpD K 0 (fun x y H Q=>HM K x y H Q \/ QE K x y H Q) FB:=fun P H x y a b d Q hP ra rb e k=>by
 unfold FB at e
 split at e
 ·rename_i zs ys
  obtain⟨hc,rfl⟩:=cN e
  obtain⟨p,us,rfl,hp,r1⟩:=Aar.mp ra
  obtain⟨q,ws,rfl,hq,r2⟩:=Aar.mp rb
  have l1:=r1.length
  have l2:=r2.length
  cases zs with
  | nil=>
   have eu:us=[]:=by simpa using l1
   subst eu
   exact .inr ⟨p,q,ws,rfl,rfl,SqT.of (Aau _ _ hp),SqT.of (Aau _ _ hq),k.zero Ext.refl rb⟩
  | cons z zs=>
   refine .inl ⟨p,q,us,ws,rfl,rfl,SqT.of (Aau _ _ hp),SqT.of (Aau _ _ hq),fun z=>by rw[z] at l1; simp at l1,by rw[l1,l2]; exact hc,fun z=>?_,fun z r hr=>?_⟩
   ·subst z
    have:ys=[]:=by simpa using l2.symm
    subst this
    refine k.zero Ext.refl ?_
    rw[mS]
    exact ra
   ·exact k.tup hP hr (r1.append r2)
 ·cases e
theorem Lg (ha:DE X a fa)(hb:DE X b fb):DE X (.BinOp a .Add b pos) (eOp FB fa fb):=pC (Azh.or Ku) Tu ha hb
def uT:List aA->Option aA
 | [.int i,.int j]=>some (.int (if j > i then j else i))
 | _=>none
theorem UL:CallD K 0 (fun xs H Q=>∃ i j,xs=[.int i,.int j]/\Q (.int (if j > i then j else i)) H) uT:=fun P H xs ds d Q hP r e k=>by
 unfold uT at e
 split at e
 ·cases e
  obtain⟨v,t,rfl,h1,h2⟩:=Aah.mp r
  obtain⟨v',rfl,h3⟩:=hZ h2
  rw[Aan.mp h1,Aan.mp h3]
  exact⟨_,_,rfl,k.zero Ext.refl (Aan.mpr rfl)⟩
 ·cases e
end L2
namespace L2
open PySem PySem.Spec PyProof.Rows
variable {sl:Array (Option aE)}{us items:Array aE}{Q E:aE->aJ->Prop}{ds kds:List (aA×aA)}{l a it:aD}{h h':aY}{d:aA}{es:List aS}{ep j n i m N n0 cx:Nat}{s:aJ}{e c o tg e2:aS}{R:Result->aJ->Prop}{P prog:cB}{w:bN}{kvs:List (List aA×V)}{K:aK}{b:Bool}{k:aI}{u:aE}{x y:aC}{xs ys:List V}{fp:Nat->List aD}{B H H' H0 B0:Hp}{v:V}{p1 p2 cpos pos tpos apos px spos ap cp:bR}{wr:List aD}{pins:List (aD×bG)}{A:cO}{tl:TE}{f fk g:EF}{p:Array Nat}{vs:List aE}{T:String}{kss:List (List aA)}{X:Cx}{P0:aD->Prop}{ρ:aX}
theorem Sg {t sl:aD}{vl vu:aE}{lo hi:Option Int}(ht:IsTup s.heap t us)(hs:s.heap.IsSliceOf sl vl vu .none)(pl:oX vl lo)(pu:oX vu hi)
  (hw:HT.sIx us.size 0 lo=0/\HT.sIx us.size us.size hi=us.size) (h:Q (.ref t) s):aN (aW P w) A (pU (.ref t) (.ref sl)) Q E s:=by
 obtain⟨os,e1,e2,e3⟩:=id hs
 have ty:s.TypeIs (.ref sl) "slice":=⟨os,e1,e2⟩
 unfold pU
 try with_reducible refine kH ?_
 first | refine aH (aT ?_) | skip
 refine aH (wpAny_sequenceKey ht.typeIs (by decide) (aH (pQ (name:=pZ "__getitem__") ht.typeIs NF (kI NF ht.typeIs entry_tuple_getitem ?_ (args_tuple_getitem _ _)))))
 show aN _ _ (Cv (.ref t) >>= _) _ _ s
 refine aH (tupleItemsOf_ ht (aH (rP ty ?_)))
 rw[if_pos (by decide)]
 refine aH (HT.Agz hs pl pu ?_)
 have yes:(((HT.sIx us.size 0 lo:Nat):Int) == 0&&(1:Int) == 1&&(HT.sIx us.size us.size hi - HT.sIx us.size 0 lo) == us.size)=true:=by
  rw[hw.1,hw.2]
  simp
 show aN _ _ (if (((HT.sIx us.size 0 lo:Nat):Int) == 0&&(1:Int) == 1&&(HT.sIx us.size us.size hi - HT.sIx us.size 0 lo) == us.size)=true then _ else _) _ _ s
 rw[if_pos yes]
 unfold Builtin.Tuple.tupleIsExact
 refine aH (aH (rP ht.typeIs (aT ?_)))
 rw[if_pos (by decide)]
 exact aH (uC (aT ⟨_,rfl,aT h⟩))
def Dq (K:aK):V->Option Int->Option Int->Hp->VK->Prop:=fun x lo hi H Q=>∃ a xs,x = .ref a/\SqT K H a xs/\(HT.sIx xs.length 0 lo=0/\HT.sIx xs.length xs.length hi=xs.length)/\Q (.ref a) H
theorem A7z:SlR X (Dq X.K):=by
 intro pins s σ H x v vl vu lo hi sl Q I rx hs pl pu h
 obtain⟨a,xs,rfl,hx,hw,q⟩:=h
 cases rx
 obtain⟨its,r,ht,hz⟩:=I.tuple hx
 have hlen:its.toArray.size=xs.length:=by rw[eB]; exact r.length.symm
 exact⟨"tuple",_,NF.lookup,ht.typeIs,Sg ht hs pl pu (by rw[hlen]; exact hw) ⟨.ref a,H,I,rfl,q⟩⟩
def sI (f:EF)(lo hi:OF):EF:=fun ρ=>(f ρ).bind fun d=>(lo ρ).bind fun l=>(hi ρ).bind fun h=>match d with
 | .tuple ds=>some (.tuple (cutD ds l h))
 | _=>none
theorem Ou {ds:List aA}{l h:Option Int}(hw:HT.sIx ds.length 0 l=0/\HT.sIx ds.length ds.length h=ds.length):cutD ds l h=ds:=by
 unfold cutD
 rw[hw.1,hw.2]
 simp
theorem MH {lo hi:Option aS}{fl fh:OF}{pp:bR}(he:DE X e f)(hl:DO X lo fl)(hh:DO X hi fh):DE X (.Subscript e (.Slice lo hi none pp) pos) (sI f fl fh):=PE.imp (TY (A7z.or ZK) he hl hh) fun σ H Q gh=>by
 obtain⟨P,ρ,d,hP,rs,ef,k⟩:=gh
 obtain⟨d1,e1,ef2⟩:=XBs ef
 obtain⟨l,e2,ef3⟩:=XBs ef2
 obtain⟨h,e3,ef4⟩:=XBs ef3
 clear ef ef2 ef3
 cases d1 with
 | tuple ds=>
  cases ef4
  refine⟨P,ρ,_,hP,rs,e1,dU fun v H1 x1 r1=>⟨P,ρ,l,hP.ext x1,rs.ext (cT x1),e2,fun H2 x2=>⟨P,ρ,h,hP.ext (x1.trans x2),rs.ext (cT (x1.trans x2)),e3,fun H3 x3=>?_⟩⟩⟩
  have r3:=r1.ext (cT (x2.trans x3))
  obtain⟨q,ys,rfl,hq,rr⟩:=Aar.mp r3
  by_cases hw:HT.sIx ds.length 0 l=0/\HT.sIx ds.length ds.length h=ds.length
  ·rw[Ou hw] at k
   exact .inl ⟨q,ys,rfl,SqT.of (Aau _ _ hq),by rw[rr.length]; exact hw,(k.mono ((x1.trans x2).trans x3)).zero Ext.refl r3⟩
  ·refine .inr ⟨q,ys,rfl,SqT.of (Aau _ _ hq),by rw[rr.length]; exact hw,fun p hp=>(k.mono ((x1.trans x2).trans x3)).tup (hP.ext ((x1.trans x2).trans x3)) hp ?_⟩
   unfold uS cutD
   rw[rr.length]
   exact(rr.drop _).take _
 | _=>cases ef4
def Asn (h:aY)(d:aD)(es:Array nX)(ep:Nat):Prop:=∃ o,h.get? d=some o/\o.ExactDict/\o.data = .dict es ep
theorem Asn.keep{d:aD}{es:Array nX}(x:Asn h d es ep)(k : ∀ o,h.get? d=some o->h'.get? d=some o):Asn h' d es ep:=
 let ⟨o,e,r⟩:=x; ⟨o,k o e,r⟩
theorem Asn.ty{d:aD}{es:Array nX}(x:Asn s.heap d es ep):s.TypeIs (.ref d) "dict":=let ⟨o,e,c,_⟩:=x; ⟨o,e,c.1⟩
section
variable {d:aD}{es:Array nX}
theorem SW(nm:(d == iE)=false)(R:Asn s.heap d es ep)
  (q:Q (.ref s.heap.objs.size) { s with heap:=s.heap.push { cls:=.type "dict_keyiterator",data:=.fields #[.ref d,.int 0 0,.int es.size 0,.int ep 0] } }):aN (aW prog w) A (nN (.ref d)) Q E s:=by
 have ty:=R.ty
 obtain⟨o,eo,_,ed⟩:=R
 refine Bb ty F.slot_dict_iter (kI F.slot_dict_iter ty F.entry_dict_iter
  ?_ (F.args_dict_iter_1 _))
 unfold Builtin.«dict.__iter__»
 refine aH ?_
 unfold Builtin.Dict.dictSlotNone
 refine aH (MY ty ?_)
 show aN _ _ (pure (eX d)) _ _ s
 refine aT ?_
 show aN _ _ (OQ d >>= _) _ _ s
 unfold OQ
 rw[if_neg (show ¬ (d == iE)=true by rw[nm]; exact jG)]
 refine aH (aT ?_)
 refine aH (AR eo ed ?_)
 refine aH (AQ eo ed ?_)
 refine aH (lQ (aT ⟨_,rfl,"dict_keyiterator",_,
  ⟨_,dQ _ rfl,rfl⟩,GI.lookup,?_⟩))
 simpa [jF] using q
theorem TR {e:nX}{Q:Option aE->aJ->Prop}(K:s.heap.IsKeyIter it d i es.size ep)(R:Asn s.heap d es ep)(x:es[i]?=some e)
  (q : ∀ h',h'.IsKeyIter it d (i+1) es.size ep->oZ it s.heap h'->Q (some e.key) { s with heap:=h' }):aN (aW prog w) A (iT (.ref it)) Q E s:=by
 obtain⟨oi,ei,ci,di⟩:=id K
 obtain⟨o,eo,_,ed⟩:=R
 unfold iT
 refine aH (AS (pQ (name:=pZ "__next__") K.typeIs
  GI (kI GI K.typeIs
   Ze ?_ (Zg _))))
 refine aH (aT ?_)
 refine aH ?_
 refine aH ?_
 first
  | refine aH (MU K.typeIs (aT ?_))
  | refine aH (MS K.typeIs (aT ?_))
 refine aH (NB ei di ?_)
 have own:GK "dict_keyiterator" = false:=by decide
 simp only[own,rZ,if_false]
 show aN _ _ (if (eX d == dY)=true then _ else _) _ _ s
 rw[if_neg (show ¬ (eX d == dY)=true from jG)]
 refine aH (aT ?_)
 refine aH (AR eo ed ?_)
 rw[if_neg (by simp)]
 refine aH (aT ?_)
 refine aH (AQ eo ed ?_)
 rw[if_neg (by simp)]
 refine aT ?_
 simp only[show ¬ ((i:Int)<0) from by omega,if_false,xT,x]
 refine aH ?_
 first
  | refine aH (MU K.typeIs (aT ?_))
  | refine aH (MS K.typeIs (aT ?_))
 refine aH (wpAny_isOneOf_keyiter K.typeIs ?_)
 show aN _ _ (setField (.ref it) 1 (jF ((i:Int)+1)) >>= _) _ _ s
 refine aH (FM ei di (by simp) ?_)
 have K':(s.heap.update it (Obj.mapFields (·.setIfInBounds 1 (jF ((i:Int)+1))))).IsKeyIter it d (i+1) es.size ep:=
  ⟨_,BM _ ei (Obj.isFreed_of_fields (NN di _)),(Obj.cls_mapFields ..).trans ci,by
   rw[NN di]; simp[jF]⟩
 refine aH (kH ?_)
 refine aH (wpAny_isOneOf_keyiter (s:={ s with heap:=s.heap.update it (Obj.mapFields (·.setIfInBounds 1 (jF ((i:Int)+1)))) })
  K'.typeIs ?_)
 show aN _ _ (pure e.key) _ _ _
 exact aT (aT ⟨_,rfl,aT (q _ K' (xV ..))⟩)
theorem Au {Q:Option aE->aJ->Prop}(hh:A.handled=none)(K:s.heap.IsKeyIter it d i es.size ep)(R:Asn s.heap d es ep)(x:es.size≤i)
  (q : ∀ h',GH it s.heap h'->Q none { s with heap:=h' }):aN (aW prog w) A (iT (.ref it)) Q E s:=by
 obtain⟨oi,ei,ci,di⟩:=id K
 obtain⟨o,eo,_,ed⟩:=R
 unfold iT
 refine aH (AS (pQ (name:=pZ "__next__") K.typeIs
  GI (kI GI K.typeIs
   Ze ?_ (Zg _))))
 refine aH (aT ?_)
 refine aH ?_
 refine aH ?_
 first
  | refine aH (MU K.typeIs (aT ?_))
  | refine aH (MS K.typeIs (aT ?_))
 refine aH (NB ei di ?_)
 have own:GK "dict_keyiterator" = false:=by decide
 simp only[own,rZ,if_false]
 show aN _ _ (if (eX d == dY)=true then _ else _) _ _ s
 rw[if_neg (show ¬ (eX d == dY)=true from jG)]
 refine aH (aT ?_)
 refine aH (AR eo ed ?_)
 rw[if_neg (by simp)]
 refine aH (aT ?_)
 refine aH (AQ eo ed ?_)
 rw[if_neg (by simp)]
 refine aT ?_
 simp only[show ¬ ((i:Int)<0) from by omega,if_false,xT,Array.getElem?_eq_none x]
 refine aH ?_
 first
  | refine aH (MU K.typeIs (aT ?_))
  | refine aH (MS K.typeIs (aT ?_))
 show aN _ _ (setField (.ref it) 0 .none >>= _) _ _ s
 refine aH (FM ei di (by simp) ?_)
 show aN _ _ (newExc (.type "StopIteration") [] >>= _) _ _ _
 refine aH ?_
 simp only[newExc,newTuple]
 refine aH (lQ ?_ (by size_fits))
 refine aH (m:=AU _ _) (wpAny_of_eq (a:=dY)
  (by first | rfl | (simp only[AU]; rfl)) ?_)
 refine lQ ?_ (by size_fits)
 simp only[raiseNew]
 refine aH (wpAny_handled ?_)
 rw[show A.in1.handled=none from hh]
 refine aH (aT (wpAny_throw ?_))
 refine aH (FP (T:="StopIteration") (b:=true)
  ⟨_,dQ _ rfl,rfl⟩ isSubtype_stop ?_)
 exact aT (q _ (((xV ..).extBut.push _).push _))
theorem Xl (hh:A.handled=none)(I d:aD)(ne:d≠I)(es:Array nX)(ep:Nat) :
  Walks prog w A I [I,d] [I] es.size (fun i v=>∃ e,es[i]?=some e/\v=e.key) (fun i h=>h.IsKeyIter I d i es.size ep/\Asn h d es ep) where
 sub:=fun b hb=>by simp at hb; simp[hb]
 frame:=fun _ _ _ st hk=>⟨st.1.at fun o e=>hk I (by simp) o e,st.2.keep fun o e=>hk d (by simp) o e⟩
 item:=fun i s Q E hi st hQ=>by
  have hx:es[i]?=some es[i]:=Array.getElem?_eq_getElem hi
  refine TR st.1 st.2 hx fun h' K' hs=>?_
  exact hQ _ h' s.toks ⟨_,hx,rfl⟩ ⟨K',st.2.keep fun o e=>hs.extBut d o ne e⟩ fun b o hb e=>hs.extBut b o (fun h=>hb (by simp[h])) e
 done:=fun s Q E st hQ=>Au hh st.1 st.2 (bI _) fun h' he=>hQ h' s.toks fun b o hb e=>he b o (fun h=>hb (by simp[h])) e
 self:=fun _ _ _ _ st hQ=>wpAny_pyIter_keyiter st.1 hQ
theorem Sa:typeLookup (.type "dict") "__len__" = pure (some (.builtin "dict.__len__")):=by rw[typeLookup_type,builtinLookup_eq_fast]; kernel_rfl
theorem Oz(hh:A.handled=none)(nm:(d == iE)=false)(D:Asn s.heap d es ep)(S:aD)(res:aE)(c₀:Nat)(hSd:S≠d)
  (hS:s.heap.get? S=some { cls:=.type "list",data:=.seq #[] c₀ }) (hn:es.size≤sizeLine)
  (q : ∀ h' tk acc c',(∀ b o,b≠S->s.heap.get? b=some o->h'.get? b=some o)->h'.get? S=some { cls:=.type "list",dict:=none,data:=.seq acc c',slots:=#[] } ->
   ItemsOf (fun i v=>∃ e,es[i]?=some e/\v=e.key) acc es.size->R (.ok (.ret res)) { s with heap:=h',toks:=tk }) :
  aN (aW prog w) A.in1 (OO (.ref S) (.ref d) res)
   (fun fin s'=>match fin with | .done f=>R (.ok f) s' | .again c'=>c'.quiet=true/\pW (aW prog w) A c' R s') (fun e s'=>R (.error e) s') s:=by
 have ty:=D.ty
 unfold OO
 refine aH (rP ty ?_)
 have h1:Builtin.List.listSameRef (.ref S) (.ref d)=false:=by
  simp[Builtin.List.listSameRef,hSd]
 have h2:(oT "dict" == oT "list")=false:=by decide
 have h3:(oT "dict" == oT "tuple")=false:=by decide
 simp only[h1,h2,h3,Bool.or_false,rZ,if_false]
 refine aH (SW nm D ?_)
 refine aH (kH ?_)
 have hd0:d<s.heap.objs.size:=by obtain⟨o,e,_⟩:=D; exact cA e
 have hS0:S<s.heap.objs.size:=cA hS
 have keepP : ∀ b o,s.heap.get? b=some o->(s.heap.push { cls:=.type "dict_keyiterator",data:=.fields #[.ref d,.int 0 0,.int es.size 0,.int ep 0] }).get? b=some o:=fun b o e=>cC _ e
 have D':Asn (s.heap.push { cls:=.type "dict_keyiterator",data:=.fields #[.ref d,.int 0 0,.int es.size 0,.int ep 0] }) d es ep:=D.keep fun o e=>keepP d o e
 have itG:(s.heap.push { cls:=.type "dict_keyiterator",data:=.fields #[.ref d,.int 0 0,.int es.size 0,.int ep 0] }).IsKeyIter s.heap.objs.size d 0 es.size ep:=⟨_,dQ _ rfl,rfl,rfl⟩
 unfold Builtin.List.listLengthHint
 refine aH (FL (T:="dict") (v:=.ref d) (by obtain⟨o,e,c,_⟩:=D'; exact⟨o,e,c.1⟩) Sa ?_)
 wp_delta
 refine aH (FP (T:="dict") (v:=.ref d) (b:=true) (by obtain⟨o,e,c,_⟩:=D'; exact⟨o,e,c.1⟩) (by rw[isSubtype_type]; kernel_rfl) ?_)
 show aN _ _ (typeOf (eX d) >>= _) _ _ _
 refine aH (rP (T:="dict") (v:=.ref d) (by obtain⟨o,e,c,_⟩:=D'; exact⟨o,e,c.1⟩) ?_)
 refine aT ?_
 rw[if_pos (by decide)]
 refine aH (uC ?_)
 refine aH ?_
 have S1:=keepP _ _ hS
 generalize(s.heap.push { cls:=.type "dict_keyiterator",data:=.fields #[.ref d,.int 0 0,.int es.size 0,.int ep 0] })=G at keepP D' S1 itG ⊢
 show aN _ _ (updateSeq S (·.push .none) >>= fun _=>updateSeq S (·.pop)) _ _ _
 refine aH (wpAny_updateSeq S1 rfl ?_)
 have S2:=BM (gR (·.push dY)) S1 rfl
 refine wpAny_updateSeq (hz:=by seq_fits) S2 rfl ?_
 have S3:=BM (gR (·.pop)) S2 rfl
 have other : ∀ b o,b≠S->G.get? b=some o->((G.update S (gR (·.push dY))).update S (gR (·.pop))).get? b=some o:=fun b o hb e=>
  (GG _ _ (gZ hb)).trans ((GG _ _ (gZ hb)).trans e)
 have hne:d≠s.heap.objs.size:=dX hd0
 have hSf:S∉[s.heap.objs.size,d]:=fun hm=>by
  rcases cY.mp hm with z | z
  ·exact absurd hS0 (by rw[z]; exact lB _)
  ·exact hSd (cG.mp z)
 refine aT ⟨xK F.plain_extend_loop _,codeAny_extend_loopS (Xl (A:=A.in1) hh s.heap.objs.size d hne es ep).toS hn _ hSf _ es.size 0 _ _ _ rfl (fG _)
  ⟨itG.at fun o e=>other _ o (nQ hS0) e,D'.keep fun o e=>other _ o (gZ hSd) e⟩ S3 (ItemsOf.nil _) fun s' acc c' hm hS' hacc=>?_⟩
 rw[Moved.eq_with hm]
 refine q s'.heap s'.toks acc c' (fun b ob hb e=>hm.heap b ob (fun hmem=>?_) (other b ob hb (keepP _ _ e))) hS' hacc
 rcases cY.mp hmem with z | hmem
 ·exact hb z
 ·exact absurd (cA e) (by rw[cG.mp hmem]; exact lB _)
theorem Wh(hh:A.handled=none)(nm:(d == iE)=false)(D:Asn s.heap d es ep)(hn:es.size≤sizeLine)
  (q : ∀ h' tk acc c',(∀ b o,s.heap.get? b=some o->h'.get? b=some o)->h'.get? s.heap.objs.size=some { cls:=.type "list",dict:=none,data:=.seq acc c',slots:=#[] } ->
   ItemsOf (fun i v=>∃ e,es[i]?=some e/\v=e.key) acc es.size->Q (.ref s.heap.objs.size) { s with heap:=h',toks:=tk }):aN (aW prog w) A (call (.type "list") [.ref d]) Q E s:=by
 refine callType_codes (Q₁:=fun obj s₁=>obj = .ref s.heap.objs.size/\s₁ = { s with heap:=s.heap.push { cls:=.type "list",data:=.seq #[] } })
  F.called_list (F.typeCall_list_1 _) F.entry_list_init (code_list_new _ ⟨rfl,rfl⟩) fun obj s₁ h₁=>?_
 obtain⟨rfl,rfl⟩:=h₁
 have hd0:d<s.heap.objs.size:=by obtain⟨o,e,_⟩:=D; exact cA e
 have N1:(s.heap.push { cls:=.type "list",data:=.seq #[] }).get? s.heap.objs.size=some { cls:=.type "list",data:=.seq #[] }:=dQ _ rfl
 refine⟨⟨_,N1,rfl⟩,F.args_list_init_2 _ _,?_⟩
 show aN _ _ (do
  let old ← Builtin.List.listItems (.ref s.heap.objs.size)
  Builtin.List.listUpdate (.ref s.heap.objs.size) (fun _=>#[])
  letGo old.toList.reverse
  OO (.ref s.heap.objs.size) (.ref d) .none) _ _ _
 refine aH ?_
 unfold Builtin.List.listItems
 refine aH (nM N1 rfl (aT ?_))
 show aN _ _ (updateSeq s.heap.objs.size (fun _=>#[]) >>= fun _=>letGo (#[]:Array aE).toList.reverse >>= fun _=>
  OO (.ref s.heap.objs.size) (.ref d) .none) _ _ _
 refine aH (wpAny_updateSeq N1 rfl ?_)
 have N2:=BM (gR (fun _=>(#[]:Array aE))) N1 rfl
 have other : ∀ b o,b≠s.heap.objs.size->(s.heap.push { cls:=.type "list",data:=.seq #[] }).get? b=some o ->
   ((s.heap.push { cls:=.type "list",data:=.seq #[] }).update s.heap.objs.size (gR (fun _=>(#[]:Array aE)))).get? b=some o:=fun b o hb e=>(GG _ _ (gZ hb)).trans e
 refine aH (FO ?_)
 refine Oz (A:=A.in1) hh nm (D.keep fun o e=>other d o (dX hd0) (cC _ e)) s.heap.objs.size .none _ (nQ hd0) N2 hn fun h' tk acc c' hk hS' hacc=>?_
 exact⟨rfl,q h' tk acc c' (fun b o e=>hk b o (dX (cA e)) (other b o (dX (cA e)) (cC _ e))) hS' hacc⟩
end
section
variable {σ:St}
theorem LF : ∀ {es:List nX} {kvs:List (aI×V)} {vs:List (aI×aE)},KV kvs vs->PySem.Pairs (fJ P w) es vs->Vals (kvs.map fun kv=>kV kv.1) (es.map (·.key))
 | [],kvs,vs,r,p=>by
  cases p
  cases r
  exact .nil
 | e::es,kvs,vs,r,p=>by
  cases p with
  | cons h hv t=>
   cases r with
   | cons h' t'=>
    refine .cons ?_ (LF t' t)
    show RelV (kV _) e.key
    rw[h'.1]
    rcases nG h with⟨i,tk,e1,e2⟩ | ⟨x,tk,e1,e2⟩
    ·rw[e1,e2]; exact⟨tk,rfl⟩
    ·rw[e1,e2]; exact⟨tk,rfl⟩
theorem Xg {es:Array nX}{acc:Array aE}(h:ItemsOf (fun i v=>∃ e,es[i]?=some e/\v=e.key) acc es.size):acc.toList=es.toList.map (·.key):=by
 obtain⟨h1,h2⟩:=h
 apply OD
 intro i
 rw[eQ]
 by_cases hi:i<acc.size
 ·have ha:acc.toList[i]?=some acc[i]:=by simp[hi]
  obtain⟨e,he,hv⟩:=h2 i acc[i] (by simp[hi])
  have he':es.toList[i]?=some e:=by simpa using he
  rw[ha,he',hv]
  rfl
 ·have ha:acc.toList[i]?=none:=by simp; omega
  have he:es.toList[i]?=none:=by simp; omega
  rw[ha,he]
  rfl
theorem Iz {ep0:Nat}{kvs:List (aI×V)}(I:Inv X pins σ H s)(ha:H a=some (.dK ep0 kvs)):kvs.length≤sizeLine/\(a == iE)=false /\ ∃ es ep,Asn s.heap a es ep/\Vals (kvs.map fun kv=>kV kv.1) (es.toList.map (·.key))/\es.size=kvs.length:=by
 obtain⟨z,nm,vs,r,o,es,ep,e1,e2,e3,_,e5,_⟩:=vF I.hok ha
 refine⟨z,nm,es,ep,⟨o,e1,e2,e3⟩,LF r e5,?_⟩
 have l1:=(LF r e5).length
 simp at l1
 exact l1.symm
theorem Pq (hc:X.calm=true):Aek X (.type "list") (fun xs H Q=>∃ a ep kvs,xs=[.ref a]/\H a=some (.dK ep kvs) /\ ∀ l,H l=none->Q (.ref l) (upd H l (.lst (kvs.map fun kv=>kV kv.1)))):=by
 intro pins s σ H xs us Q I r h
 obtain⟨a,ep1,kvs,rfl,ha,q⟩:=h
 obtain⟨u,rfl,ru⟩:=vals1 r
 cases ru
 obtain⟨z,nm,es,ep,D,rv,el⟩:=Iz I ha
 refine Wh (I.ok.hd hc) nm D (by omega) fun h' tk acc c' hk hS hacc=>?_
 have ea:=Xg hacc
 rw[← ea] at rv
 exact⟨.ref s.heap.objs.size,_,I.laid (o:=.lst (kvs.map fun kv=>kV kv.1)) hk (bI _) (show Adc X.prog X.w _ h' _ (.lst _) from⟨by rw[cZ]; exact z,acc.toList,c',rv,by simpa using hS⟩),rfl,q _ I.fresh⟩
theorem UY : ∀ {kds:List (aA×aA)} {kvs:List (aI×V)},Ab4 K H kds kvs->(∀ kd∈kds,cQ kd.1=true)->Aas K H (kds.map (·.1)) (kvs.map fun kv=>kV kv.1)
 | [],kvs,r,_=>by rw[Acf.mp r]; exact Aao.mpr rfl
 | (k,d)::kds,kvs,r,h=>by
  obtain⟨k',x,rr,rfl,rfl,h1,h2⟩:=Abh.mp r
  refine Aah.mpr ⟨_,_,rfl,?_,UY h2 fun kd m=>h kd (bT _ m)⟩
  have hl:=h (kD k',d) bO
  cases k' with
  | inl i=>exact Aan.mpr rfl
  | inr z=>exact Aa7.mpr ⟨rfl,hl⟩
def HY:List aA->Option aA
 | [.dict kds]=>if (plK kds&&kds.all fun kd=>cQ kd.1)=true then some (.list (kds.map (·.1))) else none
 | _=>none
theorem Rh:CallD K 1 (fun xs H Q=>∃ a ep kvs,xs=[.ref a]/\H a=some (.dK ep kvs) /\ ∀ l,H l=none->Q (.ref l) (upd H l (.lst (kvs.map fun kv=>kV kv.1)))) HY:=fun P H xs ds d Q hP r e k=>by
 unfold HY at e
 split at e
 ·obtain⟨hl,rfl⟩:=cN e
  obtain⟨v,rfl,r'⟩:=hZ r
  obtain⟨pk,hl⟩:=iH.mp hl
  obtain⟨q,ys,rfl,hq,rr⟩:=(rA pk).mp r'
  exact⟨q,ys.1,ys.2,rfl,Aau _ _ hq,fun l hl'=>k.lst hP hl' (UY rr (fH.mp hl))⟩
 ·cases e
def rK (b:List (aA×aA)):List (aA×aA)->Bool
 | []=>true
 | (k,d)::r=>match (bP k).bind (bW b) with
  | none=>false
  | some e=>cJ d e&&rK b r
def BZ (a b:List (aA×aA)):Bool:=a.length == b.length&&rK b a
def valsOk (a:List (aA×aA)):Bool:=a.all fun kd=>dE kd.2
theorem Wc {b:List (aA×aA)}(h:valsOk b=true)(e:bW b k=some d):dE d=true:=by
 unfold bW at e
 cases q:b.find? fun kd=>decide (bP kd.1=some k) with
 | none=>rw[q] at e; cases e
 | some kd=>
  rw[q] at e
  have:kd.2=d:=by simpa using e
  subst this
  exact fH.mp h kd (NV q)
theorem Ai (hu:X.A.units+100<cLine)(I:Inv X pins σ H s){kb:List (aA×aA)}{vb:List (aI×V)}{ub:List (aI×aE)}(rb:Ab4 X.K H kb vb)(qb:KV vb ub)(fb:valsOk kb=true) :
  ∀ {ka:List (aA×aA)} {va:List (aI×V)} {ua:List (aI×aE)},valsOk ka=true->Ab4 X.K H ka va->KV va ua->PySem.W.KeqHits X.A.in1 s ub ua (rK kb ka)
 | [],va,ua,_,ra,qa=>by
  obtain rfl:=Acf.mp ra
  cases qa
  exact .nil
 | (k,d)::ka,va,ua,fa,ra,qa=>by
  obtain⟨k',x,rr,rfl,rfl,h1,h2⟩:=Abh.mp ra
  have fa':dE d=true/\valsOk ka=true:=by simpa [valsOk] using fa
  cases qa with
  | @cons _ u _ us h' t'=>
  obtain⟨g1,g2⟩:=h'
  obtain⟨uk,uv⟩:=u
  have e2:k'=uk:=g1
  subst e2
  have rel:=qb.val k'
  have eh:rK kb ((kD k',d)::ka)=(match bW kb k' with | none=>false | some e=>cJ d e&&rK kb ka):=by
   show(match (bP (kD k')).bind (bW kb) with | none=>false | some e=>cJ d e&&rK kb ka)=_
   rw[kY]
   rfl
  rcases tZ (k:=k') rb with⟨n1,n2⟩ | ⟨d',v',s1,s2,rd⟩
  ·rw[n2] at rel
   rw[eh,n1]
   exact .miss rel.none_of
  ·rw[s2] at rel
   obtain⟨y,hy,ry⟩:=rel.some_of
   have f1:noDict d=true/\d.depth≤60:=by simpa [dE] using fa'.1
   have f2:noDict d'=true/\d'.depth≤60:=by simpa [dE] using Wc fb s1
   obtain⟨l1,as,ra'⟩:=lO I f1.1 h1 g2
   obtain⟨l2,bs,rb'⟩:=lO I f2.1 rd ry
   have eq:=SeqAt.eqAt_reads d d' X.A.in1 s uv y as bs ra' rb' l1 l2 (by
    have:X.A.in1.units=X.A.units+1:=rfl
    omega)
   rw[eh,s1]
   exact .hit hy eq (Ai hu I rb qb fb fa'.2 h2 t')
def PB (K:aK)(neg:Bool):R2:=fun x y H Q=>∃ ka kb,Abq K H (.dict ka) x/\Abq K H (.dict kb) y/\(plK ka=true/\plK kb=true)/\valsOk ka=true/\valsOk kb=true/\Q (.bl (neg != BZ ka kb)) H
theorem Il (hu:X.A.units+100<cLine):OpR X (kJ .Eq) (PB X.K false):=by
 intro pins s σ H x y v u Q I rx ry h
 obtain⟨ka,kb,ra,rb,pk,fa,fb,q⟩:=h
 obtain⟨a,va,rfl,ha,ra⟩:=(rA pk.1).mp ra
 obtain⟨b,vb,rfl,hb,rb⟩:=(rA pk.2).mp rb
 cases rx
 cases ry
 obtain⟨_,na,ua,qa,da⟩:=vF I.hok ha
 obtain⟨_,nb,ub,qb,db⟩:=vF I.hok hb
 have l1:ka.length=ua.length:=(ra.length).symm.trans qa.length
 have l2:kb.length=ub.length:=(rb.length).symm.trans qb.length
 refine PySem.W.keq_eq na nb da db (by omega) (fun _=>Ai hu I rb qb fb fa ra qa) ?_
 rw[← l1,← l2]
 exact⟨.bl _,H,I,rfl,by simpa [BZ] using q⟩
def uP (neg:Bool):aA->aA->Option aA
 | .dict a,.dict b=>if (valsOk a&&valsOk b&&(plK a&&plK b))=true then some (.bool (neg != BZ a b)) else none
 | _,_=>none
theorem Mk{neg:Bool}:OpD K 0 (PB K neg) (uP neg):=fun P H x y a b d Q hP ra rb e k=>by
 unfold uP at e
 split at e
 ·obtain⟨hc,rfl⟩:=cN e
  have hc':=iH.mp hc
  have hv:=iH.mp hc'.1
  exact⟨_,_,ra.ext Aau,rb.ext Aau,iH.mp hc'.2,hv.1,hv.2,k.zero Ext.refl (Aay.mpr rfl)⟩
 ·cases e
end
open PySem
structure Sub (P:cB)(w:bN)(it:aD)(own:List aD)(St:Nat->aY->Prop)(xs:Array aE):Prop where
 mem:it∈own
 obj : ∀ k h,St k h -> ∀ c∈own,∃ o,h.get? c=some o
 keep : ∀ k h h',St k h->(∀ c∈own,∀ o,h.get? c=some o->h'.get? c=some o)->St k h'
 item : ∀ (A:cO) (E:aE->aJ->Prop) (s:aJ) (Q:aE->aJ->Prop) (k:Nat) (x:aE),St k s.heap->xs[k]?=some x ->
  (∀ h',St (k+1) h'->oZ it s.heap h'->Q x { s with heap:=h' })->aN (aW P w) A (qJ (.ref it)) Q E s
 done : ∀ (A:cO) (E:aE->aJ->Prop) (s:aJ) (Q:aE->aJ->Prop) (k:Nat),A.handled=none->St k s.heap->xs[k]?=none ->
  (∀ h' e,GH it s.heap h'->(∃ o,h'.get? e=some o/\o.cls = .type "StopIteration")->E (.ref e) { s with heap:=h' })->aN (aW P w) A (qJ (.ref it)) Q E s
section
theorem Ur {j t:aD}{k:Nat}(hj:s.heap.IsTupleIter j t k)(ht:s.heap.IsTuple t us)(hu:us[k]?=some u)
  (q : ∀ h',h'.IsTupleIter j t (k+1)->oZ j s.heap h'->Q u { s with heap:=h' }):aN (aW P w) A (qJ (.ref j)) Q E s:=by
 obtain⟨oj,g1,g2,g3⟩:=id hj
 obtain⟨ot,t1,_,nt,t2⟩:=ht
 unfold qJ
 refine aH (pQ (name:=pZ "__next__") hj.typeIs OI (kI OI hj.typeIs F.entry_tuple_iterator_next ?_ (F.args_tuple_iterator_next_1 _)))
 show aN _ _ (field (.ref j) 0 >>= _) _ _ s
 refine aH (iS g1 g3 (x:=.ref t) rfl ?_)
 show aN _ _ (if (eX t == dY)=true then _ else _) _ E s
 have ne : ¬ (eX t == dY)=true:=jG
 rw[if_neg ne]
 show aN _ _ (field (.ref j) 1 >>= _) _ _ s
 refine aH (iS g1 g3 (x:=.int k 0) rfl ?_)
 show aN _ _ (seqItems? (.ref t) >>= _) _ E s
 refine aH (nM t1 t2 ?_)
 simp only[xT,hu]
 refine aH (FM g1 g3 (by simp) (aT ⟨u,rfl,aT (q _ ⟨_,BM _ g1 (Obj.isFreed_of_fields (NN g3 _)),(Obj.cls_mapFields ..).trans g2,?_⟩ (xV ..))⟩))
 rw[NN g3]
 simp[jF]
theorem Vj {j t:aD}{k:Nat}(hh:A.handled=none)(hj:s.heap.IsTupleIter j t k)(ht:s.heap.IsTuple t us)(hu:us[k]?=none)
  (q : ∀ h' e,GH j s.heap h'->(∃ o,h'.get? e=some o/\o.cls = .type "StopIteration")->E (.ref e) { s with heap:=h' }):aN (aW P w) A (qJ (.ref j)) Q E s:=by
 obtain⟨oj,g1,g2,g3⟩:=id hj
 obtain⟨ot,t1,_,nt,t2⟩:=ht
 unfold qJ
 refine aH (pQ (name:=pZ "__next__") hj.typeIs OI (kI OI hj.typeIs F.entry_tuple_iterator_next ?_ (F.args_tuple_iterator_next_1 _)))
 show aN _ _ (field (.ref j) 0 >>= _) _ _ s
 refine aH (iS g1 g3 (x:=.ref t) rfl ?_)
 show aN _ _ (if (eX t == dY)=true then _ else _) _ E s
 have ne : ¬ (eX t == dY)=true:=jG
 rw[if_neg ne]
 show aN _ _ (field (.ref j) 1 >>= _) _ _ s
 refine aH (iS g1 g3 (x:=.int k 0) rfl ?_)
 show aN _ _ (seqItems? (.ref t) >>= _) _ E s
 refine aH (nM t1 t2 ?_)
 simp only[xT,hu]
 refine aH (uC (aH (FM g1 g3 (by simp) ?_)))
 show aN _ _ (newExc (.type "StopIteration") [] >>= _) _ E _
 refine aH ?_
 simp only[newExc,newTuple]
 refine aH (lQ ?_ (by size_fits))
 refine aH (m:=AU _ _) (wpAny_of_eq (a:=dY) (by first | rfl | (simp only[AU]; rfl)) ?_)
 refine lQ ?_ (by size_fits)
 simp only[raiseNew]
 refine aH (wpAny_handled ?_)
 first | rw[show A.in1.handled=none from hh] | rw[hh]
 refine aH (aT (wpAny_throw (q _ _ (((xV ..).extBut.push _).push _) ⟨_,dQ _ rfl,rfl⟩)))
theorem Kv (j t:aD)(us:Array aE)(ne:t≠j):Sub P w j [j,t] (fun k h=>h.IsTupleIter j t k/\h.IsTuple t us) us where
 mem:=bO
 obj:=fun k h ⟨⟨o,e,_⟩,⟨o',e',_⟩⟩ c hc=>by
  rcases cY.mp hc with rfl | hc
  ·exact⟨o,e⟩
  ·rw[cG.mp hc]; exact⟨o',e'⟩
 keep:=fun k h h' ⟨⟨o,e,r⟩,⟨o',e',r'⟩⟩ kp=>⟨⟨o,kp j bO o e,r⟩,⟨o',kp t (by simp) o' e',r'⟩⟩
 item:=fun A E s Q k x ⟨a,b⟩ hx q=>Ur a b hx fun h' a' sb=>q h' ⟨a',b.extBut sb.extBut ne⟩ sb
 done:=fun A E s Q k hh ⟨a,b⟩ hx q=>Vj hh a b hx q
theorem Vn (j t:aD)(us:Array aE)(ne:t≠j):Sub P w j [j,t] (fun k h=>h.IsListIter j t k/\h.IsList t us) us where
 mem:=bO
 obj:=fun k h ⟨⟨o,e,_⟩,⟨o',e',_⟩⟩ c hc=>by
  rcases cY.mp hc with rfl | hc
  ·exact⟨o,e⟩
  ·rw[cG.mp hc]; exact⟨o',e'⟩
 keep:=fun k h h' ⟨⟨o,e,r⟩,⟨o',e',r'⟩⟩ kp=>⟨⟨o,kp j bO o e,r⟩,⟨o',kp t (by simp) o' e',r'⟩⟩
 item:=fun A E s Q k x ⟨a,b⟩ hx q=>wpAny_nextOf_list_item a b hx fun h' a' sb=>q h' ⟨a',b.extBut sb.extBut ne⟩ sb
 done:=fun A E s Q k hh ⟨a,b⟩ hx q=>wpAny_nextOf_list_end hh a b hx q
structure ZApart (z TI TO i1 i2:aD)(o1 o2:List aD):Prop where
 TIz:TI≠z
 TOz:TO≠z
 TITO:TI≠TO
 TI1:TI≠i1
 TI2:TI≠i2
 i12:i1≠i2
 z1:z∉o1
 z2:z∉o2
 TO1:TO∉o1
 TO2:TO∉o2
 x12:i1∉o2
 x21:i2∉o1
variable {z TI TO i1 i2:aD}{o1 o2:List aD}{S1 S2:Nat->aY->Prop}{xs ys:Array aE}{k:Nat}
def ZAt (z TI TO i1 i2:aD)(S1 S2:Nat->aY->Prop)(f0:aE)(k:Nat)(h:aY):Prop:=
 oW h z TI TO f0/\nW h TI (.ref i1) (.ref i2)/\(∃ a b,nW h TO a b)/\S1 k h/\S2 k h
theorem Sub.but {c:aD}{own:List aD}{St:Nat->aY->Prop}(U:Sub P w it own St us)(st:St k h)(hc:c∉own)(e:GH c h h'):St k h':=
 U.keep k h h' st fun b hb o g=>e b o (fun q=>hc (q ▸ hb)) g
theorem We {x y:aE}(D:ZApart z TI TO i1 i2 o1 o2)(U:Sub P w i1 o1 S1 xs)(V:Sub P w i2 o2 S2 ys)(st:ZAt z TI TO i1 i2 S1 S2 .none k s.heap)(hx:xs[k]?=some x)(hy:ys[k]?=some y)
  (q : ∀ h',ZAt z TI TO i1 i2 S1 S2 (jF s.heap.objs.size) (k+1) h'->nW h' s.heap.objs.size x y->h'.objs.size=s.heap.objs.size+1 ->
   (∀ c o,c≠z->c≠TO->c≠i1->c≠i2->s.heap.get? c=some o->h'.get? c=some o)->Q (.ref s.heap.objs.size) { s with heap:=h' }) :
  aN (aW P w) A (Builtin.«zip.__next__» ⟨[.ref z],[]⟩) (fun fin s'=>∃ v,fin = .done (.ret v)/\Q v s') E s:=by
 obtain⟨gz,gI,⟨a,b,gO⟩,st1,st2⟩:=st
 have z1:i1≠z:=fun e=>D.z1 (e ▸ U.mem)
 have z2:i2≠z:=fun e=>D.z2 (e ▸ V.mem)
 have t1:TO≠i1:=fun e=>D.TO1 (e ▸ U.mem)
 have t2:TO≠i2:=fun e=>D.TO2 (e ▸ V.mem)
 show aN _ _ (field (.ref z) 2 >>= _) _ E s
 refine aH (iS gz rfl (x:=.bool false) rfl ?_)
 show aN _ _ (field (.ref z) 3 >>= _) _ E s
 refine aH (iS gz rfl (x:=.ref TI) rfl (aH (nM gI rfl ?_)))
 show aN _ _ (OM (.ref z) >>= _) _ E s
 refine aH ?_
 unfold OM
 refine aH (iS gz rfl (x:=.none) rfl (aT ?_))
 simp only[if_true]
 refine aH (uC (aH (iS gz rfl (x:=.ref TO) rfl ?_)))
 refine aH (oP gz (by simp) fun ha gza sa=>?_)
 replace gza:oW ha z TI TO .ellipsis:=gza
 refine aH ?_
 simp only[List.zipIdx_cons,List.zipIdx_nil,Cf,List.forIn_nil]
 refine aH (aH (MX ?_))
 show aN _ _ (qJ (.ref i1) >>= _) _ _ _
 refine aH (U.item _ _ _ _ k x (U.but st1 D.z1 sa.extBut) hx fun hb st1b sb=>aT ?_)
 have gOb:nW hb TO a b:=sb.extBut _ _ t1 (sa.extBut _ _ D.TOz gO)
 refine aH (nM gOb rfl (aH (Ba gOb fun hc gOc sc=>?_)))
 replace gOc:nW hc TO x b:=gOc
 refine aH (FO (aT (aH (aH (MX ?_)))))
 show aN _ _ (qJ (.ref i2) >>= _) _ _ _
 refine aH (V.item _ _ _ _ k y (V.but (V.but (V.but st2 D.z2 sa.extBut) D.x12 sb.extBut) D.TO2 sc.extBut) hy fun hd st2d sd=>aT ?_)
 have gOd:nW hd TO x b:=sd.extBut _ _ t2 gOc
 refine aH (nM gOd rfl (aH (Ba gOd fun he gOe se=>?_)))
 replace gOe:nW he TO x y:=gOe
 refine aH (FO (aT (aT ?_)))
 refine aH (nM gOe rfl (aH (MZ ?_)))
 have size:he.objs.size=s.heap.objs.size:=by rw[se.1,sd.1,sc.1,sb.1,sa.1]
 have gze:oW he z TI TO .ellipsis:=se.extBut _ _ D.TOz.symm (sd.extBut _ _ z2.symm (sc.extBut _ _ D.TOz.symm (sb.extBut _ _ z1.symm gza)))
 have old : ∀ c o,c≠z->c≠TO->c≠i1->c≠i2->s.heap.get? c=some o->he.get? c=some o:=fun c o n1 n2 n3 n4 g=>se.extBut _ _ n2 (sd.extBut _ _ n4 (sc.extBut _ _ n2 (sb.extBut _ _ n3 (sa.extBut _ _ n1 g))))
 have st1e:S1 (k+1) he:=U.but (U.but (U.but st1b D.TO1 sc.extBut) D.x21 sd.extBut) D.TO1 se.extBut
 have st2e:S2 (k+1) he:=V.but st2d D.TO2 se.extBut
 have zlt:z<he.objs.size:=cA gze
 show aN _ _ (Zi (.ref z) (.ref he.objs.size) >>= _) _ _ _
 refine aH ?_
 unfold Zi
 have gzf:oW (he.push { cls:=.type "tuple",data:=.seq #[x,y] }) z TI TO .ellipsis:=cC _ gze
 refine aH (oP gzf (by simp) fun hg gzg sg=>?_)
 replace gzg:oW hg z TI TO (jF he.objs.size):=gzg
 refine oP gzg (by simp) fun hi gzi si=>?_
 replace gzi:oW hi z TI TO (jF he.objs.size):=gzi
 have up : ∀ c o,c≠z->he.get? c=some o->hi.get? c=some o:=fun c o n1 g=>si.extBut _ _ n1 (sg.extBut _ _ n1 (cC _ g))
 have gT:nW hi he.objs.size x y:=si.extBut _ _ (nQ zlt) (sg.extBut _ _ (nQ zlt) (dQ _ rfl))
 have sz:hi.objs.size=he.objs.size+1:=by rw[si.1,sg.1,xU]
 have st1i:S1 (k+1) hi:=U.keep _ _ _ st1e fun c hc o g=>up c o (fun e=>D.z1 (e ▸ hc)) g
 have st2i:S2 (k+1) hi:=V.keep _ _ _ st2e fun c hc o g=>up c o (fun e=>D.z2 (e ▸ hc)) g
 rw[size] at gzi gT sz
 refine aT ⟨_,rfl,?_⟩
 show Q (.ref he.objs.size) _
 rw[size]
 exact q hi ⟨gzi,up _ _ D.TIz (old _ _ D.TIz D.TITO D.TI1 D.TI2 gI),⟨x,y,up _ _ D.TOz gOe⟩,st1i,st2i⟩ gT sz fun c o n1 n2 n3 n4 g=>up c o n1 (old c o n1 n2 n3 n4 g)
theorem Wf {Q:Fin->aJ->Prop}(hh:A.handled=none)(D:ZApart z TI TO i1 i2 o1 o2)(U:Sub P w i1 o1 S1 xs)(V:Sub P w i2 o2 S2 ys)(st:ZAt z TI TO i1 i2 S1 S2 .none k s.heap)(hend:xs[k]?=none \/ ys[k]?=none)
  (q : ∀ h' e,(∀ c o,c≠z->c≠TO->c≠i1->c≠i2->s.heap.get? c=some o->h'.get? c=some o)->(∃ o,h'.get? e=some o/\o.cls = .type "StopIteration")->E (.ref e) { s with heap:=h' }) :
  aN (aW P w) A (Builtin.«zip.__next__» ⟨[.ref z],[]⟩) Q E s:=by
 obtain⟨gz,gI,⟨a,b,gO⟩,st1,st2⟩:=st
 have z1:i1≠z:=fun e=>D.z1 (e ▸ U.mem)
 have z2:i2≠z:=fun e=>D.z2 (e ▸ V.mem)
 have t1:TO≠i1:=fun e=>D.TO1 (e ▸ U.mem)
 show aN _ _ (field (.ref z) 2 >>= _) _ E s
 refine aH (iS gz rfl (x:=.bool false) rfl ?_)
 show aN _ _ (field (.ref z) 3 >>= _) _ E s
 refine aH (iS gz rfl (x:=.ref TI) rfl (aH (nM gI rfl ?_)))
 show aN _ _ (OM (.ref z) >>= _) _ E s
 refine aH ?_
 unfold OM
 refine aH (iS gz rfl (x:=.none) rfl (aT ?_))
 simp only[if_true]
 refine aH (uC (aH (iS gz rfl (x:=.ref TO) rfl ?_)))
 refine aH (oP gz (by simp) fun ha gza sa=>?_)
 replace gza:oW ha z TI TO .ellipsis:=gza
 refine aH ?_
 simp only[List.zipIdx_cons,List.zipIdx_nil,Cf,List.forIn_nil]
 refine aH (aH (MX ?_))
 show aN _ _ (qJ (.ref i1) >>= _) _ _ _
 have far : ∀ {h':aY} {e:aD},oW h' z TI TO .ellipsis->(∃ o,h'.get? e=some o/\o.cls = .type "StopIteration")->e≠z:=fun g ⟨o,g1,g2⟩ n=>by
  subst n
  rw[g] at g1
  cases g1
  simp at g2
 cases hx:xs[k]? with
 | none=>
  refine aH (U.done _ _ _ _ k hh (U.but st1 D.z1 sa.extBut) hx fun hb e sb he=>?_)
  have gzb:oW hb z TI TO .ellipsis:=sb _ _ z1.symm gza
  have ne:=far gzb he
  obtain⟨o,g1,g2⟩:=he
  exact oP gzb (by simp) fun hc _ sc=>q hc e (fun c o n1 _ n3 _ g=>sc.extBut _ _ n1 (sb _ _ n3 (sa.extBut _ _ n1 g))) ⟨o,sc.extBut _ _ ne g1,g2⟩
 | some x=>
  have hy:ys[k]?=none:=hend.resolve_left fun h=>by rw[hx] at h; cases h
  refine aH (U.item _ _ _ _ k x (U.but st1 D.z1 sa.extBut) hx fun hb st1b sb=>aT ?_)
  have gOb:nW hb TO a b:=sb.extBut _ _ t1 (sa.extBut _ _ D.TOz gO)
  refine aH (nM gOb rfl (aH (Ba gOb fun hc gOc sc=>?_)))
  refine aH (FO (aT (aH (aH (MX ?_)))))
  show aN _ _ (qJ (.ref i2) >>= _) _ _ _
  refine aH (V.done _ _ _ _ k hh (V.but (V.but (V.but st2 D.z2 sa.extBut) D.x12 sb.extBut) D.TO2 sc.extBut) hy fun hd e sd he=>?_)
  have gzd:oW hd z TI TO .ellipsis:=sd _ _ z2.symm (sc.extBut _ _ D.TOz.symm (sb.extBut _ _ z1.symm gza))
  have ne:=far gzd he
  obtain⟨o,g1,g2⟩:=he
  exact oP gzd (by simp) fun hf _ sf=>q hf e (fun c o n1 n2 n3 n4 g=>sf.extBut _ _ n1 (sd _ _ n4 (sc.extBut _ _ n2 (sb.extBut _ _ n3 (sa.extBut _ _ n1 g))))) ⟨o,sf.extBut _ _ ne g1,g2⟩
theorem Td {x y:aE}{Q:Option aE->aJ->Prop}(D:ZApart z TI TO i1 i2 o1 o2)(U:Sub P w i1 o1 S1 xs)(V:Sub P w i2 o2 S2 ys)(st:ZAt z TI TO i1 i2 S1 S2 .none k s.heap)(hx:xs[k]?=some x)(hy:ys[k]?=some y)
  (q : ∀ h',ZAt z TI TO i1 i2 S1 S2 (jF s.heap.objs.size) (k+1) h'->nW h' s.heap.objs.size x y->h'.objs.size=s.heap.objs.size+1 ->
   (∀ c o,c≠z->c≠TO->c≠i1->c≠i2->s.heap.get? c=some o->h'.get? c=some o)->Q (some (.ref s.heap.objs.size)) { s with heap:=h' }):aN (aW P w) A (iT (.ref z)) Q E s:=by
 have ty:s.TypeIs (.ref z) "zip":=⟨_,st.1,rfl⟩
 unfold iT
 exact aH (AS (pQ (name:=pZ "__next__") ty OH (kI OH ty F.entry_zip_next (We D U V st hx hy fun h' a1 a2 a3 a4=>aT (q h' a1 a2 a3 a4)) (F.args_zip_next_1 _))))
theorem Uj {Q:Option aE->aJ->Prop}(hh:A.handled=none)(D:ZApart z TI TO i1 i2 o1 o2)(U:Sub P w i1 o1 S1 xs)(V:Sub P w i2 o2 S2 ys)(st:ZAt z TI TO i1 i2 S1 S2 .none k s.heap)(hend:xs[k]?=none \/ ys[k]?=none)
  (q : ∀ h',(∀ c o,c≠z->c≠TO->c≠i1->c≠i2->s.heap.get? c=some o->h'.get? c=some o)->Q none { s with heap:=h' }):aN (aW P w) A (iT (.ref z)) Q E s:=by
 have ty:s.TypeIs (.ref z) "zip":=⟨_,st.1,rfl⟩
 unfold iT
 refine aH (AS (pQ (name:=pZ "__next__") ty OH (kI OH ty F.entry_zip_next (Wf hh D U V st hend fun h' e kp ⟨o,g1,g2⟩=>?_) (F.args_zip_next_1 _))))
 exact aH (FP (T:="StopIteration") (b:=true) ⟨o,g1,g2⟩ isSubtype_stop (aT (q _ kp)))
end
def SqB (b:Bool)(h:aY)(l:aD)(us:Array aE):Prop:=match b with
 | true=>h.IsList l us
 | false=>h.IsTuple l us
def itB (b:Bool)(l:aD):bG:={ cls:=.type (match b with | true=>"list_iterator" | false=>"tuple_iterator"),data:=.fields #[.ref l,.int 0 0] }
def StB (b:Bool)(j l:aD)(us:Array aE)(k:Nat)(h:aY):Prop:=match b with
 | true=>h.IsListIter j l k/\h.IsList l us
 | false=>h.IsTupleIter j l k/\h.IsTuple l us
theorem FA(b:Bool)(j l:aD)(us:Array aE)(ne:l≠j):Sub P w j [j,l] (StB b j l us) us:=by
 cases b with
 | true=>exact Vn j l us ne
 | false=>exact Kv j l us ne
theorem SqB.keep(q:SqB b h l us)(k : ∀ o,h.get? l=some o->h'.get? l=some o):SqB b h' l us:=by
 cases b with
 | true=>
  obtain⟨o,e,r⟩:=q
  exact⟨o,k o e,r⟩
 | false=>
  obtain⟨o,e,r⟩:=q
  exact⟨o,k o e,r⟩
theorem StB.new{j:aD}(q:SqB b h l us)(e:h.get? j=some (itB b l)):StB b j l us 0 h:=by
 cases b with
 | true=>exact⟨⟨_,e,rfl,rfl⟩,q⟩
 | false=>exact⟨⟨_,e,rfl,rfl⟩,q⟩
section
variable {b1 b2:Bool}{l1 l2:aD}{xs ys:Array aE}
theorem YM(h:SqB b s.heap l us)(q:Q (.ref s.heap.objs.size) { s with heap:=s.heap.push (itB b l) }):aN (aW P w) A (nN (.ref l)) Q E s:=by
 cases b with
 | true=>exact FN h q
 | false=>exact wpAny_pyIter_tuple h q
abbrev zA (b1:Bool)(h:aY)(l1:aD):aY:=h.push (itB b1 l1)
abbrev zB (b1 b2:Bool)(h:aY)(l1 l2:aD):aY:=(zA b1 h l1).push (itB b2 l2)
abbrev zC (b1 b2:Bool)(h:aY)(l1 l2:aD):aY:=(zB b1 b2 h l1 l2).push { cls:=.type "tuple",data:=.seq #[.ref h.objs.size,.ref (zA b1 h l1).objs.size] }
abbrev zD (b1 b2:Bool)(h:aY)(l1 l2:aD):aY:=(zC b1 b2 h l1 l2).push { cls:=.type "tuple",data:=.seq #[.none,.none] }
abbrev zE (b1 b2:Bool)(h:aY)(l1 l2:aD):aY:=(zD b1 b2 h l1 l2).push { cls:=.type "zip",data:=.fields #[.none,.bool false,.bool false,.ref (zB b1 b2 h l1 l2).objs.size,.ref (zC b1 b2 h l1 l2).objs.size] }
theorem Ud (b1 b2:Bool)(l1 l2:aD)(xs ys:Array aE) :
  Meets (Builtin.«zip.__new__» ⟨[.type "zip",.ref l1,.ref l2],[]⟩) (fun _ R s=>SqB b1 s.heap l1 xs/\SqB b2 s.heap l2 ys /\
   R (.ok (.ret (.ref (zD b1 b2 s.heap l1 l2).objs.size))) { s with heap:=zE b1 b2 s.heap l1 l2 }):=
 .of_wp fun prog w A R s h=>by
  obtain⟨hp,g,d,tk,os⟩:=s
  obtain⟨q1,q2,q⟩:=h
  have sz:=sub_zip
  have u1:SqB b1 (Shared.heap ⟨hp,g,d,tk,os⟩) l1 xs:=q1
  have u2:SqB b2 (Shared.heap ⟨hp.push (itB b1 l1),g,d,tk,os⟩) l2 ys:=q2.keep fun o e=>cC _ e
  wp_walk using YM u1,YM u2
  exact⟨_,rfl,q⟩
theorem Oa {l1 l2:Nat}(h1:l1<n)(h2:l2<n):ZApart (n+4) (n+2) (n+3) n (n+1) [n,l1] [n+1,l2]:=by
 have two : ∀ {a b c:Nat},a≠b->a≠c->a∉[b,c]:=fun h h' m=>by
  rcases cY.mp m with m | m
  ·exact h m
  ·exact h' (cG.mp m)
 have ne : ∀ {a b:Nat},a<b->a≠b:=dX
 have en : ∀ {a b:Nat},b<a->a≠b:=nQ
 exact⟨ne (by omega),ne (by omega),ne (by omega),en (by omega),en (by omega),ne (by omega),two (en (by omega)) (en (by omega)),two (en (by omega)) (en (by omega)),two (en (by omega)) (en (by omega)),two (en (by omega)) (en (by omega)),two (ne (by omega)) (en h2),two (en (by omega)) (en (by omega))⟩
theorem Vz(h1:SqB b1 s.heap l1 xs)(h2:SqB b2 s.heap l2 ys)
  (q : ∀ (z TI TO i1 i2:aD) (h':aY),s.heap.objs.size≤z->s.heap.objs.size≤TI->s.heap.objs.size≤TO->s.heap.objs.size≤i1->s.heap.objs.size≤i2->ZApart z TI TO i1 i2 [i1,l1] [i2,l2]->ZAt z TI TO i1 i2 (StB b1 i1 l1 xs) (StB b2 i2 l2 ys) .none 0 h' ->
   (∀ c o,s.heap.get? c=some o->h'.get? c=some o)->Q (.ref z) { s with heap:=h' }):aN (aW P w) A (call (.type "zip") [.ref l1,.ref l2]) Q E s:=by
 refine callType_new F.called_zip (by decide) (F.typeCall_zip_2 _ _) (F.newCall_zip_2 _ _) (fun obj=>F.args_object_init_3 obj _ _) F.entry_zip_new (Ud b1 b2 l1 l2 xs ys) ⟨h1,h2,?_⟩
 have za:(zA b1 s.heap l1).objs.size=s.heap.objs.size+1:=xU ..
 have zb:(zB b1 b2 s.heap l1 l2).objs.size=s.heap.objs.size+2:=by rw[xU,za]
 have zc:(zC b1 b2 s.heap l1 l2).objs.size=s.heap.objs.size+3:=by rw[xU,zb]
 have zd:(zD b1 b2 s.heap l1 l2).objs.size=s.heap.objs.size+4:=by rw[xU,zc]
 have g5:(zE b1 b2 s.heap l1 l2).get? (zD b1 b2 s.heap l1 l2).objs.size=some _:=dQ _ rfl
 have g4:(zE b1 b2 s.heap l1 l2).get? (zC b1 b2 s.heap l1 l2).objs.size=some _:=cC _ (dQ _ rfl)
 have g3:(zE b1 b2 s.heap l1 l2).get? (zB b1 b2 s.heap l1 l2).objs.size=some _:=cC _ (cC _ (dQ _ rfl))
 have g2:(zE b1 b2 s.heap l1 l2).get? (zA b1 s.heap l1).objs.size=some (itB b2 l2):=cC _ (cC _ (cC _ (dQ _ (by cases b2 <;> rfl))))
 have g1:(zE b1 b2 s.heap l1 l2).get? s.heap.objs.size=some (itB b1 l1):=cC _ (cC _ (cC _ (cC _ (dQ _ (by cases b1 <;> rfl)))))
 have all : ∀ c o,s.heap.get? c=some o->(zE b1 b2 s.heap l1 l2).get? c=some o:=fun c o x=>cC _ (cC _ (cC _ (cC _ (cC _ x))))
 have lt1:l1<s.heap.objs.size:=by
  cases b1 with
  | true=>obtain⟨o,e,_⟩:=h1; exact cA e
  | false=>obtain⟨o,e,_⟩:=h1; exact cA e
 have lt2:l2<s.heap.objs.size:=by
  cases b2 with
  | true=>obtain⟨o,e,_⟩:=h2; exact cA e
  | false=>obtain⟨o,e,_⟩:=h2; exact cA e
 refine⟨⟨_,g5,rfl⟩,q _ (zB b1 b2 s.heap l1 l2).objs.size (zC b1 b2 s.heap l1 l2).objs.size s.heap.objs.size (zA b1 s.heap l1).objs.size _ (by omega) (by omega) (by omega) (by omega) (by omega) ?_ ⟨g5,g3,⟨_,_,g4⟩,StB.new (h1.keep (all l1)) g1,StB.new (h2.keep (all l2)) g2⟩ all⟩
 have ap:=Oa lt1 lt2
 rw[← za,← zb,← zc,← zd] at ap
 exact ap
end
def ItB (b:Bool)(j l:aD)(k:Nat)(h:aY):Prop:=match b with
 | true=>h.IsListIter j l k
 | false=>h.IsTupleIter j l k
theorem Aho{j:aD}{k:Nat}:StB b j l us k h↔ItB b j l k h/\SqB b h l us:=by cases b <;> exact Iff.rfl
theorem ItB.get{j:aD}{k:Nat}(q:ItB b j l k h) : ∃ o,h.get? j=some o /\ ∀ v,o.data ≠ .cell v:=by
 cases b with
 | true=>
  obtain⟨o,e,_,d⟩:=q
  exact⟨o,e,fun v z=>by rw[d] at z; cases z⟩
 | false=>
  obtain⟨o,e,_,d⟩:=q
  exact⟨o,e,fun v z=>by rw[d] at z; cases z⟩
theorem ItB.keep{j:aD}{k:Nat}(q:ItB b j l k h)(kp : ∀ o,h.get? j=some o->h'.get? j=some o):ItB b j l k h':=by
 cases b with
 | true=>
  obtain⟨o,e,r⟩:=q
  exact⟨o,kp o e,r⟩
 | false=>
  obtain⟨o,e,r⟩:=q
  exact⟨o,kp o e,r⟩
def SqV (b:Bool)(K:aK)(H:Hp)(a:aD)(xs:List V):Prop:=match b with
 | true=>SqL K H a xs
 | false=>SqT K H a xs
section
variable {σ:St}
theorem Inv.sqB(I:Inv X pins σ H s)(h:SqV b X.K H a xs) : ∃ its:List aE,Vals xs its/\SqB b s.heap a its.toArray:=by
 cases b with
 | true=>
  obtain⟨its,rv,p,_⟩:=I.list h
  exact⟨its,rv,p.isList⟩
 | false=>
  obtain⟨its,rv,p,_⟩:=I.tuple h
  exact⟨its,rv,p⟩
theorem Inv.sqV_inj(I:Inv X pins σ H s)(h:SqV b X.K H a xs)(h':SqV b X.K H a ys):xs=ys:=by
 cases b with
 | true=>exact I.list_inj h h'
 | false=>exact I.tuple_inj h h'
theorem Inv.turnM {t':Nat}{fp:List aD}(I:Inv X pins σ H s)(hf : ∀ b∈fp,jA X pins H b)(k : ∀ b o,b∉fp->s.heap.get? b=some o->h'.get? b=some o):Inv X pins σ H { s with heap:=h',toks:=t' }:=by
 have out : ∀ b u,H b=some u->b∉fp:=fun b u e m=>by
  rw[(hf b m).1] at e
  cases e
 have loc:X.env.locals∉fp:=fun m=>(hf _ m).2.1 rfl
 refine I.step (g':=s.gens) (d':=s.drawn) (ch:=fp) (fun b m=>⟨(hf b m).2.2.2.1,(hf b m).2.1,(hf b m).2.2.2.2.1,(hf b m).2.2.2.2.2⟩) (fun b o _ _ n e _=>k b o n e) (fun b o _ _ n e _=>⟨o.slots,k b o n e⟩) (fun _ _ _ _ n=>n)
  (fun b o n e=>⟨o,k b o n e⟩) (fun _ _ e=>e) (fun _ _ _ e=>e) (fun b ps e=>⟨#[],by rw[e]; simp⟩) (fun m hm=>?_) (fun b u e=>?_) I.bare
 ·obtain⟨o,es,ep,ho,r⟩:=hm
  exact⟨o,es,ep,k _ o loc ho,r⟩
 ·refine(I.hok b u e).stay (fun c v hc q=>k c v ?_ q) (fun _ q=>q) fun _ _ q=>q
  rcases hc with z | z
  ·rw[z]; exact out b u e
  ·exact out c _ z
end
def GO (K:aK)(b1 b2:Bool)(a1 a2:aD):It:=
  ⟨fun i H=>∃ xs ys x y,SqV b1 K H a1 xs/\SqV b2 K H a2 ys/\xs[i]?=some x/\ys[i]?=some y,
   fun i H v H'=>∃ T x y,H T=none/\v = .ref T/\(∀ xs,SqV b1 K H a1 xs->xs[i]?=some x)/\(∀ ys,SqV b2 K H a2 ys->ys[i]?=some y)/\H'=upd H T (.tup [x,y]),
   fun i H=>∃ xs ys,SqV b1 K H a1 xs/\SqV b2 K H a2 ys/\(xs.length≤i \/ ys.length≤i)⟩
def tnZ (b1 b2:Bool)(a1 a2 z TI TO i1 i2:aD)(i:Nat)(h:aY):Prop:=oW h z TI TO .none/\nW h TI (.ref i1) (.ref i2)/\(∃ a b,nW h TO a b)/\ItB b1 i1 a1 i h/\ItB b2 i2 a2 i h
theorem Vd{cx}{pos:bR}{b1 b2:Bool}{a1 a2 z TI TO i1 i2:aD}(D:ZApart z TI TO i1 i2 [i1,a1] [i2,a2])(n1:a1≠i1)(n2:a2≠i2) :
  Turn P w K (.Tuple es cx pos) (GO K b1 b2 a1 a2) [z,TI,TO,i1,i2] z (tnZ b1 b2 a1 a2 z TI TO i1 i2) where
 mem:=by simp
 obj:=fun i h ⟨g1,g2,⟨a,b,g3⟩,g4,g5⟩ c hc=>by
  simp only[cY,FX,or_false] at hc
  rcases hc with rfl | rfl | rfl | rfl | rfl
  ·exact⟨_,g1,fun v q=>by cases q⟩
  ·exact⟨_,g2,fun v q=>by cases q⟩
  ·exact⟨_,g3,fun v q=>by cases q⟩
  ·exact g4.get
  ·exact g5.get
 keep:=fun i h h' ⟨g1,g2,⟨a,b,g3⟩,g4,g5⟩ k=>⟨k z (by simp) _ g1,k TI (by simp) _ g2,⟨a,b,k TO (by simp) _ g3⟩,g4.keep (k i1 (by simp)),g5.keep (k i2 (by simp))⟩
 item:=by
  intro X hP hw hK hc i pins s σ H E I hf st hg
  subst hP hw hK
  obtain⟨xs,ys,x,y,q1,q2,hx,hy⟩:=hg
  obtain⟨us,r1,s1⟩:=I.sqB q1
  obtain⟨vs,r2,s2⟩:=I.sqB q2
  obtain⟨u,hu,ru⟩:=r1.get hx
  obtain⟨v,hv,rv⟩:=r2.get hy
  obtain⟨g1,g2,⟨pa,pb,g3⟩,g4,g5⟩:=st
  have zat:ZAt z TI TO i1 i2 (StB b1 i1 a1 us.toArray) (StB b2 i2 a2 vs.toArray) .none i s.heap:=⟨g1,g2,⟨pa,pb,g3⟩,Aho.mpr ⟨g4,s1⟩,Aho.mpr ⟨g5,s2⟩⟩
  have young : ∀ b∈[z,TI,TO,i1,i2],b<s.heap.objs.size:=fun b m=>by
   simp only[cY,FX,or_false] at m
   rcases m with rfl | rfl | rfl | rfl | rfl
   ·exact cA g1
   ·exact cA g2
   ·exact cA g3
   ·obtain⟨o,e,_⟩:=g4.get; exact cA e
   ·obtain⟨o,e,_⟩:=g5.get; exact cA e
  refine Td D (FA b1 i1 a1 us.toArray n1) (FA b2 i2 a2 vs.toArray n2) zat (x:=u) (y:=v) (by simpa using hu) (by simpa using hv) fun h' zt pr sz old=>?_
  have fr:H s.heap.objs.size=none:=I.hok.fresh (bI _)
  have I0:Inv X pins σ (upd H s.heap.objs.size (.tup [x,y])) { s with heap:=s.heap.push { cls:=.type "tuple",data:=.seq #[u,v] } }:=
   I.laid (t':=s.toks) (o:=.tup [x,y]) (fun b ob q=>cC _ q) (bI _) ⟨by show 2≤sizeLine; decide,[u,v],.cons ru (.cons rv .nil),A7s.new _ _⟩
  have hf' : ∀ b∈[z,TI,TO,i1,i2],jA X pins (upd H s.heap.objs.size (.tup [x,y])) b:=fun b m=>⟨by rw[cP (dX (young b m))]; exact(hf b m).1,(hf b m).2⟩
  have I1:Inv X pins σ (upd H s.heap.objs.size (.tup [x,y])) { s with heap:=h' }:=I0.turnM (t':=s.toks) hf' fun b o n e=>by
   simp only[cY,FX,or_false,not_or] at n
   by_cases hb:b=s.heap.objs.size
   ·subst hb
    have e':(s.heap.push { cls:=.type "tuple",data:=.seq #[u,v] }).get? s.heap.objs.size=some { cls:=.type "tuple",data:=.seq #[u,v] }:=dQ _ rfl
    have:some o=some _:=e.symm.trans e'
    rw[this]
    exact pr
   ·exact old b o n.1 n.2.2.1 n.2.2.2.1 n.2.2.2.2 ((Cr _ _ _ hb).symm.trans e)
  obtain⟨w1,w2,⟨wa,wb,w3⟩,w4,w5⟩:=zt
  have z1:i1≠z:=fun e=>D.z1 (e ▸ bO)
  have z2:i2≠z:=fun e=>D.z2 (e ▸ bO)
  refine⟨_,rfl,wpAny_letOwnedTupleGo_zip w1 fun h2 gz sb=>?_⟩
  have I2:Inv X pins σ (upd H s.heap.objs.size (.tup [x,y])) { s with heap:=h2 }:=I1.turnM (t':=s.toks) hf' fun b o n e=>sb.extBut b o (fun q=>n (by simp[q])) e
  exact⟨.ref s.heap.objs.size,_,I2,rfl,⟨_,x,y,fr,rfl,fun xs' h=>by rw[I.sqV_inj h q1]; exact hx,fun ys' h=>by rw[I.sqV_inj h q2]; exact hy,rfl⟩,
   ⟨gz,sb.extBut _ _ D.TIz w2,⟨wa,wb,sb.extBut _ _ D.TOz w3⟩,(Aho.mp w4).1.keep fun o e=>sb.extBut _ _ z1 e,(Aho.mp w5).1.keep fun o e=>sb.extBut _ _ z2 e⟩,fun b m=>(hf' b m).1⟩
 done:=by
  intro X hP hw hK hc i pins s σ H E I hf st hg
  subst hP hw hK
  obtain⟨xs,ys,q1,q2,hl⟩:=hg
  obtain⟨us,r1,s1⟩:=I.sqB q1
  obtain⟨vs,r2,s2⟩:=I.sqB q2
  obtain⟨g1,g2,g3,g4,g5⟩:=st
  have zat:ZAt z TI TO i1 i2 (StB b1 i1 a1 us.toArray) (StB b2 i2 a2 vs.toArray) .none i s.heap:=⟨g1,g2,g3,Aho.mpr ⟨g4,s1⟩,Aho.mpr ⟨g5,s2⟩⟩
  have l1:=r1.length
  have l2:=r2.length
  refine Uj (I.ok.hd hc) D (FA b1 i1 a1 us.toArray n1) (FA b2 i2 a2 vs.toArray n2) zat ?_ fun h' old=>⟨rfl,I.turnM (t':=s.toks) hf fun b o n e=>?_⟩
  ·rcases hl with hl | hl
   ·exact .inl (by simp; omega)
   ·exact .inr (by simp; omega)
  ·simp only[cY,FX,or_false,not_or] at n
   exact old b o n.1 n.2.2.1 n.2.2.2.1 n.2.2.2.2 e
 self:=fun _ _ _ _ _ st h=>wpAny_pyIter_zip st.1 h
section
variable {a b:aS}{p:bR}
def Dw (K:aK)(ta:TA):TI:=fun σ H R=>ta σ H fun vs H1=>∃ a1 a2 b1 b2 xs ys,vs=[.ref a1,.ref a2]/\SqV b1 K H1 a1 xs/\SqV b2 K H1 a2 ys/\R (GO K b1 b2 a1 a2) H1
theorem Gv {ta:TA}(hg:Gl X "zip")(hm:X.mg "zip" = none)(ha:PA X [a,b] ta)(hs:bK [a,b] X.env=[(false,bM a X.env),(false,bM b X.env)]:=by rfl)(hs2:bK [b] X.env=[(false,bM b X.env)]:=by rfl) :
  PI X (.Tuple es cx tpos) (.Call (.Name "zip" p) [a,b] [] pos) (Dw X.K ta):=by
 intro pins s σ H R I h
 refine Call_ (yO I hg hm boot_zip (Bv (thn (ha pos pins s σ H _ I h) fun us s1 ⟨vs,H1,I1,r1,q1⟩=>?_) (by rw[hs,hs2]) (by rw[hs2]; rfl)))
 obtain⟨a1,a2,b1,b2,xs,ys,rfl,k1,k2,q⟩:=q1
 cases r1 with
 | cons r rr=>
  cases rr with
  | cons r' rr=>
   cases rr
   cases r
   cases r'
   obtain⟨u1,_,w1⟩:=I1.sqB k1
   obtain⟨u2,_,w2⟩:=I1.sqB k2
   have m1:a1<s1.heap.objs.size:=by
    cases b1 with
    | true=>obtain⟨o,e,_⟩:=w1; exact cA e
    | false=>obtain⟨o,e,_⟩:=w1; exact cA e
   have m2:a2<s1.heap.objs.size:=by
    cases b2 with
    | true=>obtain⟨o,e,_⟩:=w2; exact cA e
    | false=>obtain⟨o,e,_⟩:=w2; exact cA e
   refine Vz w1 w2 fun z TI TO i1 i2 h' y0 y1 y2 y3 y4 D zat all=>wpAny_pyIter_zip zat.1 ?_
   refine⟨z,[z,TI,TO,i1,i2],_,_,H1,rfl,I1.kept (t':=s1.toks) all,Vd D (fun e=>?_) (fun e=>?_),⟨zat.1,zat.2.1,zat.2.2.1,(Aho.mp zat.2.2.2.1).1,(Aho.mp zat.2.2.2.2).1⟩,fun b m=>?_,q⟩
   ·exact lB _ (jV m1 (e ▸ y3))
   ·exact lB _ (jV m2 (e ▸ y4))
   ·have le:s1.heap.objs.size≤b:=by
     simp only[cY,FX,or_false] at m
     rcases m with rfl | rfl | rfl | rfl | rfl <;> assumption
    exact I1.fpOk le (I1.hok.fresh le)
def pG:aA->Option (List aA)
 | .list ds=>some ds
 | .tuple ds=>some ds
 | _=>none
def pairD (x y:aA):aA:=.tuple [x,y]
def iZ (fa:AF):AF:=fun ρ=>(fa ρ).bind fun ds=>match ds with
 | [x,y]=>(pG x).bind fun xs=>(pG y).bind fun ys=>some (xN pairD xs ys)
 | _=>none
theorem WZ{ds:List aA}(e:pG d=some ds)(r:Abq K B d v) : ∃ a b xs,v = .ref a/\(∀ H2,Ext B H2->SqV b K H2 a xs)/\Aas K B ds xs:=by
 cases d with
 | list es=>
  cases e
  obtain⟨a,xs,rfl,h,rr⟩:=Abk.mp r
  exact⟨a,true,xs,rfl,fun H2 x2=>x2.sqL h,rr⟩
 | tuple es=>
  cases e
  obtain⟨a,xs,rfl,h,rr⟩:=Aar.mp r
  exact⟨a,false,xs,rfl,fun H2 x2=>SqT.of (x2 _ _ h),rr⟩
 | _=>cases e
theorem Lp{b1 b2:Bool}{a1 a2:aD}{ds es:List aA}(h1 : ∀ H2,Ext B H2->SqV b1 K H2 a1 xs)(h2 : ∀ H2,Ext B H2->SqV b2 K H2 a2 ys)(r1:Aas K B ds xs)(r2:Aas K B es ys) :
  ItD K B (GO K b1 b2 a1 a2) (xN pairD ds es):=fun i H2 x2=>by
 refine⟨fun d hd=>?_,fun e=>⟨xs,ys,h1 H2 x2,h2 H2 x2,?_⟩⟩
 ·rw[List.getElem?_zipWith] at hd
  cases c1:ds[i]? with
  | none=>rw[c1] at hd; simp at hd
  | some d1=>
   cases c2:es[i]? with
   | none=>rw[c1,c2] at hd; simp at hd
   | some d2=>
    rw[c1,c2] at hd
    have hd:pairD d1 d2=d:=by simpa using hd
    subst hd
    obtain⟨v1,g1,g2⟩:=r1.get c1
    obtain⟨v2,g3,g4⟩:=r2.get c2
    refine⟨⟨xs,ys,v1,v2,h1 H2 x2,h2 H2 x2,g1,g3⟩,?_⟩
    rintro x H3 ⟨T,x',y',fr,rfl,k1,k2,rfl⟩
    obtain rfl:v1=x':=eY (g1.symm.trans (k1 xs (h1 H2 x2)))
    obtain rfl:v2=y':=eY (g3.symm.trans (k2 ys (h2 H2 x2)))
    have ext:Ext H2 (upd H2 T (.tup [v1,v2])):=fun b u e=>by rw[cP (jT e fr)]; exact e
    refine⟨ext,fun P2 hP2 xb=>?_⟩
    have nT : ¬ P2 T:=fun q=>by
     rcases hP2 T q with⟨o,e⟩ | ⟨o,e⟩ <;> rw[fr] at e <;> cases e
    have gT:hid (upd H2 T (.tup [v1,v2])) P2 T=some (.tup [v1,v2]):=gJ nT eO
    have xx:Ext B (hid (upd H2 T (.tup [v1,v2])) P2):=xb.trans (cT ext)
    exact Aar.mpr ⟨T,_,rfl,gT,Aah.mpr ⟨_,_,rfl,g2.ext xx,Aah.mpr ⟨_,_,rfl,g4.ext xx,Aao.mpr rfl⟩⟩⟩
 ·rw[List.length_zipWith] at e
  rw[r1.length,r2.length]
  omega
theorem MQ {fa:AF}(hg:Gl X "zip")(hm:X.mg "zip" = none)(ha:DA X [a,b] fa)(hs:bK [a,b] X.env=[(false,bM a X.env),(false,bM b X.env)]:=by rfl)(hs2:bK [b] X.env=[(false,bM b X.env)]:=by rfl) :
  DI X (.Tuple es cx tpos) (.Call (.Name "zip" p) [a,b] [] pos) (iZ fa):=PI.imp (Gv hg hm ha hs hs2) fun σ H R gh=>by
 obtain⟨P,ρ,ds,hP,rs,ef,k⟩:=gh
 obtain⟨as,e1,ef2⟩:=XBs ef
 clear ef
 match as,e1,ef2 with
 | [x,y],e1,ef2=>
  obtain⟨xs,e2,ef3⟩:=XBs (show((pG x).bind fun xs=>(pG y).bind fun ys=>some (xN pairD xs ys))=some ds from ef2)
  obtain⟨ys,e3,ef4⟩:=XBs ef3
  cases ef4
  refine⟨P,ρ,_,hP,rs,e1,fun vs H1 x1 r1=>?_⟩
  obtain⟨v,t,rfl,q1,q2⟩:=Aah.mp r1
  obtain⟨v',rfl,q3⟩:=hZ q2
  obtain⟨a1,b1,us,rfl,k1,w1⟩:=WZ e2 q1
  obtain⟨a2,b2,us',rfl,k2,w2⟩:=WZ e3 q3
  exact⟨a1,a2,b1,b2,us,us',rfl,k1 _ Aau,k2 _ Aau,k _ H1 x1 (Lp k1 k2 w1 w2)⟩
 | [],_,h=>cases h
 | [_],_,h=>cases h
 | _::_::_::_,_,h=>cases h
end
theorem Wv:Aek X (.type "range") (fun xs H Q=>∃ j:Int,xs=[.int j] /\ ∀ a,H a=none->Q (.ref a) (upd H a (.rng 0 j))):=by
 intro pins s σ H xs us Q I r h
 obtain⟨j,rfl,q⟩:=h
 obtain⟨u,rfl,t,rfl⟩:=vals1 r
 refine call_range_1 ?_
 exact⟨.ref s.heap.objs.size,_,I.laid (o:=.rng 0 j) (fun b ob g=>cC _ g) (bI _) ⟨_,_,_,dQ _ rfl⟩,rfl,q _ I.fresh⟩
def upTo (n:Nat):List aA:=(cF n).map fun(k:Nat)=>aU k
def upV (n:Nat):List V:=(cF n).map fun(k:Nat)=>V.int k
theorem Pn (hc:X.calm=true):Aek X (.type "list") (fun xs H Q=>∃ a,∃ j:Int,xs=[.ref a]/\H a=some (.rng 0 j) /\ -4096≤j/\j≤4096 /\ ∀ l,H l=none->Q (.ref l) (upd H l (.lst (upV j.toNat)))):=by
 intro pins s σ H xs us Q I r h
 obtain⟨a,j,rfl,ha,h1,h2,q⟩:=h
 obtain⟨u,rfl,ru⟩:=vals1 r
 cases ru
 obtain⟨t,u,v,g⟩:=(show Adc X.prog X.w H s.heap a (.rng 0 j) from I.hok a _ ha)
 have hn:Builtin.Range.rangeSize 0 j 1=(j.toNat:Int):=by rw[rangeSize_one]; split <;> omega
 refine call_list_range (I.ok.hd hc) g (small_one (by omega) (by omega) (by omega) (by omega)) hn (by omega) fun h' tk acc' c' hk hS hacc=>?_
 have hv:Vals (upV j.toNat) acc'.toList:=by
  refine LP (by simp[upV,hacc.1]) fun i x u h1 h2=>?_
  obtain⟨t',rfl⟩:=hacc.2 i u (by simpa using h2)
  have hi:i<j.toNat:=by
   have:=(dD.mp h1).1
   simpa [upV] using this
  have:(upV j.toNat)[i]?=some (V.int i):=by simp[upV,hi]
  rw[this] at h1
  cases h1
  exact⟨t',by simp⟩
 exact⟨.ref s.heap.objs.size,_,I.laid (o:=.lst (upV j.toNat)) hk (bI _) (show Adc X.prog X.w _ h' _ (.lst (upV j.toNat)) from⟨by simp[upV,xI]; omega,acc'.toList,c',hv,by simpa using hS⟩),rfl,q _ I.fresh⟩
theorem Xq(n:Nat):Aas K H (upTo n) (upV n):=by
 unfold upTo upV
 generalize cF n=l
 induction l with
 | nil=>exact Aao.mpr rfl
 | cons a l ih=>exact Aah.mpr ⟨_,_,rfl,Aan.mpr rfl,ih⟩
def HZ:List aA->Option aA
 | [.int j]=>if -4096≤j/\j≤4096 then some (.list (upTo j.toNat)) else none
 | _=>none
theorem TM{fe:EF}{pos1 pos2:bR}(hc:X.calm=true)(g1:Gl X "list")(m1:X.mg "list" = none)(g2:Gl X "range")(m2:X.mg "range" = none)(he:DE X e fe)
  (hs1:bK [Expr.Call (.Name "range" p2) [e] [] pos2] X.env=[(false,bM (Expr.Call (.Name "range" p2) [e] [] pos2) X.env)]:=by rfl) (hs2:bK [e] X.env=[(false,bM e X.env)]:=by rfl) :
  DF 1 X (.Call (.Name "list" p1) [.Call (.Name "range" p2) [e] [] pos2] [] pos1) (aO HZ (aG fe aM)):=by
 have h1:PE X (.Call (.Name "range" p2) [e] [] pos2) _:=KP Wv g2 m2 rfl (iR he lJ hs2) (by decide) (by decide) hs2 rfl
 have h2:PE X (.Call (.Name "list" p1) [.Call (.Name "range" p2) [e] [] pos2] [] pos1) _:=KP (Pn hc) g1 m1 rfl (iR h1 lJ hs1) (by decide) (by decide) hs1 rfl
 refine PE.imp h2 fun σ H Q gh=>?_
 obtain⟨P,ρ,d,hP,rs,ef,k⟩:=gh
 obtain⟨ds0,e0,ef⟩:=XBs ef
 obtain⟨d1,e1,e0⟩:=XBs e0
 have e0:[d1]=ds0:=by simpa [aM] using e0
 subst e0
 cases d1 with
 | int j=>
  obtain⟨hl,rfl⟩:=cN (show(if -4096≤j/\j≤4096 then some (rR (upTo j.toNat)) else none)=some d from ef)
  refine⟨P,ρ,.int j,hP,rs,e1,dU fun v H1 x1 r1=>?_⟩
  obtain rfl:=Aan.mp r1
  refine⟨j,rfl,fun a hn=>⟨a,j,rfl,eO,hl.1,hl.2,fun l hl2=>?_⟩⟩
  have x2:Ext H (upd H1 a (.rng 0 j)):=x1.trans (Ext.new hn)
  exact(k.mono x2).lst (hP.ext x2) hl2 (Xq _)
 | _=>cases ef
theorem Ju(h:(fJ P w).is k u=true):RelV (kV k) u:=by
 rcases nG h with⟨i,tk,e1,e2⟩ | ⟨x,tk,e1,e2⟩
 ·rw[e1,e2]; exact⟨tk,rfl⟩
 ·rw[e1,e2]; exact⟨tk,rfl⟩
theorem QQ : ∀ {kvs:List (aI×V)} {vs:List (aI×aE)} {i:Nat} {kv:aI×V},KV kvs vs->kvs[i]?=some kv -> ∃ u,vs[i]?=some u/\kv.1=u.1/\RelV kv.2 u.2
 | _,_,0,_,.cons h _,e=>by
  cases e
  exact⟨_,rfl,h.1,h.2⟩
 | _,_,i+1,_,.cons _ t,e=>by
  obtain⟨u,g⟩:=QQ (i:=i) t (by simpa using e)
  exact⟨u,by simpa using g⟩
section
variable {l:aS}
theorem SN {K:aK}{H:Hp} : ∀ {kds:List (aA×aA)} {kvs:List (aI×V)} {i:Nat} {kd:aA×aA},Ab4 K H kds kvs->kds[i]?=some kd -> ∃ kv,kvs[i]?=some kv/\kd.1=kD kv.1/\Abq K H kd.2 kv.2
 | (k,d)::ds,kvs,0,kd,r,e=>by
  obtain⟨k',y,t,rfl,ek,h1,h2⟩:=Abh.mp r
  cases e
  exact⟨(k',y),rfl,ek,h1⟩
 | (k,d)::ds,kvs,i+1,kd,r,e=>by
  obtain⟨k',y,t,rfl,ek,h1,h2⟩:=Abh.mp r
  obtain⟨kv,g1,g2⟩:=SN (i:=i) h2 (by simpa using e)
  exact⟨kv,by simpa using g1,g2⟩
theorem Jx(h:cQ (kD k)=true):Abq K H (kD k) (kV k):=by
 cases k with
 | inl i=>exact Aan.mpr rfl
 | inr x=>exact Aa7.mpr ⟨rfl,h⟩
end
theorem EN:entryFor table "dict.update.loop" = some Builtin.«dict.update.loop»:=entryFor_of_tree (by kernel_rfl)
theorem rH:plainId "dict.update.loop" = true:=by decide +kernel
theorem Sf:typeLookup (.type "list") "keys" = pure none:=by rw[typeLookup_type,builtinLookup_eq_fast]; kernel_rfl
theorem RC{xs:Array aE}{k:Nat}{Q:Option aE->aJ->Prop}(hx:s.heap.get? a=some { cls:=.type "list",dict:=none,data:=.seq xs k,slots:=sl })(hA:A.handled=none)
  (h : ∀ h' tk,(∀ b o,s.heap.get? b=some o->h'.get? b=some o)->Q none { s with heap:=h',toks:=tk }):aN (aW prog w) A (getAttr? (.ref a) "keys") Q E s:=by
 obtain⟨hp,g,d,tk,os⟩:=s
 have hT : ∀ tk',(⟨hp,g,d,tk',os⟩:aJ).TypeIs (.ref a) "list":=fun _=>⟨_,hx,rfl⟩
 have f1:=sub_AttributeError
 have f3:=Cs.lookup
 have f4:=Cs.bind (.ref a)
 have f5:=am_list_getattr_none
 unfold getAttr? getAttrBy? getAttrBy
 repeat (any_goals (first | assumption | exact hT _ | ((with_reducible show aN _ _ (call (Value.builtin "list.__getattribute__") _ _) _ _ _); refine FQ Cs (hT _) am_entry_list_getattribute (F.args_list_getattribute_2 _ _) (meets_getattribute_miss_list a xs k sl _ _ Sf (by decide +kernel)) ⟨hx,hA,fun h' tk' e hx'=>?_⟩) | wp_step))
 obtain⟨t',u',he⟩:=hx'.there
 show aN _ _ (getattributeRaised _ _ _ _ _ _ _) _ _ _
 unfold getattributeRaised
 repeat (any_goals (first | assumption | wp_step))
 exact h _ _ hx'.keeps
def Ao7 (h:aY)(D:aD)(wr:List aD)(items:Array aE)(kvs:List (aI×aE)):Prop:=
 ∀ (j:Nat) v,items[j]?=some v -> ∃ b kv p,v = .ref b/\kvs[j]?=some p/\h.IsTuple b #[kv,p.2]/\(fJ prog w).is p.1 kv=true/\b≠D/\b∉wr
theorem Ao7.keep{D:aD}{kvs:List (aI×aE)}(q:Ao7 (prog:=prog) (w:=w) h D wr items kvs)(k : ∀ b o,b≠D->b∉wr->h.get? b=some o->h'.get? b=some o):Ao7 (prog:=prog) (w:=w) h' D wr items kvs:=fun j v e=>by
 obtain⟨b,kv,p,rfl,e1,⟨o,e2,e3⟩,e4,e5,e6⟩:=q j v e
 exact⟨b,kv,p,rfl,e1,⟨o,k b o e5 e6 e2,e3⟩,e4,e5,e6⟩
theorem WO : ∀ (more kvs:List (aI×aE)),(oQ kvs more).length≤kvs.length+more.length
 | [],kvs=>bI _
 | p::r,kvs=>by
  have h1:=WO r (uD kvs p.1 p.2)
  have h2:(uD kvs p.1 p.2).length≤kvs.length+1:=by
   unfold uD
   split <;> simp
  show(oQ (uD kvs p.1 p.2) r).length≤_
  rw[fN]
  omega
theorem Xr{I:aD}{fp:List aD}{G:Array BN->Array BN->Prop}{St:Nat->aJ->Prop}
  (W:WalksS prog w A.in1 I fp wr G n (fun i v=>items[i]?=some v) St) (D:aD) (hDf:D∉fp) (kvs:List (aI×aE)) (hn:n≤sizeLine) (hkl:kvs.length=n) :
  ∀ (k i:Nat) (s:aJ),n - i=k->i≤n->St i s->s.heap.DictOf (fJ prog w) D (oQ [] (kvs.take i))->Ao7 (prog:=prog) (w:=w) s.heap D wr items kvs ->
   (∀ s',Moved (D::wr) G s s'->s'.heap.DictOf (fJ prog w) D (oQ [] kvs)->R (.ok (.ret .none)) s') ->
   pW (aW prog w) A (.builtin "dict.update.loop" ⟨[.ref D,.ref I,jF (i:Int),.none],[]⟩) R s:=by
 have hDw:D∉wr:=fun z=>hDf (W.sub _ z)
 have more : ∀ b∈wr,b∈D::wr:=fun b z=>bT _ z
 intro k
 induction k with
 | zero=>
  intro i s hk hi hst hS hT hR
  obtain rfl:i=n:=by omega
  refine AV EN ?_
  rw[BS rH _]
  show aN _ A.in1 (iT (.ref I) >>= _) _ _ s
  refine aH (W.done s _ _ hst fun s' hm=>?_)
  show aN _ A.in1 (Builtin.Dict.addKeywords D [] >>= fun _=>ret dY) _ _ s'
  refine aH (aT (aT (hR s' (hm.mono more) ?_)))
  obtain⟨o,es,ep,ho,r⟩:=hS
  rw[← hkl,NT] at r
  exact⟨o,es,ep,hm.heap D o hDw ho,r⟩
 | succ k ih=>
  intro i s hk hi hst hS hT hR
  have hlt:i<n:=by omega
  refine AV EN ?_
  rw[BS rH _]
  show aN _ A.in1 (iT (.ref I) >>= _) _ _ s
  refine aH (W.item i s _ _ hlt hst fun v s' hPi hst' hm=>?_)
  have hT':=hT.keep (h':=s'.heap) fun b o _ h2 e=>hm.heap b o h2 e
  obtain⟨b,kv,p,rfl,e1,tb,e4,e5,e6⟩:=hT' i v hPi
  have hS':s'.heap.DictOf (fJ prog w) D (oQ [] (kvs.take i)):=by
   obtain⟨o,es,ep,ho,r⟩:=hS
   exact⟨o,es,ep,hm.heap D o hDw ho,r⟩
  have hstep:oQ [] (kvs.take (i+1))=uD (oQ [] (kvs.take i)) p.1 p.2:=by
   rw[FW,e1]
   simp[oQ,Cg]
  have hlen:(oQ [] (kvs.take i)).length≤sizeLine:=by
   have:=WO (kvs.take i) []
   rw[BK] at this
   simp at this
   omega
  refine aH (kH (aH (wpAny_tryCatch ?_)))
  unfold Builtin.Dict.pairItems
  refine aH (rP tb.typeIs ?_)
  obtain⟨ob,g1,g2,nb,g3⟩:=tb
  show aN _ _ (seqItems? (.ref b) >>= _) _ _ _
  refine aH (nM g1 g3 (aT ?_))
  show aN _ _ (pT [kv,p.2] (dictSet D kv p.2)) _ _ _
  refine kH (wpAny_dictSet_pairs (knd:=fJ prog w) e4 hS' (fun h' d' sb=>?_) hlen)
  refine aT ⟨xK rH _,?_⟩
  refine ih (i+1) _ (by omega) hlt (W.frame _ s' _ _ hst' (rS _) fun c hc o e=>?_) (by rw[hstep]; exact d') (hT'.keep fun b o h1 _ e=>(sb.2 b h1).trans e) fun s'' hm'' S4=>?_
  ·exact(sb.2 c (fun z=>hDf (z ▸ hc))).trans e
  ·exact hR s'' (Moved.trans W.gtrans ((hm.mono more).then_heap (rS _) fun c o hc e=>(sb.2 c (fun z=>hc (z ▸ bO))).trans e) hm'') S4
theorem Pt{nl:Nat}{kvs:List (aI×aE)}(hh:A.handled=none)(hl:s.heap.get? l=some { cls:=.type "list",dict:=none,data:=.seq items nl,slots:=sl })
  (hkl:kvs.length=items.size) (hz:items.size≤sizeLine) (hp : ∀ (j:Nat) v,items[j]?=some v -> ∃ b kv p,v = .ref b/\kvs[j]?=some p/\s.heap.IsTuple b #[kv,p.2]/\(fJ prog w).is p.1 kv=true)
  (h : ∀ h' tk,h'.DictOf (fJ prog w) s.heap.objs.size (oQ [] kvs)->(∀ b o,s.heap.get? b=some o->h'.get? b=some o)->Q (.ref s.heap.objs.size) { s with heap:=h',toks:=tk }) :
  aN (aW prog w) A (call (.type "dict") [.ref l]) Q E s:=by
 refine callType_codes (Q₁:=fun obj s₁=>obj = .ref s.heap.objs.size/\s₁ = { s with heap:=s.heap.push { cls:=.type "dict",data:=.dict #[] } }) F.kt_called_dict (F.kt_typeCall_dict_1 _) F.entry_dict_init (kt_code_dict_new _ ⟨rfl,rfl⟩) ?_
 rintro obj s₁ ⟨rfl,rfl⟩
 have dn:(s.heap.push { cls:=.type "dict",data:=.dict #[] }).DictOf (fJ prog w) s.heap.objs.size []:=Heap.DictOf.new s.heap
 have l1:(s.heap.push { cls:=.type "dict",data:=.dict #[] }).get? l=some { cls:=.type "list",dict:=none,data:=.seq items nl,slots:=sl }:=cC _ hl
 refine⟨dn.typeIs,F.args_dict_init_2 _ _,?_⟩
 unfold Builtin.«dict.__init__»
 refine aH ?_
 unfold Builtin.Dict.selfAndRest
 refine aH (MY dn.typeIs (aT ?_))
 show aN _ _ (OP "dict.__init__" s.heap.objs.size (.ref l) [] .none) _ _ _
 unfold OP
 refine aH (rP (T:="list") ⟨_,l1,rfl⟩ ?_)
 rw[if_pos (by decide)]
 refine aH (RC l1 (by simp[hh]) fun h1 tk k1=>?_)
 show aN _ _ (rule _ >>= fun _=>nN (.ref l) >>= _) _ _ _
 have l2:h1.get? l=some { cls:=.type "list",dict:=none,data:=.seq items nl,slots:=sl }:=k1 _ _ l1
 have L2:h1.IsList l items:=⟨_,l2,rfl,nl,rfl⟩
 refine aH (uC (aH (FN L2 (aT ⟨xK rH _,?_⟩))))
 have lS:l<s.heap.objs.size:=cA hl
 have d1:h1.DictOf (fJ prog w) s.heap.objs.size []:=by
  obtain⟨o,es,ep,ho,r⟩:=dn
  exact⟨o,es,ep,k1 _ _ ho,r⟩
 have sD:s.heap.objs.size<h1.objs.size:=by
  obtain⟨o,es,ep,ho,r⟩:=d1
  exact cA ho
 have nI:l≠h1.objs.size:=dX (BD lS sD)
 have nS:s.heap.objs.size∉[h1.objs.size,l]:=fun z=>by
  rcases cY.mp z with z | z
  ·exact absurd z (dX sD)
  ·exact absurd (cG.mp z) (nQ lS)
 have old : ∀ b o,s.heap.get? b=some o->(h1.push { cls:=.type "list_iterator",data:=.fields #[.ref l,.int 0 0] }).get? b=some o:=fun b o e=>cC _ (k1 _ _ (cC _ e))
 refine Xr (w:=w) ((Walks.list (by simp[hh]) _ l nI items).toS) s.heap.objs.size nS kvs hz hkl (items.size - 0) 0 _ rfl (fG _) ⟨⟨_,dQ _ rfl,rfl,rfl⟩,L2.push _⟩ (d1.push _) ?_ fun s' hm S'=>?_
 ·intro j v e
  obtain⟨b,kv,p,rfl,e1,⟨o,e2,e3⟩,e4⟩:=hp j v e
  have lb:b<s.heap.objs.size:=cA e2
  exact⟨b,kv,p,rfl,e1,⟨o,old b o e2,e3⟩,e4,dX lb,fun z=>absurd (cG.mp z) (dX (BD lb sD))⟩
 ·obtain⟨h',g',d',tk',os'⟩:=s'
  obtain rfl:g'=s.gens:=hm.gens
  obtain rfl:d'=s.drawn:=hm.drawn
  obtain rfl:os'=s.os:=hm.os
  refine⟨rfl,h h' tk' S' fun b o e=>?_⟩
  have lb:b<s.heap.objs.size:=cA e
  refine hm.heap b o (fun z=>?_) (old b o e)
  rcases cY.mp z with z | z
  ·exact absurd z (dX lb)
  ·exact absurd (cG.mp z) (dX (BD lb sD))
theorem QP {α β:Type}{R R':α->β->Prop}(f : ∀ a b,R a b->R' a b) : ∀ {as:List α} {bs:List β},iF R as bs->iF R' as bs:=by
 intro as bs h
 induction h with
 | nil=>exact .nil
 | cons h _ ih=>exact .cons (f _ _ h) ih
abbrev HR (K:aK)(H:Hp)(ys:List V)(ps:List (aI×V)):Prop:=iF (fun y (p:aI×V)=>∃ b,y=V.ref b/\SqT K H b [kV p.1,p.2]) ys ps
theorem Vk{σ:St}(I:Inv X pins σ H s) : ∀ {ys:List V} {ps:List (aI×V)} {its:List aE},HR X.K H ys ps->Vals ys its ->
  ∃ kvs:List (aI×aE),KV ps kvs/\kvs.length=its.length /\ ∀ (j:Nat) v,its[j]?=some v -> ∃ b kv p,v = .ref b/\kvs[j]?=some p/\s.heap.IsTuple b #[kv,p.2]/\(fJ X.prog X.w).is p.1 kv=true:=by
 intro ys ps its hp
 induction hp generalizing its with
 | nil=>
  intro r
  cases r
  exact⟨[],.nil,rfl,fun j v e=>by simp at e⟩
 | @cons y p ys ps hq t ih=>
  intro r
  obtain⟨b,e,q⟩:=hq
  subst e
  cases r with
  | cons r rr=>
   cases r
   obtain⟨kvs,h1,h2,h3⟩:=ih rr
   obtain⟨us,rv,tb,_⟩:=I.tuple q
   cases rv with
   | cons ra rb=>
    cases rb with
    | cons rb rc=>
     cases rc
     refine⟨(p.1,_)::kvs,.cons ⟨rfl,rb⟩ h1,by simp[h2],fun j v e=>?_⟩
     cases j with
     | zero=>
      cases e
      exact⟨b,_,(p.1,_),rfl,rfl,tb,uY ra⟩
     | succ j=>exact h3 j v (by simpa using e)
theorem Rc (hc:X.calm=true):Aek X (.type "dict") (fun xs H Q=>∃ p ys ps,xs=[.ref p]/\SqL X.K H p ys/\HR X.K H ys ps /\ ∀ q n,H q=none->Q (.ref q) (upd H q (.dK n (pF [] ps)))):=by
 intro pins s σ H xs us Q I r h
 obtain⟨p,ys,ps,rfl,hp,hv,q⟩:=h
 obtain⟨u,rfl,ru⟩:=vals1 r
 cases ru
 obtain⟨its,rv,⟨o,n,ho,hc1,hc2,hc3⟩,hz⟩:=I.list hp
 obtain⟨kvs,h1,h2,h3⟩:=Vk I hv rv
 have e1:ys.length=its.length:=rv.length
 obtain⟨c,dct,dat,sl⟩:=o
 simp only at hc1 hc2 hc3
 subst hc1 hc2 hc3
 refine Pt (I.ok.hd hc) ho (kvs:=kvs) (by rw[eB]; exact h2) (by rw[eB]; omega) (fun j v e=>h3 j v (by simpa using e)) fun h' tk dd hk=>?_
 obtain⟨m,da⟩:=dd.dictAt
 have lz:(pF [] ps).length≤sizeLine:=by
  have l1:=YB ps []
  have l2:ps.length=kvs.length:=uK h1
  simp at l1
  omega
 exact⟨.ref s.heap.objs.size,_,I.laid (a:=s.heap.objs.size) (o:=.dK m (pF [] ps)) (t':=tk) hk (bI _) (CI lz (beq_eq_false_iff_ne.mpr (gZ (dX I.big))) (h1.merge .nil) da),rfl,q _ m I.fresh⟩
def sN:List aA->Option (List (aI×aA))
 | []=>some []
 | .tuple [k,d]::r=>(bP k).bind fun k=>(sN r).bind fun ps=>some ((k,d)::ps)
 | _::_=>none
def tM (ps:List (aI×aA))(kds:List (aA×aA)):List (aA×aA):=ps.foldl (fun acc p=>putD acc p.1 p.2) kds
def CH:List aA->Option aA
 | [.list ds]=>(sN ds).bind fun ps=>some (.dict (tM ps []))
 | _=>none
theorem Xp : ∀ {ps:List (aI×aA)} {qs:List (aI×V)},iF (fun(p:aI×aA) (q:aI×V)=>p.1=q.1/\Abq K H p.2 q.2) ps qs -> ∀ {kds:List (aA×aA)} {kvs:List (aI×V)},Ab4 K H kds kvs->Ab4 K H (tM ps kds) (pF kvs qs):=by
 intro ps qs hp
 induction hp with
 | nil=>exact fun r=>r
 | @cons p q ps qs hq t ih=>
  intro kds kvs r
  have:=ih (CJ (k:=p.1) r hq.2)
  show Ab4 K H (tM _ (putD kds p.1 p.2)) (pF (putK kvs q.1 q.2) _)
  rw[← hq.1]
  exact this
theorem Ve : ∀ {ds:List aA} {ps:List (aI×aA)} {ys:List V},sN ds=some ps->Aas K H ds ys -> ∃ qs:List (aI×V),iF (fun(y:V) (q:aI×V)=>∃ b,y=V.ref b/\H b=some (.tup [kV q.1,q.2])) ys qs/\iF (fun(p:aI×aA) (q:aI×V)=>p.1=q.1/\Abq K H p.2 q.2) ps qs:=by
 intro ds
 induction ds with
 | nil=>
  intro ps ys e r
  cases e
  rw[Aao.mp r]
  exact⟨[],.nil,.nil⟩
 | cons z ds ih=>
  intro ps ys e r
  cases z with
  | tuple zs=>
   cases zs with
   | nil=>cases e
   | cons k zs=>
    cases zs with
    | nil=>cases e
    | cons d zs=>
     cases zs with
     | cons _ _=>cases e
     | nil=>
      obtain⟨key,e1,e⟩:=XBs (show((bP k).bind fun k=>(sN ds).bind fun ps=>some ((k,d)::ps))=some ps from e)
      obtain⟨ps',e2,e⟩:=XBs e
      cases e
      obtain⟨v,t,rfl,r1,r2⟩:=Aah.mp r
      obtain⟨qs,h1,h2⟩:=ih e2 r2
      obtain⟨b,xs,rfl,hb,rx⟩:=Aar.mp r1
      obtain⟨u1,t1,rfl,a1,a2⟩:=Aah.mp rx
      obtain⟨u2,rfl,a3⟩:=hZ a2
      rw[kG e1 a1] at hb
      exact⟨(key,u2)::qs,.cons ⟨b,rfl,hb⟩ h1,.cons ⟨rfl,a3⟩ h2⟩
  | _=>cases e
theorem Qa:CallD K 1 (fun xs H Q=>∃ p ys ps,xs=[.ref p]/\SqL K H p ys/\HR K H ys ps /\ ∀ q n,H q=none->Q (.ref q) (upd H q (.dK n (pF [] ps)))) CH:=fun P H xs ds d Q hP r e k=>by
 unfold CH at e
 split at e
 ·obtain⟨ps,e1,e2⟩:=XBs e
  cases e2
  obtain⟨v,rfl,r'⟩:=hZ r
  obtain⟨q,ys,rfl,hq,rr⟩:=Abk.mp r'
  obtain⟨qs,h1,h2⟩:=Ve e1 rr
  refine⟨q,ys,qs,rfl,Aau.sqL hq,?_,fun l n hn=>k.dic hP hn (Xp h2 (Acf.mpr rfl))⟩
  exact QP (fun y p ⟨b,e,hb⟩=>⟨b,e,SqT.of (Aau _ _ hb)⟩) h1
 ·cases e
abbrev TE3:=List aA×aD×aE
def kC (xs more:List TE3):List TE3:=more.foldl (fun acc p=>pR acc p.1 p.2.1 p.2.2) xs
theorem Rg {xs:List TE3}{k:List aA}{v:aE}{x:TE3}(m:x∈pR xs k a v):(x.1=k/\x.2.1=a) \/ ∃ y∈xs,x.1=y.1/\x.2.1=y.2.1:=by
 cases e:oR xs k with
 | none=>
  rw[storedH_new e] at m
  rcases fY.mp m with m | m
  ·exact .inr ⟨x,m,rfl,rfl⟩
  ·rw[cG.mp m]; exact .inl ⟨rfl,rfl⟩
 | some p=>
  rw[storedH_old e] at m
  obtain⟨y,my,rfl⟩:=dC.mp m
  refine .inr ⟨y,my,?_⟩
  unfold putAt
  by_cases q:y.1=k
  ·rw[if_pos q]; exact⟨rfl,rfl⟩
  ·rw[if_neg q]; exact⟨rfl,rfl⟩
theorem Qt (xs:List TE3)(k:List aA)(a:aD)(v:aE):(pR xs k a v).length≤xs.length+1:=by
 cases e:oR xs k with
 | none=>rw[storedH_new e]; simp
 | some p=>rw[storedH_old e]; simp
theorem XM : ∀ (more:List TE3) {xs:List TE3} {x:TE3},x∈kC xs more->(∃ p∈more,x.1=p.1/\x.2.1=p.2.1) \/ ∃ y∈xs,x.1=y.1/\x.2.1=y.2.1
 | [],xs,x,m=>.inr ⟨x,m,rfl,rfl⟩
 | p::r,xs,x,m=>by
  rcases XM r (show x∈kC (pR xs p.1 p.2.1 p.2.2) r from m) with⟨q,mq,e⟩ | ⟨y,my,e1,e2⟩
  ·exact .inl ⟨q,bT _ mq,e⟩
  ·rcases Rg my with⟨a1,a2⟩ | ⟨z,mz,a1,a2⟩
   ·exact .inl ⟨p,bO,e1.trans a1,e2.trans a2⟩
   ·exact .inr ⟨z,mz,e1.trans a1,e2.trans a2⟩
theorem XQ : ∀ (more xs:List TE3),(kC xs more).length≤xs.length+more.length
 | [],xs=>bI _
 | p::r,xs=>by
  have h1:=XQ r (pR xs p.1 p.2.1 p.2.2)
  have h2:=Qt xs p.1 p.2.1 p.2.2
  show(kC (pR xs p.1 p.2.1 p.2.2) r).length≤_
  rw[fN]
  omega
theorem UZ {h0:aY}{D:aD}{xs:List TE3}(e : ∀ o,h.get? D=some o->h'.get? D=some o)(hs : ∀ x∈xs,Ag1 h0 x.1 x.2.1)(hk : ∀ b o,h0.get? b=some o->h'.get? b=some o)(d:h.DictOfH (iA prog w) D xs):h'.DictOfH (iA prog w) D xs:=by
 obtain⟨o,es,ep,ho,h1,h2,h3,_,h5⟩:=d
 exact⟨o,es,ep,e o ho,h1,h2,h3,fun x hx=>(hs x hx).keep fun b o _ _ e _ _=>hk b o e,h5⟩
theorem Ow{I:aD}{fp:List aD}{G:Array BN->Array BN->Prop}{St:Nat->aJ->Prop}
  (W:WalksS prog w A.in1 I fp wr G n (fun i v=>items[i]?=some v) St) (D:aD) (hDf:D∉fp) (kvs:List TE3) (hn:n≤sizeLine) (hkl:kvs.length=n) (hu:A.units+40<cLine) {h0:aY} (hD0:h0.get? D=none) (hw0 : ∀ b∈wr,h0.get? b=none)
  (hp : ∀ (j:Nat) v,items[j]?=some v -> ∃ b p,v = .ref b/\kvs[j]?=some p/\h0.IsTuple b #[.ref p.2.1,p.2.2]) (hk0 : ∀ p∈kvs,Ag1 h0 p.1 p.2.1) :
  ∀ (k i:Nat) (s:aJ),n - i=k->i≤n->St i s->s.heap.DictOfH (iA prog w) D (kC [] (kvs.take i))->(∀ b o,h0.get? b=some o->s.heap.get? b=some o) ->
   (∀ s',Moved (D::wr) G s s'->s'.heap.DictOfH (iA prog w) D (kC [] kvs)->R (.ok (.ret .none)) s') ->
   pW (aW prog w) A (.builtin "dict.update.loop" ⟨[.ref D,.ref I,jF (i:Int),.none],[]⟩) R s:=by
 have hDw:D∉wr:=fun z=>hDf (W.sub _ z)
 have more : ∀ b∈wr,b∈D::wr:=fun b z=>bT _ z
 have nw : ∀ b o,h0.get? b=some o->b∉wr:=fun b o e z=>by rw[hw0 b z] at e; cases e
 have nD : ∀ b o,h0.get? b=some o->b≠D:=fun b o e z=>by rw[z,hD0] at e; cases e
 have kin : ∀ i,∀ x∈kC [] (kvs.take i),Ag1 h0 x.1 x.2.1:=fun i x m=>by
  rcases XM _ m with⟨p,mp,e1,e2⟩ | ⟨y,my,_⟩
  ·rw[e1,e2]; exact hk0 p (List.mem_of_mem_take mp)
  ·simp at my
 intro k
 induction k with
 | zero=>
  intro i s hk hi hst hS hT hR
  obtain rfl:i=n:=by omega
  refine AV EN ?_
  rw[BS rH _]
  show aN _ A.in1 (iT (.ref I) >>= _) _ _ s
  refine aH (W.done s _ _ hst fun s' hm=>?_)
  show aN _ A.in1 (Builtin.Dict.addKeywords D [] >>= fun _=>ret dY) _ _ s'
  refine aH (aT (aT (hR s' (hm.mono more) ?_)))
  have:=UZ (h':=s'.heap) (fun o e=>hm.heap D o hDw e) (kin i) (fun b o e=>hm.heap b o (nw b o e) (hT b o e)) hS
  rw[← hkl,NT] at this
  exact this
 | succ k ih=>
  intro i s hk hi hst hS hT hR
  have hlt:i<n:=by omega
  refine AV EN ?_
  rw[BS rH _]
  show aN _ A.in1 (iT (.ref I) >>= _) _ _ s
  refine aH (W.item i s _ _ hlt hst fun v s' hPi hst' hm=>?_)
  have hT' : ∀ b o,h0.get? b=some o->s'.heap.get? b=some o:=fun b o e=>hm.heap b o (nw b o e) (hT b o e)
  obtain⟨b,p,rfl,e1,tb0⟩:=hp i v hPi
  have tb:s'.heap.IsTuple b #[.ref p.2.1,p.2.2]:=by
   obtain⟨o,a1,a2⟩:=tb0
   exact⟨o,hT' b o a1,a2⟩
  have mp:p∈kvs:=fL e1
  have hS':s'.heap.DictOfH (iA prog w) D (kC [] (kvs.take i)):=UZ (fun o e=>hm.heap D o hDw e) (kin i) hT' hS
  have hstep:kC [] (kvs.take (i+1))=pR (kC [] (kvs.take i)) p.1 p.2.1 p.2.2:=by
   rw[FW,e1]
   simp[kC,Cg]
  have hlen:(kC [] (kvs.take i)).length≤sizeLine:=by
   have:=XQ (kvs.take i) []
   rw[BK] at this
   simp at this
   omega
  have hkey:(iA prog w).is s'.heap p.1 p.2.1:=(hk0 p mp).keep fun b o _ _ e _ _=>hT' b o e
  refine aH (kH (aH (wpAny_tryCatch ?_)))
  unfold Builtin.Dict.pairItems
  refine aH (rP tb.typeIs ?_)
  obtain⟨ob,g1,g2,nb,g3⟩:=tb
  show aN _ _ (seqItems? (.ref b) >>= _) _ _ _
  refine aH (nM g1 g3 (aT ?_))
  show aN _ _ (pT [.ref p.2.1,p.2.2] (dictSet D (.ref p.2.1) p.2.2)) _ _ _
  refine kH (wpAny_dictSet_heap (knd:=iA prog w) ?_ hkey hS' (fun h' d' sb=>?_) hlen)
  ·show _+20<cLine
   have:A.in1.units=A.units+1:=rfl
   simp
   omega
  refine aT ⟨xK rH _,?_⟩
  refine ih (i+1) _ (by omega) hlt (W.frame _ s' _ _ hst' (Nat.le_add_right _ _) fun c hc o e=>?_) (by rw[hstep]; exact d') (fun b o e=>(sb.2 b (nD b o e)).trans (hT' b o e)) fun s'' hm'' S4=>?_
  ·exact(sb.2 c (fun z=>hDf (z ▸ hc))).trans e
  ·exact hR s'' (Moved.trans W.gtrans ((hm.mono more).then_heap (Nat.le_add_right _ _) fun c o hc e=>(sb.2 c (fun z=>hc (z ▸ bO))).trans e) hm'') S4
theorem Qg{nl:Nat}{kvs:List TE3}(hu:A.units+90<cLine)(hh:A.handled=none)(hl:s.heap.get? l=some { cls:=.type "list",dict:=none,data:=.seq items nl,slots:=sl })
  (hkl:kvs.length=items.size) (hz:items.size≤sizeLine) (hp : ∀ (j:Nat) v,items[j]?=some v -> ∃ b p,v = .ref b/\kvs[j]?=some p/\s.heap.IsTuple b #[.ref p.2.1,p.2.2]) (hk0 : ∀ p∈kvs,Ag1 s.heap p.1 p.2.1)
  (h : ∀ h' tk,h'.DictOfH (iA prog w) s.heap.objs.size (kC [] kvs)->(∀ b o,s.heap.get? b=some o->h'.get? b=some o)->Q (.ref s.heap.objs.size) { s with heap:=h',toks:=tk }) :
  aN (aW prog w) A (call (.type "dict") [.ref l]) Q E s:=by
 refine callType_codes (Q₁:=fun obj s₁=>obj = .ref s.heap.objs.size/\s₁ = { s with heap:=s.heap.push { cls:=.type "dict",data:=.dict #[] } }) F.kt_called_dict (F.kt_typeCall_dict_1 _) F.entry_dict_init (kt_code_dict_new _ ⟨rfl,rfl⟩) ?_
 rintro obj s₁ ⟨rfl,rfl⟩
 have dn:(s.heap.push { cls:=.type "dict",data:=.dict #[] }).DictOfH (iA prog w) s.heap.objs.size []:=Heap.DictOfH.new s.heap
 have l1:(s.heap.push { cls:=.type "dict",data:=.dict #[] }).get? l=some { cls:=.type "list",dict:=none,data:=.seq items nl,slots:=sl }:=cC _ hl
 refine⟨dn.typeIs,F.args_dict_init_2 _ _,?_⟩
 unfold Builtin.«dict.__init__»
 refine aH ?_
 unfold Builtin.Dict.selfAndRest
 refine aH (MY dn.typeIs (aT ?_))
 show aN _ _ (OP "dict.__init__" s.heap.objs.size (.ref l) [] .none) _ _ _
 unfold OP
 refine aH (rP (T:="list") ⟨_,l1,rfl⟩ ?_)
 rw[if_pos (by decide)]
 refine aH (RC l1 (by simp[hh]) fun h1 tk k1=>?_)
 show aN _ _ (rule _ >>= fun _=>nN (.ref l) >>= _) _ _ _
 have l2:h1.get? l=some { cls:=.type "list",dict:=none,data:=.seq items nl,slots:=sl }:=k1 _ _ l1
 have L2:h1.IsList l items:=⟨_,l2,rfl,nl,rfl⟩
 refine aH (uC (aH (FN L2 (aT ⟨xK rH _,?_⟩))))
 have lS:l<s.heap.objs.size:=cA hl
 have d1:h1.DictOfH (iA prog w) s.heap.objs.size []:=by
  obtain⟨o,es,ep,ho,a1,a2,a3,_,a5⟩:=dn
  exact⟨o,es,ep,k1 _ _ ho,a1,a2,a3,fun x hx=>by simp at hx,a5⟩
 have sD:s.heap.objs.size<h1.objs.size:=by
  obtain⟨o,es,ep,ho,r⟩:=d1
  exact cA ho
 have nI:l≠h1.objs.size:=dX (BD lS sD)
 have nS:s.heap.objs.size∉[h1.objs.size,l]:=fun z=>by
  rcases cY.mp z with z | z
  ·exact absurd z (dX sD)
  ·exact absurd (cG.mp z) (nQ lS)
 have old : ∀ b o,s.heap.get? b=some o->(h1.push { cls:=.type "list_iterator",data:=.fields #[.ref l,.int 0 0] }).get? b=some o:=fun b o e=>cC _ (k1 _ _ (cC _ e))
 have out : ∀ b,s.heap.objs.size≤b->s.heap.get? b=none:=fun b hb=>by
  cases e:s.heap.get? b with
  | none=>rfl
  | some o=>exact absurd (cA e) (Nat.not_lt.mpr hb)
 have d2:(h1.push { cls:=.type "list_iterator",data:=.fields #[.ref l,.int 0 0] }).DictOfH (iA prog w) s.heap.objs.size []:=by
  obtain⟨o,es,ep,ho,a1,a2,a3,_,a5⟩:=d1
  exact⟨o,es,ep,cC _ ho,a1,a2,a3,fun x hx=>by simp at hx,a5⟩
 refine Ow (w:=w) ((Walks.list (by simp[hh]) _ l nI items).toS) s.heap.objs.size nS kvs hz hkl (by simp; omega) (h0:=s.heap) (out _ (bI _)) (fun b z=>out b (by
  rw[cG.mp z]
  exact qC sD)) hp hk0 (items.size - 0) 0 _ rfl (fG _) ⟨⟨_,dQ _ rfl,rfl,rfl⟩,L2.push _⟩ d2 old fun s' hm S'=>?_
 obtain⟨h',g',d',tk',os'⟩:=s'
 obtain rfl:g'=s.gens:=hm.gens
 obtain rfl:d'=s.drawn:=hm.drawn
 obtain rfl:os'=s.os:=hm.os
 refine⟨rfl,h h' tk' S' fun b o e=>?_⟩
 have lb:b<s.heap.objs.size:=cA e
 refine hm.heap b o (fun z=>?_) (old b o e)
 rcases cY.mp z with z | z
 ·exact absurd z (dX lb)
 ·exact absurd (cG.mp z) (dX (BD lb sD))
abbrev HJ (K:aK)(H:Hp)(ys:List V)(ps:List (List aA×V)):Prop:=iF (fun y (p:List aA×V)=>∃ b c,y=V.ref b/\SqT K H b [.ref c,p.2]/\Alm H p.1 c) ys ps
def oE (kvs more:List (List aA×V)):List (List aA×V):=more.foldl (fun acc kv=>putK acc kv.1 kv.2) kvs
theorem YF : ∀ (more kvs:List (List aA×V)),(oE kvs more).length≤kvs.length+more.length
 | [],kvs=>by show kvs.length≤kvs.length+0; omega
 | p::r,kvs=>by
  have h1:=YF r (putK kvs p.1 p.2)
  have h2:=zS kvs p.1 p.2
  show(oE (putK kvs p.1 p.2) r).length≤_
  rw[fN]; omega
theorem KT.merge : ∀ {more:List (List aA×V)} {rs:List TE3} {kvs:List (List aA×V)} {vs:List TE3},KT H more rs->KT H kvs vs->KT H (oE kvs more) (kC vs rs):=by
 intro more rs kvs vs r
 induction r generalizing kvs vs with
 | nil=>intro q; exact q
 | @cons p q ps qs h t ih=>
  intro z
  obtain⟨h1,h2,h3⟩:=h
  have:=z.put p.1 h2 h3
  show KT H (oE (putK kvs p.1 p.2) ps) (kC (pR vs q.1 q.2.1 q.2.2) qs)
  rw[← h1]
  exact ih this
theorem WA{σ:St}(I:Inv X pins σ H s) : ∀ {ys:List V} {ps:List (List aA×V)} {its:List aE},HJ X.K H ys ps->Vals ys its ->
  ∃ kvs:List TE3,KT H ps kvs/\kvs.length=its.length/\(∀ (j:Nat) v,its[j]?=some v -> ∃ b p,v = .ref b/\kvs[j]?=some p/\s.heap.IsTuple b #[.ref p.2.1,p.2.2]) /\ ∀ p∈kvs,Ag1 s.heap p.1 p.2.1
 | _,_,_,.nil,.nil=>⟨[],.nil,rfl,fun j v e=>by simp at e,fun p m=>by simp at m⟩
 | _,_,_,.cons (b:=p) ⟨b,c,e,q,tk⟩ t,.cons r rr=>by
  subst e
  cases r
  obtain⟨kvs,h1,h2,h3,h4⟩:=WA I t rr
  obtain⟨us,rv,tb,_⟩:=I.tuple q
  cases rv with
  | cons ra rb=>
   cases ra
   cases rb with
   | cons rb rc=>
    cases rc
    refine⟨(p.1,c,_)::kvs,.cons ⟨rfl,tk,rb⟩ h1,by simp[h2],fun j v e=>?_,fun z m=>?_⟩
    ·cases j with
     | zero=>
      cases e
      exact⟨b,(p.1,c,_),rfl,rfl,tb⟩
     | succ j=>exact h3 j v (by simpa using e)
    ·rcases cY.mp m with rfl | m
     ·exact key_of I.hok tk
     ·exact h4 z m
theorem MC (hu:X.A.units+100<cLine)(hc:X.calm=true):Aek X (.type "dict") (fun xs H Q=>∃ p ys ps,xs=[.ref p]/\SqL X.K H p ys/\HJ X.K H ys ps /\ ∀ q n,H q=none->Q (.ref q) (upd H q (.dT n (oE [] ps)))):=by
 intro pins s σ H xs us Q I r h
 obtain⟨p,ys,ps,rfl,hp,hv,q⟩:=h
 obtain⟨u,rfl,ru⟩:=vals1 r
 cases ru
 obtain⟨its,rv,⟨o,n,ho,hc1,hc2,hc3⟩,hz⟩:=I.list hp
 obtain⟨kvs,h1,h2,h3,h4⟩:=WA I hv rv
 have e1:ys.length=its.length:=rv.length
 obtain⟨c,dct,dat,sl⟩:=o
 simp only at hc1 hc2 hc3
 subst hc1 hc2 hc3
 refine Qg (by omega) (I.ok.hd hc) ho (kvs:=kvs) (by rw[eB]; exact h2) (by rw[eB]; omega) (fun j v e=>h3 j v (by simpa using e)) h4 fun h' tk dd hk=>?_
 have lz:(oE [] ps).length≤sizeLine:=by
  have l1:=YF ps []
  have l2:ps.length=kvs.length:=uK h1
  simp at l1
  omega
 obtain⟨qo,es,ep,a1,a2,a3,a4,_,a5⟩:=dd
 have fr:H s.heap.objs.size=none:=I.hok.fresh (bI _)
 exact⟨.ref s.heap.objs.size,_,I.laid (a:=s.heap.objs.size) (o:=.dT ep (oE [] ps)) (t':=tk) hk (bI _) ⟨lz,beq_eq_false_iff_ne.mpr (gZ (dX I.big)),_,(h1.merge .nil).keeps fun b zs e=>by rw[cP (jT e fr)]; exact e,qo,es,a1,a2,a3,a4,a5⟩,rfl,q _ ep I.fresh⟩
def sO:List aA->Option (List (List aA×aA))
 | []=>some []
 | .tuple [.tuple k,d]::r=>if (bU k&&decide (dA k≤6))=true then(sO r).bind fun ps=>some ((k,d)::ps) else none
 | _::_=>none
def kO (kds:List (aA×aA))(k:List aA)(d:aA):List (aA×aA):=if (iN kds k).isSome=true then kds.map fun kd=>if cJ kd.1 (.tuple k)=true then(kd.1,d) else kd else kds++[(.tuple k,d)]
def yL (ps:List (List aA×aA))(kds:List (aA×aA)):List (aA×aA):=ps.foldl (fun acc p=>kO acc p.1 p.2) kds
def vY:List aA->Option aA
 | [.list ds]=>(sO ds).bind fun ps=>some (.dict ((.none,.none)::yL ps []))
 | _=>none
theorem KG{k:List aA}(hk:bU k=true)(rv:Abq K H d v) : ∀ {kds:List (aA×aA)} {kvs:List (List aA×V)},Abu K H kds kvs ->
  Abu K H (kds.map fun kd=>if cJ kd.1 (.tuple k)=true then(kd.1,d) else kd) (kvs.map fun kv=>if kv.1=k then(kv.1,v) else kv)
 | [],kvs,h=>by rw[Acj.mp h]; exact Acj.mpr rfl
 | (k0,d0)::r,kvs,h=>by
  obtain⟨k',x,rr,rfl,⟨rfl,hk'⟩,h1,h2⟩:=Abm.mp h
  have e:cJ (.tuple k') (.tuple k)=decide (k'=k):=by rw[Ad,zK _ _ hk' hk]
  rw[dH,dH]
  by_cases q:k'=k
  ·rw[if_pos q,if_pos (by rw[e]; exact decide_eq_true q)]
   exact Abm.mpr ⟨k',v,_,rfl,⟨rfl,hk'⟩,rv,KG hk rv h2⟩
  ·rw[if_neg q,if_neg (by rw[e,decide_eq_false q]; simp)]
   exact Abm.mpr ⟨k',x,_,rfl,⟨rfl,hk'⟩,h1,KG hk rv h2⟩
theorem Abu.snoc{k:List aA}(hk:bU k=true)(rv:Abq K H d v) : ∀ {kds:List (aA×aA)} {kvs:List (List aA×V)},Abu K H kds kvs->Abu K H (kds++[(.tuple k,d)]) (kvs++[(k,v)])
 | [],kvs,h=>by rw[Acj.mp h]; exact Abm.mpr ⟨k,v,[],rfl,⟨rfl,hk⟩,rv,Acj.mpr rfl⟩
 | (k0,d0)::r,kvs,h=>by
  obtain⟨k',x,rr,rfl,e,h1,h2⟩:=Abm.mp h
  exact Abm.mpr ⟨k',x,_,rfl,e,h1,Abu.snoc hk rv h2⟩
theorem SH{k:List aA}(hk:bU k=true)(h:Abu K H kds kvs)(rv:Abq K H d v):Abu K H (kO kds k d) (putK kvs k v):=by
 unfold kO putK
 rw[tU]
 rcases zO hk h with⟨n1,n2⟩ | ⟨d',v',s1,s2,_⟩
 ·rw[n1,n2,if_neg (by simp),if_neg (by simp)]
  exact Abu.snoc hk rv h
 ·rw[s1,s2,if_pos (show(some d').isSome=true from rfl),if_pos (show(some v').isSome=true from rfl)]
  exact KG hk rv h
theorem WW : ∀ {ps:List (List aA×aA)} {qs:List (List aA×V)},iF (fun(p:List aA×aA) (q:List aA×V)=>p.1=q.1/\bU p.1=true/\Abq K H p.2 q.2) ps qs -> ∀ {kds:List (aA×aA)} {kvs:List (List aA×V)},Abu K H kds kvs->Abu K H (yL ps kds) (oE kvs qs)
 | _,_,.nil,_,_,r=>r
 | _,_,.cons (a:=p) (b:=q) ⟨e,hk,h⟩ t,kds,kvs,r=>by
  have:=SH hk r h
  have:=WW t this
  show Abu K H (yL _ (kO kds p.1 p.2)) (oE (putK kvs q.1 q.2) _)
  rw[← e]
  exact this
theorem SR : ∀ {ds:List aA} {ps:List (List aA×aA)} {ys:List V},sO ds=some ps->Aas K H ds ys -> ∃ qs:List (List aA×V),iF (fun(y:V) (q:List aA×V)=>∃ b c,y=V.ref b/\H b=some (.tup [.ref c,q.2])/\Alm H q.1 c) ys qs/\iF (fun(p:List aA×aA) (q:List aA×V)=>p.1=q.1/\bU p.1=true/\Abq K H p.2 q.2) ps qs
 | [],ps,ys,e,r=>by
  cases e
  rw[Aao.mp r]
  exact⟨[],.nil,.nil⟩
 | d0::ds,ps,ys,e,r=>by
  unfold sO at e
  split at e
  ·rename_i e0; cases e0
  ·rename_i k d r0 e0
   cases e0
   obtain⟨hc,e⟩:=yT e
   have hc':bU k=true/\dA k≤6:=by simpa using hc
   obtain⟨ps',e2,e⟩:=XBs e
   cases e
   obtain⟨v,t,rfl,r1,r2⟩:=Aah.mp r
   obtain⟨qs,h1,h2⟩:=SR e2 r2
   obtain⟨b,xs,rfl,hb,rx⟩:=Aar.mp r1
   obtain⟨u1,t1,rfl,a1,a2⟩:=Aah.mp rx
   obtain⟨u2,rfl,a3⟩:=hZ a2
   obtain⟨c,zs,rfl,hz,rz⟩:=Aar.mp a1
   exact⟨(k,u2)::qs,.cons ⟨b,c,rfl,hb,hc'.1,hc'.2,zs,hz,Aas.keys k hc'.1 rz⟩ h1,.cons ⟨rfl,hc'.1,a3⟩ h2⟩
  ·cases e
theorem Alm.ext(x:Ext H H'){k:List aA}{c:aD}(t:Alm H k c):Alm H' k c:=t.keep fun b xs e=>x _ _ e
theorem LV:CallD K 0 (fun xs H Q=>∃ p ys ps,xs=[.ref p]/\SqL K H p ys/\HJ K H ys ps /\ ∀ q n,H q=none->Q (.ref q) (upd H q (.dT n (oE [] ps)))) vY:=fun P H xs ds d Q hP r e k=>by
 unfold vY at e
 split at e
 ·obtain⟨ps,e1,e2⟩:=XBs e
  cases e2
  obtain⟨v,rfl,r'⟩:=hZ r
  obtain⟨q,ys,rfl,hq,rr⟩:=Abk.mp r'
  obtain⟨qs,h1,h2⟩:=SR e1 rr
  refine⟨q,ys,qs,rfl,Aau.sqL hq,?_,fun l n hn=>?_⟩
  ·exact QP (fun y p ⟨b,c,e,hb,tk⟩=>⟨b,c,e,SqT.of (Aau _ _ hb),tk.ext Aau⟩) h1
  ·refine k.zero (Ext.new hn) ((nB).mpr ⟨l,(n,_),rfl,gJ (hP.new hn) eO,?_⟩)
   refine Abu.ext (fun b o e=>?_) (WW h2 (Acj.mpr rfl))
   obtain⟨nb,e⟩:=Acy.mp e
   exact gJ nb (Ext.new hn _ _ e)
 ·cases e
def GQ (a:aD)(ep n:Nat):It:=
  ⟨fun i H=>∃ kvs kv,H a=some (.dK ep kvs)/\kvs.length=n/\kvs[i]?=some kv,
   fun i H v H'=>∃ T kv,H T=none/\v = .ref T/\(∀ kvs,H a=some (.dK ep kvs)->kvs[i]?=some kv)/\H'=upd H T (.tup [kV kv.1,kv.2]),
   fun i H=>∃ kvs,H a=some (.dK ep kvs)/\kvs.length=n/\n≤i⟩
theorem Sn:entryFor table "dict_itemiterator.__iter__" = some Builtin.«dict_keyiterator.__iter__»:=entryFor_alias (id':="dict_keyiterator.__iter__") (by kernel_rfl) rfl (by decide +kernel) (by kernel_rfl)
theorem YH(hT:s.TypeIs (.ref it) "dict_itemiterator")(h:Q (.ref it) s):aN (aW prog w) A (nN (.ref it)) Q E s:=by
 refine Bb hT Zd (kI Zd hT Sn ?_ (F.args_dict_itemiterator_iter_1 _))
 show aN _ _ (ret (.ref it)) _ _ s
 exact aT ⟨_,rfl,"dict_itemiterator",_,hT,BP.lookup,h⟩
theorem Pk{cx}{pos:bR}(a it:aD)(ep n:Nat) :
  Turn P w K (.Tuple es cx pos) (GQ a ep n) [it] it (fun i h=>∃ ok ov,rX h it a i n ep ok ov) where
 mem:=cG.mpr rfl
 obj:=fun i h ⟨ok,ov,g⟩ b hb=>by
  rw[cG.mp hb]
  exact⟨_,g,fun v z=>by cases z⟩
 keep:=fun i h h' ⟨ok,ov,g⟩ k=>⟨ok,ov,k it (cG.mpr rfl) _ g⟩
 item:=by
  intro X hP hw hK hc i pins s σ H E I hf st hg
  subst hP hw hK
  obtain⟨kvs,kv,ha,hn,hk⟩:=hg
  subst hn
  obtain⟨z,nm,vs,r,d⟩:=FD I.hok (.inl ha)
  have hl:kvs.length=vs.length:=r.length
  obtain⟨u,hu,r1,r2⟩:=QQ r hk
  obtain⟨uk,uv⟩:=u
  obtain⟨ok,ov,st⟩:=st
  rw[hl] at st
  have young:it<s.heap.objs.size:=cA st
  refine wpAny_pyNext_items_item st d hu fun key h' hkey eo pr sz keep=>?_
  have r1':kv.1=uk:=r1
  have rk:RelV (kV kv.1) key:=by rw[r1']; exact Ju hkey
  have fr:H s.heap.objs.size=none:=I.hok.fresh (bI _)
  have I0:Inv X pins σ (upd H s.heap.objs.size (.tup [kV kv.1,kv.2])) { s with heap:=s.heap.push { cls:=.type "tuple",data:=.seq #[key,uv] },toks:=s.toks }:=
   I.laid (t':=s.toks) (o:=.tup [kV kv.1,kv.2]) (fun b ob q=>cC _ q) (bI _) ⟨by show 2≤sizeLine; decide,[key,uv],.cons rk (.cons r2 .nil),A7s.new _ _⟩
  have hf' : ∀ b∈[it],jA X pins (upd H s.heap.objs.size (.tup [kV kv.1,kv.2])) b:=fun b m=>⟨by rw[cP (dX (by rw[cG.mp m]; exact young))]; exact(hf b m).1,(hf b m).2⟩
  have I1:Inv X pins σ (upd H s.heap.objs.size (.tup [kV kv.1,kv.2])) { s with heap:=h',toks:=s.toks }:=I0.turnM (t':=s.toks) hf' fun b o n g=>by
   have n:b≠it:=fun q=>n (cG.mpr q)
   by_cases hb:b=s.heap.objs.size
   ·subst hb
    have e':(s.heap.push { cls:=.type "tuple",data:=.seq #[key,uv] }).get? s.heap.objs.size=some { cls:=.type "tuple",data:=.seq #[key,uv] }:=dQ _ rfl
    have:some o=some _:=g.symm.trans e'
    rw[this]
    exact pr
   ·exact keep b o n ((Cr _ _ _ hb).symm.trans g)
  refine⟨_,rfl,wpAny_letOwnedTupleGo_items eo fun h2 ge sb=>?_⟩
  have I2:Inv X pins σ (upd H s.heap.objs.size (.tup [kV kv.1,kv.2])) { s with heap:=h2,toks:=s.toks }:=I1.turnM (t':=s.toks) hf' fun b o n g=>sb.extBut b o (fun q=>n (cG.mpr q)) g
  exact⟨.ref s.heap.objs.size,_,I2,rfl,⟨_,kv,fr,rfl,fun kvs' h=>by rw[ha] at h; cases h; exact hk,rfl⟩,⟨_,_,by rw[hl]; exact ge⟩,fun b m=>(hf' b m).1⟩
 done:=by
  intro X hP hw hK hc i pins s σ H E I hf st hg
  subst hP hw hK
  obtain⟨kvs,ha,hn,hi⟩:=hg
  subst hn
  obtain⟨z,nm,vs,r,d⟩:=FD I.hok (.inl ha)
  have hl:kvs.length=vs.length:=r.length
  obtain⟨ok,ov,st⟩:=st
  rw[hl] at st
  exact wpAny_pyNext_items_end (I.ok.hd hc) st d (by simp; omega) fun h' eb=>⟨rfl,I.turnM (t':=s.toks) hf fun b o nb e=>eb b o (fun q=>nb (cG.mpr q)) e⟩
 self:=fun _ _ _ _ _ st h=>by
  obtain⟨ok,ov,st⟩:=st
  exact YH ⟨_,st,rfl⟩ h
section
variable {l:aS}
def Eg (tl:TE):TI:=fun σ H R=>tl σ H fun x H1=>∃ a ep kvs,x = .ref a/\H1 a=some (.dK ep kvs)/\R (GQ a ep kvs.length) H1
theorem Us(hl:PE X l tl)(hbase:lT l "items" X.env (bM l X.env)=bM l X.env:=by rfl)(hline:(apos.endLine == pos.line)=true:=by rfl):PI X (.Tuple es cx tpos) (.Call (.Attribute l "items" apos) [] [] pos) (Eg tl):=by
 intro pins s σ H R I h
 refine Bd (T:="dict") (id:="dict.items") hbase rfl hline F.plainAttrs_dict OK F.type_dict_items (thn (hl pins s σ H _ I h) fun v s1 gh=>?_)
 obtain⟨x,H1,I1,r1,q1⟩:=gh
 obtain⟨a,ep,kvs,rfl,ha,q⟩:=q1
 cases r1
 obtain⟨z,nm,vs,r,d⟩:=FD I1.hok (.inl ha)
 obtain⟨_,_,vs2,_,dd⟩:=vF I1.hok ha
 have hn:kvs.length=vs.length:=r.length
 refine⟨dd.typeIs,dd.mapOf.noDict,?_⟩
 show aN _ _ (callWith pos (.builtin "dict.items") [.ref a] [] []) _ _ _
 refine method_meetsIn OK F.entry_dict_items rfl (PySem.evalArgs_none ⟨rfl,dd.typeIs,F.args_dict_items_1 _,_,meets_dict_items _ a nm,⟨vs2,dd⟩,?_⟩)
 show aN _ _ (nN (.ref s1.heap.objs.size)) _ _ _
 have d2:(s1.heap.push { cls:=.type "dict_items",data:=.fields #[.ref a] }).DictAt (fJ X.prog X.w) a vs ep:=by
  obtain⟨o,es,ho,rr⟩:=d
  exact⟨o,es,cC _ ho,rr⟩
 refine wpAny_pyIter_items (knd:=fJ X.prog X.w) (d:=a) (kvs:=vs) (ep:=ep) ⟨_,dQ _ rfl,rfl,rfl⟩ d2 ?_
 have all : ∀ b o,s1.heap.get? b=some o->((s1.heap.push { cls:=.type "dict_items",data:=.fields #[.ref a] }).push { cls:=.type "dict_itemiterator",data:=.fields #[.none,.bool false,.ref a,.int 0 0,.int vs.length 0,.int ep 0,.none,.none] }).get? b=some o:=fun b o e=>cC _ (cC _ e)
 refine⟨_,[_],_,_,H1,rfl,I1.kept (t':=s1.toks) all,Pk a _ ep kvs.length,⟨.none,.none,?_⟩,fun b hb=>?_,q⟩
 ·rw[hn]
  exact dQ _ rfl
 ·rw[cG.mp hb]
  have le:s1.heap.objs.size≤(s1.heap.push { cls:=.type "dict_items",data:=.fields #[.ref a] }).objs.size:=by
   rw[xU]
   omega
  exact I1.fpOk le (I1.hok.fresh le)
def iDI (f:EF):AF:=fun ρ=>(f ρ).bind fun d=>match d with
 | .dict kds=>if (plK kds&&kds.all fun kd=>cQ kd.1)=true then some (kds.map fun kd=>.tuple [kd.1,kd.2]) else none
 | _=>none
theorem Xe{kvs:List (aI×V)}(h:B a=some (.dK ep kvs))(r:Ab4 K B kds kvs)(hl:(kds.all fun kd=>cQ kd.1)=true):ItD K B (GQ a ep kvs.length) (kds.map fun kd=>.tuple [kd.1,kd.2]):=fun i H2 x2=>by
 have h2:=x2 _ _ h
 refine⟨fun d hd=>?_,fun e=>⟨kvs,h2,rfl,by rw[← e,cZ,r.length]; exact bI _⟩⟩
 rw[eQ] at hd
 obtain⟨kd,hk,rfl⟩:=nP.mp hd
 obtain⟨kv,g1,g2,g3⟩:=SN r hk
 refine⟨⟨kvs,kv,h2,rfl,g1⟩,?_⟩
 rintro x H3 ⟨T,kv',fr,rfl,hx,rfl⟩
 have:kv'=kv:=eY ((hx kvs h2).symm.trans g1)
 subst this
 have ext:Ext H2 (upd H2 T (.tup [kV kv'.1,kv'.2])):=fun b u e=>by rw[cP (jT e fr)]; exact e
 refine⟨ext,fun P2 hP2 xb=>?_⟩
 have nT : ¬ P2 T:=fun q=>by
  rcases hP2 T q with⟨o,e⟩ | ⟨o,e⟩ <;> rw[fr] at e <;> cases e
 have gT:hid (upd H2 T (.tup [kV kv'.1,kv'.2])) P2 T=some (.tup [kV kv'.1,kv'.2]):=gJ nT eO
 have xx:Ext B (hid (upd H2 T (.tup [kV kv'.1,kv'.2])) P2):=xb.trans (cT ext)
 have lay:=fH.mp hl kd (fL hk)
 refine Aar.mpr ⟨T,_,rfl,gT,Aah.mpr ⟨_,_,rfl,?_,Aah.mpr ⟨_,_,rfl,g3.ext xx,Aao.mpr rfl⟩⟩⟩
 rw[g2]
 exact Jx (by rw[← g2]; exact lay)
theorem Tp(h:DE X l f)(hbase:lT l "items" X.env (bM l X.env)=bM l X.env:=by rfl)(hline:(apos.endLine == pos.line)=true:=by rfl):DI X (.Tuple es cx tpos) (.Call (.Attribute l "items" apos) [] [] pos) (iDI f):=PI.imp (Us h hbase hline) fun σ H R gh=>by
 obtain⟨P,ρ,ds,hP,rs,ef,k⟩:=gh
 obtain⟨d,e1,ef⟩:=XBs ef
 cases d with
 | dict kds=>
  obtain⟨hl,rfl⟩:=cN ef
  refine⟨P,ρ,_,hP,rs,e1,dU fun v H1 x1 r1=>?_⟩
  obtain⟨pk,hl⟩:=iH.mp hl
  obtain⟨a,kvs,rfl,hq,rr⟩:=(rA pk).mp r1
  exact⟨a,kvs.1,kvs.2,rfl,Aau _ _ hq,k _ H1 x1 (Xe hq rr hl)⟩
 | _=>cases ef
end
open PySem PySem.W PyProof.Rows
def evT {α:Type}(lt:Nat->Nat->Bool):KasT α->α
 | .ret a=>a
 | .ask i j k=>evT lt (k (lt i j))
theorem vQ {α β:Type}(lt:Nat->Nat->Bool)(f:α->KasT β) : ∀ t:KasT α,evT lt (t.bind f)=evT lt (f (evT lt t))
 | .ret _=>rfl
 | .ask i j k=>vQ lt f (k (lt i j))
structure Ord (lt:Nat->Nat->Bool):Prop where
 asym : ∀ a b,lt a b=true->lt b a=false
 tr : ∀ a b c,lt b a=false->lt c b=false->lt c a=false
section
variable {lt:Nat->Nat->Bool}(O:Ord lt)
abbrev at' (p:Array Nat)(i:Nat):Nat:=p.getD i 0
def gE (lt:Nat->Nat->Bool)(p:Array Nat)(m:Nat):Prop:=∀ i j,i≤j->j<m->lt (at' p j) (at' p i)=false
def sF (lt:Nat->Nat->Bool)(p:Array Nat)(m:Nat):Prop:=∀ i j,i≤j->j<m->lt (at' p i) (at' p j)=false
include O
theorem Ord.refl (a:Nat):lt a a=false:=by
 cases h:lt a a with
 | false=>rfl
 | true=>exact absurd (O.asym a a h) (by rw[h]; decide)
theorem Mg(h1:1≤n)(h:gE lt p n)(hl:lt (at' p n) (at' p (n - 1))=false):gE lt p (n+1):=fun i j hij hj=>by
 by_cases c:j<n
 ·exact h i j hij c
 ·obtain rfl:j=n:=by omega
  by_cases d:i=j
  ·subst d; exact O.refl _
  ·exact O.tr _ _ _ (h i (j - 1) (by omega) (by omega)) hl
theorem yV(h1:1≤n)(h:sF lt p n)(hl:lt (at' p (n - 1)) (at' p n)=false):sF lt p (n+1):=fun i j hij hj=>by
 by_cases c:j<n
 ·exact h i j hij c
 ·obtain rfl:j=n:=by omega
  by_cases d:i=j
  ·subst d; exact O.refl _
  ·exact O.tr _ _ _ hl (h i (j - 1) (by omega) (by omega))
theorem Mj (p:Array Nat):gE lt p 1:=fun i j hij hj=>by
 obtain rfl:j=0:=by omega
 obtain rfl:i=0:=by omega
 exact O.refl _
theorem IT : ∀ (f n:Nat),1≤n->gE lt p n->n≤evT lt (kas_asc p f n)/\evT lt (kas_asc p f n)≤n+f/\gE lt p (evT lt (kas_asc p f n))/\(evT lt (kas_asc p f n)<n+f->lt (at' p (evT lt (kas_asc p f n))) (at' p (evT lt (kas_asc p f n) - 1))=true)
 | 0,n,h1,h=>⟨bI _,bI _,h,fun z=>absurd z (by show ¬ n<n+0; omega)⟩
 | f+1,n,h1,h=>by
  have e:evT lt (kas_asc p (f+1) n)=evT lt (if lt (at' p n) (at' p (n - 1))=true then KasT.ret n else kas_asc p f (n+1)):=rfl
  rw[e]
  by_cases c:lt (at' p n) (at' p (n - 1))=true
  ·rw[if_pos c]
   exact⟨bI _,by show n≤n+(f+1); omega,h,fun _=>c⟩
  ·rw[if_neg c]
   obtain⟨a1,a2,a3,a4⟩:=IT f (n+1) (by omega) (Mg O h1 h (by simpa using c))
   exact⟨by omega,by omega,a3,fun z=>a4 (by omega)⟩
theorem KB{k:Nat}(h:gE lt p k) : ∀ (f l r:Nat),l≤r->r≤k->r - l≤f->(∀ i<l,lt (at' p k) (at' p i)=false)->(∀ i,r≤i->i<k->lt (at' p i) (at' p k)=false) ->
  evT lt (kas_place p k f l r)≤k/\(∀ i<evT lt (kas_place p k f l r),lt (at' p k) (at' p i)=false) /\ ∀ i,evT lt (kas_place p k f l r)≤i->i<k->lt (at' p i) (at' p k)=false
 | 0,l,r,h1,h2,h3,hl,hr=>by
  have e:evT lt (kas_place p k 0 l r)=l:=rfl
  obtain rfl:l=r:=by omega
  rw[e]
  exact⟨h2,hl,hr⟩
 | f+1,l,r,h1,h2,h3,hl,hr=>by
  unfold kas_place
  by_cases c:l ≥ r
  ·rw[if_pos c]
   obtain rfl:l=r:=by omega
   exact⟨h2,hl,hr⟩
  ·rw[if_neg c]
   show evT lt (if lt (at' p k) (at' p ((l+r) / 2))=true then kas_place p k f l ((l+r) / 2) else kas_place p k f ((l+r) / 2+1) r)≤k/\_
   by_cases d:lt (at' p k) (at' p ((l+r) / 2))=true
   ·have e:evT lt (KasT.ask (p.getD k 0) (p.getD ((l+r) / 2) 0) fun c=>if c=true then kas_place p k f l ((l+r) / 2) else kas_place p k f ((l+r) / 2+1) r)=evT lt (kas_place p k f l ((l+r) / 2)):=by
     show evT lt (if lt (at' p k) (at' p ((l+r) / 2))=true then _ else _)=_
     rw[if_pos d]
    rw[e,if_pos d]
    exact KB h f l ((l+r) / 2) (by omega) (by omega) (by omega) hl fun i a b=>O.tr _ _ _ (O.asym _ _ d) (h _ i a b)
   ·have d':lt (at' p k) (at' p ((l+r) / 2))=false:=by simpa using d
    have e:evT lt (KasT.ask (p.getD k 0) (p.getD ((l+r) / 2) 0) fun c=>if c=true then kas_place p k f l ((l+r) / 2) else kas_place p k f ((l+r) / 2+1) r)=evT lt (kas_place p k f ((l+r) / 2+1) r):=by
     show evT lt (if lt (at' p k) (at' p ((l+r) / 2))=true then _ else _)=_
     rw[if_neg d]
    rw[e,if_neg d]
    refine KB h f ((l+r) / 2+1) r (by omega) h2 (by omega) (fun i hi=>?_) hr
    exact O.tr _ _ _ (h i ((l+r) / 2) (by omega) (by omega)) d'
end
theorem at_of(i:Nat):at' p i=(p[i]?).getD 0:=Array.getD_eq_getD_getElem?
theorem QR{k l:Nat}(hk:k<p.size)(hl:l≤k)(i:Nat):at' (bubble p k (k - l)) i=if i=l then at' p k else if l<i/\i≤k then at' p (i - 1) else at' p i:=by
 have e:k - (k - l)=l:=by omega
 have q:=getElem?_bubble hk (k - l) (by omega) i
 rw[e] at q
 simp only[at_of,q]
 split
 ·rfl
 ·split <;> rfl
theorem mF(hj:j≤p.size)(k:Nat):at' (kas_rev p i j) k=if i≤k/\k<j then at' p (i+j - 1 - k) else at' p k:=by
 have q:=getElem?_mirror_all (i:=i) hj k
 simp only[at_of]
 unfold kas_rev
 rw[q]
 split <;> rfl
theorem JS (p:Array Nat)(i j:Nat):(kas_rev p i j).size=p.size:=mirror_size _ _ _ _
theorem rB (p:Array Nat)(i j:Nat):(kas_rev p i j).Perm p:=mirror_perm _ _ _ _
section
variable {lt:Nat->Nat->Bool}(O:Ord lt)
include O
theorem QS : ∀ (f:Nat) (p:Array Nat) (k:Nat),gE lt p k->k+f≤p.size->(evT lt (kas_bin f p k)).Perm p/\gE lt (evT lt (kas_bin f p k)) (k+f)
 | 0,p,k,h,_=>⟨GM _,h⟩
 | f+1,p,k,h,hz=>by
  have e:evT lt (kas_bin (f+1) p k)=evT lt (kas_bin f (bubble p k (k - evT lt (kas_place p k k 0 k))) (k+1)):=by
   show evT lt ((kas_place p k k 0 k).bind fun l=>kas_bin f (bubble p k (k - l)) (k+1))=_
   rw[vQ]
  obtain⟨h1,h2,h3⟩:=KB O h k 0 k (fG _) (bI _) (by omega) (fun i hi=>absurd hi (by omega)) (fun i a b=>absurd b (by omega))
  rw[e]
  generalize evT lt (kas_place p k k 0 k)=l at h1 h2 h3
  have hk:k<p.size:=by omega
  have A':gE lt (bubble p k (k - l)) (k+1):=fun i j hij hj=>by
   rw[QR hk h1,QR hk h1]
   by_cases ci:i=l
   ·rw[if_pos ci]
    by_cases cj:j=l
    ·rw[if_pos cj]; exact O.refl _
    ·rw[if_neg cj,if_pos ⟨by omega,by omega⟩]
     exact h3 (j - 1) (by omega) (by omega)
   ·rw[if_neg ci]
    by_cases cj:j=l
    ·rw[if_pos cj,if_neg (by omega)]
     exact h2 i (by omega)
    ·rw[if_neg cj]
     by_cases di:l<i/\i≤k
     ·rw[if_pos di,if_pos ⟨by omega,by omega⟩]
      exact h (i - 1) (j - 1) (by omega) (by omega)
     ·rw[if_neg di]
      by_cases dj:l<j/\j≤k
      ·rw[if_pos dj]
       exact h i (j - 1) (by omega) (by omega)
      ·rw[if_neg dj]
       exact h i j hij (by omega)
  obtain⟨a1,a2⟩:=QS f (bubble p k (k - l)) (k+1) A' (by rw[bubble_size]; omega)
  exact⟨a1.trans (bubble_perm _ _ _),by rw[show k+(f+1)=k+1+f by omega]; exact a2⟩
structure Fall (lt:Nat->Nat->Bool)(p:Array Nat)(n q:Nat):Prop where
 pos:q+1≤n
 dsc:sF lt p n
 eq : ∀ i j,n - (q+1)≤i->i<n->n - (q+1)≤j->j<n->lt (at' p i) (at' p j)=false
theorem Fall.rev{q:Nat}(F:Fall lt p n q)(hz:n≤p.size):Fall lt (kas_rev p (n - (q+1)) n) n q:=by
 have hp:=F.pos
 refine⟨hp,fun i j hij hj=>?_,fun i j a b c d=>?_⟩
 ·rw[mF hz,mF hz]
  by_cases ci:n - (q+1)≤i/\i<n
  ·rw[if_pos ci,if_pos ⟨by omega,hj⟩]
   exact F.eq _ _ (by omega) (by omega) (by omega) (by omega)
  ·rw[if_neg ci]
   by_cases cj:n - (q+1)≤j/\j<n
   ·rw[if_pos cj]
    exact F.dsc _ _ (by omega) (by omega)
   ·rw[if_neg cj]
    exact F.dsc i j hij hj
 ·rw[mF hz,mF hz,if_pos ⟨a,b⟩,if_pos ⟨c,d⟩]
  exact F.eq _ _ (by omega) (by omega) (by omega) (by omega)
theorem DR : ∀ (f:Nat) (p:Array Nat) (n q:Nat),Fall lt p n q->n+f≤p.size->(evT lt (kas_desc f p n q)).1.Perm p/\n≤(evT lt (kas_desc f p n q)).2.1/\(evT lt (kas_desc f p n q)).2.1≤n+f/\Fall lt (evT lt (kas_desc f p n q)).1 (evT lt (kas_desc f p n q)).2.1 (evT lt (kas_desc f p n q)).2.2
 | 0,p,n,q,F,_=>⟨GM _,bI _,bI _,F⟩
 | f+1,p,n,q,F,hz=>by
  have hp:=F.pos
  have e:evT lt (kas_desc (f+1) p n q)=evT lt (if lt (at' p n) (at' p (n - 1))=true then(if q > 0 then kas_desc f (kas_rev p (n - (q+1)) n) (n+1) 0 else kas_desc f p (n+1) 0) else KasT.ask (p.getD (n - 1) 0) (p.getD n 0) fun d=>if d=true then .ret (p,n,q) else kas_desc f p (n+1) (q+1)):=rfl
  rw[e]
  by_cases c:lt (at' p n) (at' p (n - 1))=true
  ·rw[if_pos c]
   by_cases hq:q > 0
   ·rw[if_pos hq]
    have F':=F.rev O (by omega)
    have hn:at' (kas_rev p (n - (q+1)) n) n=at' p n:=by rw[mF (by omega),if_neg (by omega)]
    have F2:Fall lt (kas_rev p (n - (q+1)) n) (n+1) 0:=by
     refine⟨by omega,yV O (by omega) F'.dsc ?_,fun i j a b c' d=>?_⟩
     ·rw[hn,mF (by omega),if_pos ⟨by omega,by omega⟩]
      exact O.tr _ _ _ (O.asym _ _ c) (F.eq _ _ (by omega) (by omega) (by omega) (by omega))
     ·obtain rfl:i=n:=by omega
      obtain rfl:j=i:=by omega
      exact O.refl _
    obtain⟨a1,a2,a3,a4⟩:=DR f _ (n+1) 0 F2 (by rw[JS]; omega)
    exact⟨a1.trans (rB _ _ _),by omega,by omega,a4⟩
   ·rw[if_neg hq]
    have F2:Fall lt p (n+1) 0:=by
     refine⟨by omega,yV O (by omega) F.dsc (O.asym _ _ c),fun i j a b c' d=>?_⟩
     obtain rfl:i=n:=by omega
     obtain rfl:j=i:=by omega
     exact O.refl _
    obtain⟨a1,a2,a3,a4⟩:=DR f _ (n+1) 0 F2 (by omega)
    exact⟨a1,by omega,by omega,a4⟩
  ·rw[if_neg c]
   have c':lt (at' p n) (at' p (n - 1))=false:=by simpa using c
   have e2:evT lt (KasT.ask (p.getD (n - 1) 0) (p.getD n 0) fun d=>if d=true then .ret (p,n,q) else kas_desc f p (n+1) (q+1))=evT lt (if lt (at' p (n - 1)) (at' p n)=true then .ret (p,n,q) else kas_desc f p (n+1) (q+1)):=rfl
   rw[e2]
   by_cases d:lt (at' p (n - 1)) (at' p n)=true
   ·rw[if_pos d]
    exact⟨GM _,bI _,by show n≤n+(f+1); omega,F⟩
   ·rw[if_neg d]
    have d':lt (at' p (n - 1)) (at' p n)=false:=by simpa using d
    have F2:Fall lt p (n+1) (q+1):=by
     refine⟨by omega,yV O (by omega) F.dsc d',fun i j a b a' b'=>?_⟩
     by_cases ci:i=n
     ·by_cases cj:j=n
      ·rw[ci,cj]; exact O.refl _
      ·rw[ci]
       exact O.tr _ _ _ (F.eq (n - 1) j (by omega) (by omega) (by omega) (by omega)) c'
     ·by_cases cj:j=n
      ·rw[cj]
       exact O.tr _ _ _ d' (F.eq i (n - 1) (by omega) (by omega) (by omega) (by omega))
      ·exact F.eq i j (by omega) (by omega) (by omega) (by omega)
    obtain⟨a1,a2,a3,a4⟩:=DR f _ (n+1) (q+1) F2 (by omega)
    exact⟨a1,by omega,by omega,a4⟩
end
section
variable {lt:Nat->Nat->Bool}(O:Ord lt)
include O
theorem Nc(h:sF lt p n)(hz:n≤p.size):gE lt (kas_rev p 0 n) n:=fun i j hij hj=>by
 rw[mF hz,mF hz,if_pos ⟨fG _,hj⟩,if_pos ⟨fG _,by omega⟩]
 exact h _ _ (by omega) (by omega)
theorem SL(h1:1≤n)(hn:n≤m)(hz:m≤p.size)(h:sF lt p n):(evT lt (kas_tail3 n m p)).2.Perm p/\(evT lt (kas_tail3 n m p)).1≤m/\1≤(evT lt (kas_tail3 n m p)).1/\gE lt (evT lt (kas_tail3 n m p)).2 (evT lt (kas_tail3 n m p)).1:=by
 unfold kas_tail3
 rw[vQ]
 obtain⟨a1,a2,a3,_⟩:=IT O (m - n) n h1 (Nc O h (by omega))
 exact⟨rB _ _ _,by show evT lt (kas_asc (kas_rev p 0 n) (m - n) n)≤m; omega,by show 1≤evT lt (kas_asc (kas_rev p 0 n) (m - n) n); omega,a3⟩
theorem RV(h1:1≤n)(hn:n+1≤m)(hz:m≤p.size)(h:sF lt p (n+1)):(evT lt (kas_descPart n m p)).2.Perm p/\(evT lt (kas_descPart n m p)).1≤m/\1≤(evT lt (kas_descPart n m p)).1/\gE lt (evT lt (kas_descPart n m p)).2 (evT lt (kas_descPart n m p)).1:=by
 have F0:Fall lt p (n+1) 0:=⟨by omega,h,fun i j a b c d=>by
  obtain rfl:i=n:=by omega
  obtain rfl:j=i:=by omega
  exact O.refl _⟩
 obtain⟨a1,a2,a3,a4⟩:=DR O (m - (n+1)) p (n+1) 0 F0 (by omega)
 unfold kas_descPart
 rw[vQ]
 generalize evT lt (kas_desc (m - (n+1)) p (n+1) 0)=r at a1 a2 a3 a4
 have hs:r.1.size=p.size:=a1.size_eq
 split
 ·have F':=a4.rev O (by omega)
  obtain⟨b1,b2,b3,b4⟩:=SL O (by omega) (by omega) (by rw[JS]; omega) F'.dsc (m:=m)
  exact⟨b1.trans ((rB _ _ _).trans a1),b2,b3,b4⟩
 ·obtain⟨b1,b2,b3,b4⟩:=SL O (by omega) (by omega) (by omega) a4.dsc (m:=m)
  exact⟨b1.trans a1,b2,b3,b4⟩
theorem UM(h1:1≤m)(hz:m≤p.size):(evT lt (kas_count m p)).2.Perm p/\(evT lt (kas_count m p)).1≤m/\1≤(evT lt (kas_count m p)).1/\gE lt (evT lt (kas_count m p)).2 (evT lt (kas_count m p)).1:=by
 obtain⟨a1,a2,a3,a4⟩:=IT O (m - 1) 1 (bI _) (Mj O p)
 unfold kas_count
 rw[vQ]
 generalize evT lt (kas_asc p (m - 1) 1)=n at a1 a2 a3 a4
 by_cases c:(n == m)=true
 ·rw[if_pos c]
  exact⟨GM _,by show n≤m; omega,a1,a3⟩
 ·rw[if_neg c]
  have hnm:n≠m:=by simpa using c
  have hl:=a4 (by omega)
  by_cases d:n > 1
  ·rw[if_pos d]
   show(evT lt (if lt (at' p 0) (at' p (n - 1))=true then KasT.ret (n,p) else kas_descPart n m (kas_rev p 0 n))).2.Perm p/\(evT lt (if lt (at' p 0) (at' p (n - 1))=true then KasT.ret (n,p) else kas_descPart n m (kas_rev p 0 n))).1≤m/\1≤(evT lt (if lt (at' p 0) (at' p (n - 1))=true then KasT.ret (n,p) else kas_descPart n m (kas_rev p 0 n))).1/\gE lt (evT lt (if lt (at' p 0) (at' p (n - 1))=true then KasT.ret (n,p) else kas_descPart n m (kas_rev p 0 n))).2 (evT lt (if lt (at' p 0) (at' p (n - 1))=true then KasT.ret (n,p) else kas_descPart n m (kas_rev p 0 n))).1
   by_cases e:lt (at' p 0) (at' p (n - 1))=true
   ·rw[if_pos e]
    exact⟨GM _,by show n≤m; omega,a1,a3⟩
   ·rw[if_neg e]
    have e':lt (at' p 0) (at' p (n - 1))=false:=by simpa using e
    have same : ∀ i j,i<n->j<n->lt (at' p i) (at' p j)=false:=fun i j hi hj=>
     O.tr _ (at' p 0) _ (O.tr _ _ _ (a3 j (n - 1) (by omega) (by omega)) e') (a3 0 i (fG _) hi)
    have D:sF lt (kas_rev p 0 n) (n+1):=by
     refine yV O a1 (fun i j hij hj=>?_) ?_
     ·rw[mF (by omega),mF (by omega),if_pos ⟨fG _,by omega⟩,if_pos ⟨fG _,hj⟩]
      exact same _ _ (by omega) (by omega)
     ·rw[mF (by omega),mF (by omega),if_pos ⟨fG _,by omega⟩,if_neg (by omega)]
      exact O.tr _ _ _ (O.asym _ _ hl) (same _ _ (by omega) (by omega))
    obtain⟨b1,b2,b3,b4⟩:=RV O a1 (by omega) (by rw[JS]; exact hz) D (m:=m)
    exact⟨b1.trans (rB _ _ _),b2,b3,b4⟩
  ·rw[if_neg d]
   obtain rfl:n=1:=by omega
   exact RV O (bI _) (by omega) hz (yV O (bI _) (fun i j hij hj=>by
    obtain rfl:j=0:=by omega
    obtain rfl:i=0:=by omega
    exact O.refl _) (O.asym _ _ hl))
theorem SG(h1:1≤n):(evT lt (kas_sort n)).Perm (gS (cF n))/\gE lt (evT lt (kas_sort n)) n:=by
 have hs:(gS (cF n)).size=n:=by simp
 obtain⟨a1,a2,a3,a4⟩:=UM O h1 (by rw[hs]; exact bI _) (p:=gS (cF n))
 unfold kas_sort
 rw[vQ]
 generalize evT lt (kas_count n (gS (cF n)))=r at a1 a2 a3 a4
 have hz:r.2.size=n:=a1.size_eq.trans hs
 split
 ·have em:max r.1 1=r.1:=by omega
  rw[em]
  obtain⟨b1,b2⟩:=QS O (n - r.1) r.2 r.1 a4 (by omega)
  exact⟨b1.trans a1,by rw[show r.1+(n - r.1)=n by omega] at b2; exact b2⟩
 ·have:r.1=n:=by omega
  exact⟨a1,by rw[this] at a4; exact a4⟩
end
def gU {α:Type}(lt:Nat->Nat->Bool)(N:Nat):KasT α->Prop
 | .ret _=>True
 | .ask i j k=>(i<N/\j<N)/\gU lt N (k (lt i j))
theorem vR {α β:Type}{lt:Nat->Nat->Bool}{N:Nat}{f:α->KasT β} : ∀ {t:KasT α},gU lt N t->gU lt N (f (evT lt t))->gU lt N (t.bind f)
 | .ret _,_,h=>h
 | .ask i j k,h,h2=>⟨h.1,vR (t:=k (lt i j)) h.2 h2⟩
theorem QD {α:Type}{lt:Nat->Nat->Bool}{N:Nat}{cmp:Nat->Nat->(Bool->aJ->Prop)->aJ->Prop}{s:aJ}(hc : ∀ i j (C:Bool->aJ->Prop),i<N->j<N->C (lt i j) s->cmp i j C s){Q:α->aJ->Prop} : ∀ {t:KasT α},gU lt N t->Q (evT lt t) s->t.kasWp cmp Q s
 | .ret _,_,h=>h
 | .ask i j k,h,q=>hc i j _ h.1.1 h.1.2 (QD hc (t:=k (lt i j)) h.2 q)
abbrev El (N:Nat)(p:Array Nat):Prop:=∀ x∈p,x<N
theorem El.at(h:El N p)(h0:0<N)(i:Nat):at' p i<N:=by
 rw[at_of]
 cases e:p[i]? with
 | none=>exact h0
 | some v=>exact h v (Array.mem_of_getElem? e)
theorem El.perm{q:Array Nat}(h:El N p)(x:q.Perm p):El N q:=fun v m=>h v (x.mem_iff.mp m)
section
variable {lt:Nat->Nat->Bool}(h0:0<N)
include h0
theorem MK(h:El N p) : ∀ f n,gU lt N (kas_asc p f n)
 | 0,_=>trivial
 | f+1,n=>by
  refine⟨⟨h.at h0 _,h.at h0 _⟩,?_⟩
  show gU lt N (if lt (at' p n) (at' p (n - 1))=true then KasT.ret n else kas_asc p f (n+1))
  by_cases c:lt (at' p n) (at' p (n - 1))=true
  ·rw[if_pos c]; trivial
  ·rw[if_neg c]; exact MK h f (n+1)
theorem JV{k:Nat}(h:El N p) : ∀ f l r,gU lt N (kas_place p k f l r)
 | 0,_,_=>trivial
 | f+1,l,r=>by
  unfold kas_place
  by_cases c:l ≥ r
  ·rw[if_pos c]; trivial
  ·rw[if_neg c]
   refine⟨⟨h.at h0 _,h.at h0 _⟩,?_⟩
   show gU lt N (if lt (at' p k) (at' p ((l+r) / 2))=true then kas_place p k f l ((l+r) / 2) else kas_place p k f ((l+r) / 2+1) r)
   by_cases d:lt (at' p k) (at' p ((l+r) / 2))=true
   ·rw[if_pos d]; exact JV h f _ _
   ·rw[if_neg d]; exact JV h f _ _
theorem QM : ∀ (f:Nat) (p:Array Nat) (k:Nat),El N p->gU lt N (kas_bin f p k)
 | 0,_,_,_=>trivial
 | f+1,p,k,h=>vR (JV h0 h k 0 k) (QM f _ _ (h.perm (bubble_perm _ _ _)))
theorem CZ : ∀ (f:Nat) (p:Array Nat) (n q:Nat),El N p->gU lt N (kas_desc f p n q)/\El N (evT lt (kas_desc f p n q)).1
 | 0,_,_,_,h=>⟨trivial,h⟩
 | f+1,p,n,q,h=>by
  have e:evT lt (kas_desc (f+1) p n q)=evT lt (if lt (at' p n) (at' p (n - 1))=true then(if q > 0 then kas_desc f (kas_rev p (n - (q+1)) n) (n+1) 0 else kas_desc f p (n+1) 0) else KasT.ask (p.getD (n - 1) 0) (p.getD n 0) fun d=>if d=true then .ret (p,n,q) else kas_desc f p (n+1) (q+1)):=rfl
  have g:gU lt N (kas_desc (f+1) p n q)↔(at' p n<N/\at' p (n - 1)<N)/\gU lt N (if lt (at' p n) (at' p (n - 1))=true then(if q > 0 then kas_desc f (kas_rev p (n - (q+1)) n) (n+1) 0 else kas_desc f p (n+1) 0) else KasT.ask (p.getD (n - 1) 0) (p.getD n 0) fun d=>if d=true then .ret (p,n,q) else kas_desc f p (n+1) (q+1)):=Iff.rfl
  rw[g,e]
  by_cases c:lt (at' p n) (at' p (n - 1))=true
  ·rw[if_pos c]
   by_cases hq:q > 0
   ·rw[if_pos hq]
    obtain⟨a,b⟩:=CZ f _ (n+1) 0 (h.perm (rB p (n - (q+1)) n))
    exact⟨⟨⟨h.at h0 _,h.at h0 _⟩,a⟩,b⟩
   ·rw[if_neg hq]
    obtain⟨a,b⟩:=CZ f _ (n+1) 0 h
    exact⟨⟨⟨h.at h0 _,h.at h0 _⟩,a⟩,b⟩
  ·rw[if_neg c]
   have e2:evT lt (KasT.ask (p.getD (n - 1) 0) (p.getD n 0) fun d=>if d=true then .ret (p,n,q) else kas_desc f p (n+1) (q+1))=evT lt (if lt (at' p (n - 1)) (at' p n)=true then .ret (p,n,q) else kas_desc f p (n+1) (q+1)):=rfl
   have g2:gU lt N (KasT.ask (p.getD (n - 1) 0) (p.getD n 0) fun d=>if d=true then .ret (p,n,q) else kas_desc f p (n+1) (q+1))↔(at' p (n - 1)<N/\at' p n<N)/\gU lt N (if lt (at' p (n - 1)) (at' p n)=true then .ret (p,n,q) else kas_desc f p (n+1) (q+1)):=Iff.rfl
   rw[g2,e2]
   by_cases d:lt (at' p (n - 1)) (at' p n)=true
   ·rw[if_pos d]
    exact⟨⟨⟨h.at h0 _,h.at h0 _⟩,⟨h.at h0 _,h.at h0 _⟩,trivial⟩,h⟩
   ·rw[if_neg d]
    obtain⟨a,b⟩:=CZ f _ (n+1) (q+1) h
    exact⟨⟨⟨h.at h0 _,h.at h0 _⟩,⟨h.at h0 _,h.at h0 _⟩,a⟩,b⟩
theorem ZY(n m:Nat)(h:El N p):gU lt N (kas_tail3 n m p):=vR (MK h0 (h.perm (rB _ _ _)) _ _) trivial
theorem Ab(n m:Nat)(h:El N p):gU lt N (kas_descPart n m p):=by
 obtain⟨a,b⟩:=CZ h0 (lt:=lt) (m - (n+1)) p (n+1) 0 h
 refine vR a ?_
 split
 ·exact ZY h0 _ _ (b.perm (rB _ _ _))
 ·exact ZY h0 _ _ b
theorem Vu(m:Nat)(h:El N p):gU lt N (kas_count m p):=by
 refine vR (MK h0 h _ _) ?_
 generalize evT lt (kas_asc p (m - 1) 1)=n
 by_cases c:(n == m)=true
 ·rw[if_pos c]; trivial
 ·rw[if_neg c]
  by_cases d:n > 1
  ·rw[if_pos d]
   refine⟨⟨h.at h0 _,h.at h0 _⟩,?_⟩
   show gU lt N (if lt (at' p 0) (at' p (n - 1))=true then KasT.ret (n,p) else kas_descPart n m (kas_rev p 0 n))
   by_cases e:lt (at' p 0) (at' p (n - 1))=true
   ·rw[if_pos e]; trivial
   ·rw[if_neg e]; exact Ab h0 _ _ (h.perm (rB _ _ _))
  ·rw[if_neg d]; exact Ab h0 _ _ h
end
theorem Lm {lt:Nat->Nat->Bool}(O:Ord lt)(h1:1≤n):gU lt n (kas_sort n):=by
 have hs:(gS (cF n)).size=n:=by simp
 have h:El n (gS (cF n)):=fun x m=>by simpa using m
 refine vR (Vu (by omega) n h) ?_
 obtain⟨a1,_⟩:=UM O h1 (by rw[hs]; exact bI _) (p:=gS (cF n))
 generalize evT lt (kas_count n (gS (cF n)))=r at a1
 split
 ·exact QM (by omega) _ _ _ (h.perm a1)
 ·trivial
theorem Mc {lt:Nat->Nat->Bool}(O:Ord lt)(h1:1≤n){cmp:Nat->Nat->(Bool->aJ->Prop)->aJ->Prop}(hc : ∀ i j (C:Bool->aJ->Prop),i<n->j<n->C (lt i j) s->cmp i j C s){G:Array Nat->aJ->Prop}
  (h : ∀ p:Array Nat,p.Perm (gS (cF n))->gE lt p n->G p s):(kas_sort n).kasWp cmp G s:=
 QD hc (Lm O h1) (h _ (SG O h1).1 (SG O h1).2)
abbrev Df (a:aD)(h h':aY):Prop:=∀ b o,b≠a->h.get? b=some o->h'.get? b=some o
abbrev lM (h:aY)(a:aD)(vs:List aE):aY:=((h.update a (gR fun _=>#[])).push (gQ "tuple" vs.toArray 0)).push (gQ "list" #[] 0)
theorem Mp:Df a h (lM h a vs):=fun b o hb e=>
 cC _ (cC _ (((xV h a (gR fun _=>(#[]:Array aE))).2 b hb).trans e))
theorem Ks{κ:SortKind}{lt:Nat->Nat->Bool}{P:PySem.Fin->aJ->Prop}(O:Ord lt)(ho:s.heap.get? a=some (gQ "list" vs.toArray n))(h2:2≤vs.length)(h64:vs.length<64)
  (hk : ∀ (Q:SortKind->aJ->Prop),Q κ { s with heap:=lM s.heap a vs }->aN (aW prog w) A (keyKind' vs.toArray) Q E { s with heap:=lM s.heap a vs })
  (hc : ∀ i j (C:Bool->aJ->Prop),i<vs.length->j<vs.length->C (lt i j) { s with heap:=lM s.heap a vs }->aN (aW prog w) A (keyLt' κ (vs.getD i dY) (vs.getD j dY)) C (fun _ _=>False) { s with heap:=lM s.heap a vs })
  (h : ∀ p:Array Nat,p.Perm (gS (cF vs.length))->gE lt p vs.length->P (.done (.ret .none)) { s with heap:=sortedHeap s.heap a vs (gS (p.toList.map fun i=>vs.getD i dY)) }) :
  aN (aW prog w) A (Builtin.«list.sort» ⟨[.ref a],[]⟩) P E s:=by
 have lz:vs.length≤sizeLine:=by rw[xI]; omega
 have ha:a<s.heap.objs.size:=cA ho
 obtain⟨e1,ho1⟩ : ∃ e,(s.heap.update a (gR fun _=>(#[]:Array aE))).get? a=some (gQ "list" #[] e):=⟨_,get?_update_seq ho fun _=>#[]⟩
 have hoM:(lM s.heap a vs).get? a=some (gQ "list" #[] e1):=cC _ (cC _ ho1)
 rw[list_sort_plain]
 refine aH (listItems_at ho rfl (aH (listUpdate_at ho rfl (aH (seqEpoch_at ho1 rfl (aH (MZ (aH (NA (kH ?_) (fG _))) (by simpa using lz))))) (by rw[eB]; exact lz) (fG _))))
 show aN (aW prog w) A _ P E { s with heap:=lM s.heap a vs }
 dsimp only
 have big : ¬ vs.toArray.size<2:=by rw[eB]; omega
 rw[if_neg big,if_neg big]
 refine aH (hk _ ?_)
 have eS:SortSt.mk' κ (vs.toArray.zip vs.toArray) #[] 7 none=kas_st κ (pairsOf vs) (gS (cF vs.length)):=by
  have e:=kas_range (pairsOf vs)
  rw[pairsOf_size] at e
  unfold kas_st
  rw[e]
  rfl
 have run:=kas_runs (prog:=prog) (w:=w) (A:=A) (κ:=κ) (it:=pairsOf vs) (E:=E) (s:={ s with heap:=lM s.heap a vs }) (Q:=fun _ st' s'=>s' = { s with heap:=lM s.heap a vs } /\ ∃ p:Array Nat,p.Perm (gS (cF vs.length))/\gE lt p vs.length/\arrOf st'=p.map (kas_item (pairsOf vs))/\failedOf st'=none)
  (G:=fun p s'=>s' = { s with heap:=lM s.heap a vs }/\p.Perm (gS (cF vs.length))/\gE lt p vs.length) h2 h64 (fun p' st' s' a1 a2 a3 ⟨b1,b2,b3⟩=>⟨b1,p',b2,b3,a2,a3⟩)
  (Mc O (by omega) (fun i j C hi hj q=>by
   unfold kas_cmp
   rw[kas_item_eq,kas_item_eq]
   exact hc i j C hi hj q) fun p b1 b2=>⟨rfl,b1,b2⟩)
 rw[← eS] at run
 refine aH (lR run ?_ fun _ _ e=>e)
 rintro⟨⟨⟩,st'⟩ s' ⟨rfl,p,b1,b2,har,hf⟩
 dsimp only
 have hout:(arrOf st').map (·.2)=gS (p.toList.map fun i=>vs.getD i dY):=by
  apply Dc.mp
  rw[har,Array.map_map,Array.toList_map]
  exact rT fun i _=>congrArg Prod.snd (kas_item_eq vs i)
 have hps:p.size=vs.length:=by
  have:=b1.size_eq
  simpa using this
 have hsz:(gS (p.toList.map fun i=>vs.getD i dY)).size≤sizeLine:=by
  rw[eB,cZ,BR,hps]; exact lz
 rw[hout]
 refine aH (seqEpoch_at hoM rfl (aH (listUpdate_at hoM rfl ?_ (fG _) (Nat.le_succ_of_le hsz))))
 rw[hf]
 simp only[bne_self_eq_false,rZ,if_false]
 exact aT (h p b1 b2)
theorem Yh{κ:SortKind}{lt:Nat->Nat->Bool}(O:Ord lt)(hl:s.heap.IsList l vs.toArray)(h2:2≤vs.length)(h64:vs.length<64)
  (hk : ∀ h',(∀ b o,s.heap.get? b=some o->h'.get? b=some o) -> ∀ (A':cO) (E':aE->aJ->Prop) (R:SortKind->aJ->Prop),R κ { s with heap:=h' }->aN (aW prog w) A' (keyKind' vs.toArray) R E' { s with heap:=h' })
  (hc : ∀ h',(∀ b o,s.heap.get? b=some o->h'.get? b=some o) -> ∀ (A':cO),A'.units≤A.units+4 -> ∀ i j (C:Bool->aJ->Prop),i<vs.length->j<vs.length->C (lt i j) { s with heap:=h' }->aN (aW prog w) A' (keyLt' κ (vs.getD i dY) (vs.getD j dY)) C (fun _ _=>False) { s with heap:=h' })
  (h : ∀ p:Array Nat,p.Perm (gS (cF vs.length))->gE lt p vs.length->Q (.ref (s.heap.objs.size+1)) { s with heap:=sortedAll s.heap vs (gS (p.toList.map fun i=>vs.getD i dY)) }) :
  aN (aW prog w) A (call (.builtin "sorted") [.ref l]) Q E s:=by
 refine Calls.call_function_entry kind_sorted plain_sorted entry_sorted (args_sorted1 _) ?_
 unfold Builtin.«sorted»
 refine aH (m:=checkCount "sorted" 1 1 _) (aT (aH (collect_list hl (aH (NA ?_)))))
 have z:((s.heap.push (gQ "list" #[] 0)).update s.heap.objs.size (gR (· ++ vs.toArray))).objs.size=s.heap.objs.size+1:=by rw[Heap.size_update,size_push']
 have hoL:(((s.heap.push (gQ "list" #[] 0)).update s.heap.objs.size (gR (· ++ vs.toArray))).push (gQ "list" vs.toArray 0)).get? (s.heap.objs.size+1)=some (gQ "list" vs.toArray 0):=z ▸ dQ _ rfl
 have kept : ∀ b o,s.heap.get? b=some o->(lM (((s.heap.push (gQ "list" #[] 0)).update s.heap.objs.size (gR (· ++ vs.toArray))).push (gQ "list" vs.toArray 0)) (s.heap.objs.size+1) vs).get? b=some o:=fun b o e=>by
  have hb:=cA e
  refine Mp b o (fun q=>?_) (cC _ (((xV _ s.heap.objs.size _).2 b (fun q=>?_)).trans (cC _ e)))
  ·exact absurd hb (by rw[q]; exact Nat.not_lt.mpr (rS _))
  ·exact absurd hb (by rw[q]; exact lB _)
 show aN _ _ _ _ _ { s with heap:=((s.heap.push (gQ "list" #[] 0)).update s.heap.objs.size (gR (· ++ vs.toArray))).push (gQ "list" vs.toArray 0) }
 rw[z]
 refine aH (kH (kI slot_list_sort ⟨_,hoL,rfl⟩ entry_list_sort (Ks (s:={ s with heap:=_ }) O hoL h2 h64 (fun R q=>hk _ kept _ _ R q) (fun i j C hi hj q=>hc _ kept _ ?_ i j C hi hj q) fun p b1 b2=>⟨_,rfl,?_⟩) (args_list_sort _)))
 ·first | (show A.units+1≤A.units+4; omega) | (show A.units+1+1≤A.units+4; omega) | (show A.units+1+1+1≤A.units+4; omega)
 ·exact aT ⟨_,rfl,h p b1 b2⟩
def gV:aA->List Int
 | .int i=>[0,i]
 | .str x=>1::x.cps.toList.map oY
 | _=>[2]
def cX (ks:List aA):List (List Int):=ks.map gV
theorem UP (a b:List (List Int))(h:a<b) : ¬ b<a:=List.lt_asymm h
theorem WC (a b c:List (List Int))(h1 : ¬ b<a)(h2 : ¬ c<b) : ¬ c<a:=by
 have h1:a≤b:=h1
 have h2:b≤c:=h2
 exact List.le_trans h1 h2
theorem JY {e:aA}(h1:(∃ i,d = .int i) \/ ∃ x,d = .str x)(h2:(∃ i,e = .int i) \/ ∃ x,e = .str x)(h:gV d=gV e):d=e:=by
 rcases h1 with⟨i,rfl⟩ | ⟨x,rfl⟩ <;> rcases h2 with⟨j,rfl⟩ | ⟨y,rfl⟩
 ·simp[gV] at h; rw[h]
 ·simp[gV] at h
 ·simp[gV] at h
 ·have h':x.cps.toList.map oY=y.cps.toList.map oY:=by simpa [gV] using h
  have:x.cps.toList=y.cps.toList:=(List.map_inj_right (fun a b q=>Int.ofNat.inj q)).mp h'
  have:x=y:=by
   cases x; cases y
   simp only at this
   rw[Dc.mp this]
  rw[this]
def OU (kss:List (List aA))(i j:Nat):Bool:=decide (cX (kss.getD i [])<cX (kss.getD j []))
theorem Ha (kss:List (List aA)):Ord (OU kss):=by
 refine⟨fun a b h=>?_,fun a b c h1 h2=>?_⟩
 ·have:=UP _ _ (of_decide_eq_true h)
  exact decide_eq_false this
 ·exact decide_eq_false (WC _ _ _ (of_decide_eq_false h1) (of_decide_eq_false h2))
theorem Abq.tupK{ks:List aA}(r:Abq K H (.tuple ks) v)(h1:bU ks=true)(h2:dA ks≤6) : ∃ a,v = .ref a/\Alm H ks a:=by
 obtain⟨a,xs,e,s,r⟩:=Aar.mp r
 exact⟨a,e,h1,h2,xs,s,Aas.keys ks h1 r⟩
def oJ:List aA->Option (List (List aA))
 | []=>some []
 | .tuple ks::r=>if bU ks=true/\dA ks≤6 then(oJ r).bind fun kss=>some (ks::kss) else none
 | _::_=>none
theorem TF : ∀ {ds:List aA} {kss:List (List aA)},oJ ds=some kss->ds=kss.map dZ /\ ∀ ks∈kss,bU ks=true/\dA ks≤6
 | [],kss,h=>by cases h; exact⟨rfl,fun _ m=>by simp at m⟩
 | .tuple ks::r,kss,h=>by
  by_cases c:bU ks=true/\dA ks≤6
  ·have h':((oJ r).bind fun kss=>some (ks::kss))=some kss:=by
    have:(if bU ks=true/\dA ks≤6 then(oJ r).bind fun kss=>some (ks::kss) else none)=some kss:=h
    rw[if_pos c] at this
    exact this
   obtain⟨k2,e1,e2⟩:=XBs h'
   cases e2
   obtain⟨q1,q2⟩:=TF e1
   refine⟨by rw[q1]; rfl,fun x m=>?_⟩
   rcases cY.mp m with rfl | m
   ·exact c
   ·exact q2 x m
  ·have:(if bU ks=true/\dA ks≤6 then(oJ r).bind fun kss=>some (ks::kss) else none)=some kss:=h
   rw[if_neg c] at this
   cases this
 | .none::_,_,h=>by cases h
 | .bool _::_,_,h=>by cases h
 | .int _::_,_,h=>by cases h
 | .str _::_,_,h=>by cases h
 | .list _::_,_,h=>by cases h
 | .dict _::_,_,h=>by cases h
open PySem PySem.Spec PySem.W PyProof.Rows
def hV:List aA->List aA->Bool
 | [],[]=>true
 | .int _::r,.int _::r'=>hV r r'
 | .str _::r,.str _::r'=>hV r r'
 | _,_=>false
theorem RK (i j:Int)(r r':List aA):(cX (.int i::r)<cX (.int j::r'))↔i<j \/ i=j/\cX r<cX r':=by
 show(gV (.int i)::cX r<gV (.int j)::cX r')↔_
 rw[BL]
 simp[gV,BL]
theorem map_lt (xs ys:List Nat):(xs.map oY<ys.map oY)↔xs<ys:=by
 induction xs generalizing ys with
 | nil=>cases ys <;> simp
 | cons x r ih=>
  cases ys with
  | nil=>simp
  | cons y r'=>
   rw[dH,dH,BL,BL,ih]
   have h1:(oY x<oY y)↔x<y:=Int.ofNat_lt
   have h2:(oY x=oY y)↔x=y:=⟨fun e=>Int.ofNat.inj e,fun e=>by rw[e]⟩
   rw[h1,h2]
theorem QT (x y:aC)(r r':List aA):(cX (.str x::r)<cX (.str y::r'))↔x.cps.toList<y.cps.toList \/ x=y/\cX r<cX r':=by
 show(gV (.str x)::cX r<gV (.str y)::cX r')↔_
 rw[BL]
 have h1:(gV (.str x)<gV (.str y))↔x.cps.toList<y.cps.toList:=by
  show((1:Int)::x.cps.toList.map oY<(1:Int)::y.cps.toList.map oY)↔_
  rw[BL,map_lt]
  simp
 have h2:(gV (.str x)=gV (.str y))↔x=y:=⟨fun e=>by
  have:=JY (.inr ⟨x,rfl⟩) (.inr ⟨y,rfl⟩) e
  injection this,fun e=>by rw[e]⟩
 rw[h1,h2]
section
variable {Q:Bool->aJ->Prop}
theorem IC : ∀ (ks ks':List aA) {vs vs':List aE} {as as':List aD} (i:Nat),hV ks ks'=true->qA s.heap vs ks as->qA s.heap vs' ks' as'->Q (decide (cX ks<cX ks')) s->KatLex prog w A b false Q (vs.zip vs') i s
 | [],[],vs,vs',as,as',i,_,r,r',h=>by
  cases r; cases r'
  exact kat_nil h
 | .int x::ks,.int y::ks',vs,vs',as,as',i,hs,r,r',h=>by
  cases r with
  | cons r1 r2=>
   cases r' with
   | cons r1' r2'=>
    cases r1 with
    | int _ t=>
     cases r1' with
     | int _ u=>
      rw[By]
      refine kat_cons ((fJ prog w).eqBool (a:=.inl x) (b:=.inl y) (LM _ _ x t) (LM _ _ y u) ?_)
      refine kat_go (fun e=>kat_yes ?_) fun e=>kat_no ?_
      ·have e':x=y:=by simpa using e
       subst e'
       refine IC ks ks' (i+1) (by simpa [hV] using hs) r2 r2' ?_
       have:decide (cX (.int x::ks)<cX (.int x::ks'))=decide (cX ks<cX ks'):=decide_eq_decide.mpr (by rw[RK]; simp)
       rw[← this]; exact h
      ·have e':x≠y:=by simpa using e
       have:decide (cX (.int x::ks)<cX (.int y::ks'))=decide (x<y):=decide_eq_decide.mpr (by rw[RK]; simp[e'])
       rw[this] at h
       cases(b&&i == 0) with
       | true=>exact oneLt_int h
       | false=>exact kat_one _ _ (lt_int h)
 | .str x::ks,.str y::ks',vs,vs',as,as',i,hs,r,r',h=>by
  cases r with
  | cons r1 r2=>
   cases r' with
   | cons r1' r2'=>
    cases r1 with
    | str _ t=>
     cases r1' with
     | str _ u=>
      rw[By]
      refine kat_cons ((fJ prog w).eqBool (a:=.inr x) (b:=.inr y) (LS _ _ x t) (LS _ _ y u) ?_)
      refine kat_go (fun e=>kat_yes ?_) fun e=>kat_no ?_
      ·have e':x=y:=by simpa using e
       subst e'
       refine IC ks ks' (i+1) (by simpa [hV] using hs) r2 r2' ?_
       have:decide (cX (.str x::ks)<cX (.str x::ks'))=decide (cX ks<cX ks'):=decide_eq_decide.mpr (by rw[QT]; simp[List.lt_irrefl])
       rw[← this]; exact h
      ·have e':x≠y:=by simpa using e
       have:decide (cX (.str x::ks)<cX (.str y::ks'))=decide (x.cps.toList<y.cps.toList):=decide_eq_decide.mpr (by rw[QT]; simp[e'])
       rw[this] at h
       cases(b&&i == 0) with
       | true=>exact oneLt_str h
       | false=>exact kat_one _ _ (lt_str h)
end
def mW:List aA->Option String
 | .int _::_=>some "int"
 | .str _::_=>some "str"
 | _=>none
theorem Uw {M:Model}{k:List aA}{b:aD}(hd:Ag1 h k b)(hk:mW k=some T) :
  ∃ o xs n f,h.get? b=some o/\o.cls = .type "tuple" /\ o.data = .seq xs n/\xs[0]?=some f/\Looks M h (typeOf f) (.type T):=by
 obtain⟨_,_,as,r⟩:=hd
 obtain⟨a,o,xs,n,e,ho,hc,hd,hi⟩:=wM r
 cases e
 match k,hk,hi with
 | .int i::r,hk,hi=>
  cases hk
  generalize hx:xs.toList=l at hi
  cases hi with
  | cons h1 _=>
   cases h1 with
   | int _ t=>exact⟨o,xs,n,.int i t,ho,hc,hd,by rw[← Dd,hx]; rfl,Looks.of_pure rfl⟩
 | .str x::r,hk,hi=>
  cases hk
  generalize hx:xs.toList=l at hi
  cases hi with
  | cons h1 _=>
   cases h1 with
   | str _ t=>exact⟨o,xs,n,.str x t,ho,hc,hd,by rw[← Dd,hx]; rfl,Looks.of_pure rfl⟩
abbrev Aha (h:aY)(vs:List aE)(kss:List (List aA)):Prop:=iF (fun v k=>∃ b,v=eX b/\Ag1 h k b) vs kss
theorem VJ {M:Model}{h:aY}{T:String} : ∀ {vs:List aE} {kss:List (List aA)},Aha h vs kss->(∀ k∈kss,mW k=some T) -> ∃ fs,KatTups h vs fs/\fs.length=vs.length /\ ∀ f∈fs,Looks M h (typeOf f) (.type T)
 | _,_,.nil,_=>⟨[],KatTups.nil,rfl,fun _ m=>by simp at m⟩
 | _,_,.cons ⟨b,e,hd⟩ t,hk=>by
  obtain⟨fs,h1,h2,h3⟩:=VJ (M:=M) t fun k m=>hk k (bT _ m)
  obtain⟨o,xs,n,f,q1,q2,q3,q4,q5⟩:=Uw (M:=M) hd (hk _ bO)
  subst e
  refine⟨f::fs,KatTups.cons q1 q2 q3 q4 h1,by rw[fN,fN,h2],fun g m=>?_⟩
  rcases cY.mp m with rfl | m
  ·exact q5
  ·exact h3 g m
theorem Aha.get : ∀ {vs:List aE} {kss:List (List aA)},Aha h vs kss -> ∀ i,i<vs.length -> ∃ b,vs.getD i dY = .ref b/\Ag1 h (kss.getD i []) b/\kss.getD i []∈kss
 | _,_,.nil,i,hi=>absurd hi (by simp)
 | _,_,.cons ⟨b,e,hd⟩ t,0,_=>⟨b,e,hd,bO⟩
 | _,_,.cons _ t,i+1,hi=>by
  obtain⟨b,q1,q2,q3⟩:=Aha.get t i (by simpa using hi)
  exact⟨b,by simpa using q1,by simpa using q2,by simpa using bT _ q3⟩
theorem Aha.keep(k : ∀ b o,h.get? b=some o->h'.get? b=some o) : ∀ {vs:List aE} {kss:List (List aA)},Aha h vs kss->Aha h' vs kss
 | _,_,.nil=>.nil
 | _,_,.cons ⟨b,e,hd⟩ t=>.cons ⟨b,e,hd.keep fun b o _ _ q _ _=>k b o q⟩ (Aha.keep k t)
theorem KH : ∀ {k k':List aA},hV k k'=true->k.length=k'.length
 | [],[],_=>rfl
 | .int _::r,.int _::r',h=>by rw[fN,fN,KH (k:=r) (k':=r') (by simpa [hV] using h)]
 | .str _::r,.str _::r',h=>by rw[fN,fN,KH (k:=r) (k':=r') (by simpa [hV] using h)]
theorem KS : ∀ {vs:List aE} {ks:List aA} {as:List aD},qA h vs ks as->vs.length=ks.length
 | _,_,_,.nil=>rfl
 | _,_,_,.cons _ t=>by rw[fN,fN,KS t]
theorem Qb(hl:s.heap.IsList l vs.toArray)(ht:Aha s.heap vs kss)(hT:T = "int" \/ T = "str")(hk : ∀ k∈kss,mW k=some T)(hs : ∀ k∈kss,∀ k'∈kss,hV k k'=true)(h2:2≤vs.length)(h64:vs.length<64)
  (h : ∀ p:Array Nat,p.Perm (gS (cF vs.length))->gE (OU kss) p vs.length->Q (.ref (s.heap.objs.size+1)) { s with heap:=sortedAll s.heap vs (gS (p.toList.map fun i=>vs.getD i dY)) }) :
  aN (aW prog w) A (call (.builtin "sorted") [.ref l]) Q E s:=by
 refine Yh (κ:=tuples' (oT T != oT "tuple")) (Ha kss) hl h2 h64 (fun h' kp A' E' R q=>?_) (fun h' kp A' _ i j C hi hj q=>?_) h
 ·obtain⟨fs,f1,f2,f3⟩:=VJ (M:=aW prog w) (ht.keep kp) hk
  exact kat_kind (s:={ s with heap:=h' }) f1 (by omega) f3 (by rcases hT with rfl | rfl <;> decide) q
 ·have ht':=ht.keep kp
  obtain⟨b,e1,⟨_,_,as,r1⟩,m1⟩:=ht'.get i hi
  obtain⟨b',e2,⟨_,_,as',r2⟩,m2⟩:=ht'.get j hj
  rw[e1,e2]
  obtain⟨_,o,xs,n,z,ho,_,hd,hr⟩:=wM r1
  cases z
  obtain⟨_,o',xs',n',z,ho',_,hd',hr'⟩:=wM r2
  cases z
  have hsm:=hs _ m1 _ m2
  have l1:=KS hr
  have l2:=KS hr'
  have ll:=KH hsm
  have:decide (xs.size<xs'.size)=false:=decide_eq_false (by simp only[BR] at l1 l2; omega)
  refine kat_lt (s:={ s with heap:=h' }) ho hd ho' hd' ?_
  rw[this]
  exact IC _ _ 0 hsm hr hr' q
theorem Uo{P:PySem.Fin->aJ->Prop}(ho:s.heap.get? a=some (gQ "list" vs.toArray n))(h2:vs.length<2)(h:P (.done (.ret .none)) { s with heap:=sortedHeap s.heap a vs vs.toArray }) :
  aN (aW prog w) A (Builtin.«list.sort» ⟨[.ref a],[]⟩) P E s:=by
 have lz:vs.length≤sizeLine:=by rw[xI]; omega
 obtain⟨e1,ho1⟩ : ∃ e,(s.heap.update a (gR fun _=>(#[]:Array aE))).get? a=some (gQ "list" #[] e):=⟨_,get?_update_seq ho fun _=>#[]⟩
 have hoM:(lM s.heap a vs).get? a=some (gQ "list" #[] e1):=cC _ (cC _ ho1)
 rw[list_sort_plain]
 refine aH (listItems_at ho rfl (aH (listUpdate_at ho rfl (aH (seqEpoch_at ho1 rfl (aH (MZ (aH (NA (kH ?_) (fG _))) (by simpa using lz))))) (by rw[eB]; exact lz) (fG _))))
 show aN (aW prog w) A _ P E { s with heap:=lM s.heap a vs }
 dsimp only
 have few:vs.toArray.size<2:=by rw[eB]; exact h2
 rw[if_pos few,if_pos few]
 refine aH (aT ?_)
 rw[StateT.run_pure]
 refine aH (aT ?_)
 dsimp only
 have hout:(arrOf (SortSt.mk' general' (vs.toArray.zip vs.toArray) #[] 7 none)).map (·.2)=vs.toArray:=by
  show(vs.toArray.zip vs.toArray).map (·.2)=vs.toArray
  apply Dc.mp
  have : ∀ l:List aE,List.map (fun x=>x.snd) (l.zip l)=l:=fun l=>by
   induction l with
   | nil=>rfl
   | cons a l ih=>rw[By,dH,ih]
  simpa using this vs
 rw[hout]
 refine aH (seqEpoch_at hoM rfl (aH (listUpdate_at hoM rfl ?_ (fG _) (Nat.le_succ_of_le (by rw[eB]; exact lz)))))
 simp only[bne_self_eq_false,rZ,if_false]
 exact aT h
theorem Oy(hl:s.heap.IsList l vs.toArray)(h2:vs.length<2)(h:Q (.ref (s.heap.objs.size+1)) { s with heap:=sortedAll s.heap vs vs.toArray }) :
  aN (aW prog w) A (call (.builtin "sorted") [.ref l]) Q E s:=by
 refine Calls.call_function_entry kind_sorted plain_sorted entry_sorted (args_sorted1 _) ?_
 unfold Builtin.«sorted»
 refine aH (m:=checkCount "sorted" 1 1 _) (aT (aH (collect_list hl (aH (NA ?_)))))
 have z:((s.heap.push (gQ "list" #[] 0)).update s.heap.objs.size (gR (· ++ vs.toArray))).objs.size=s.heap.objs.size+1:=by rw[Heap.size_update,size_push']
 have hoL:(((s.heap.push (gQ "list" #[] 0)).update s.heap.objs.size (gR (· ++ vs.toArray))).push (gQ "list" vs.toArray 0)).get? (s.heap.objs.size+1)=some (gQ "list" vs.toArray 0):=z ▸ dQ _ rfl
 show aN _ _ _ _ _ { s with heap:=((s.heap.push (gQ "list" #[] 0)).update s.heap.objs.size (gR (· ++ vs.toArray))).push (gQ "list" vs.toArray 0) }
 rw[z]
 refine aH (kH (kI slot_list_sort ⟨_,hoL,rfl⟩ entry_list_sort (Uo (s:={ s with heap:=_ }) hoL h2 ⟨_,rfl,?_⟩) (args_list_sort _)))
 exact aT ⟨_,rfl,h⟩
theorem IE : ∀ {a b:List aA},hV a b=true->cX a=cX b->a=b
 | [],[],_,_=>rfl
 | .int i::r,.int j::r',h,e=>by
  have h':hV r r'=true:=by simpa [hV] using h
  have e':gV (.int i)=gV (.int j)/\cX r=cX r':=by simpa [cX] using e
  rw[JY (.inl ⟨i,rfl⟩) (.inl ⟨j,rfl⟩) e'.1,IE h' e'.2]
 | .str x::r,.str y::r',h,e=>by
  have h':hV r r'=true:=by simpa [hV] using h
  have e':gV (.str x)=gV (.str y)/\cX r=cX r':=by simpa [cX] using e
  rw[JY (.inr ⟨x,rfl⟩) (.inr ⟨y,rfl⟩) e'.1,IE h' e'.2]
def leT (a b:List aA):Bool:=!decide (cX b<cX a)
theorem Akj {a b:List aA}:leT a b=true ↔ ¬ cX b<cX a:=by simp[leT]
theorem Xz (a b c:List aA)(h1:leT a b=true)(h2:leT b c=true):leT a c=true:=Akj.mpr (WC _ _ _ (Akj.mp h1) (Akj.mp h2))
theorem Nw (a b:List aA):(leT a b||leT b a)=true:=by
 by_cases h:cX b<cX a
 ·have:=UP _ _ h
  simp[leT,h,this]
 ·simp[leT,h]
theorem Tw {a b:List aA}(hs:hV a b=true)(h1:leT a b=true)(h2:leT b a=true):a=b:=by
 have h1:cX a≤cX b:=Akj.mp h1
 have h2:cX b≤cX a:=Akj.mp h2
 exact IE hs (List.le_antisymm h1 h2)
def oC (kss:List (List aA)):List (List aA):=kss.mergeSort leT
def sameAll (kss:List (List aA)):Bool:=kss.all fun k=>kss.all fun k'=>hV k k'
def okT (kss:List (List aA)):Bool:=decide (kss.length<2)||(sameAll kss&&kss.all fun k=>(mW k).isSome)
theorem EK (kss:List (List aA)):(oC kss).Perm kss:=List.mergeSort_perm kss leT
theorem Pz (kss:List (List aA)):(oC kss).Pairwise fun a b=>leT a b=true:=List.pairwise_mergeSort Xz Nw kss
theorem VS {qs:List (List aA)}(hs:okT kss=true)(hp:qs.Perm kss)(hr:qs.Pairwise fun a b=>leT a b=true):qs=oC kss:=by
 have hp':qs.Perm (oC kss):=hp.trans (EK kss).symm
 by_cases h2:kss.length<2
 ·have l1:qs.length<2:=by rw[hp.length_eq]; exact h2
  match qs,l1,hp' with
  | [],_,hp'=>exact(List.nil_perm.mp hp').symm
  | [q],_,hp'=>exact List.singleton_perm.mp hp'
 ·have hs':sameAll kss=true:=by
   have:(sameAll kss&&kss.all fun k=>(mW k).isSome)=true:=by simpa [okT,h2] using hs
   exact(iH.mp this).1
  refine List.Perm.eq_of_pairwise (fun a b ma mb h1 h2=>Tw ?_ h1 h2) hr (Pz kss) hp'
  have ma':=hp.mem_iff.mp ma
  have mb':=(EK kss).mem_iff.mp mb
  exact fH.mp (fH.mp hs' a ma') b mb'
theorem same_kind : ∀ {k k':List aA},hV k k'=true->mW k=mW k'
 | [],[],_=>rfl
 | .int _::_,.int _::_,_=>rfl
 | .str _::_,.str _::_,_=>rfl
theorem Ni {k:List aA}(h:mW k=some T):T = "int" \/ T = "str":=by
 unfold mW at h
 split at h
 ·cases h; exact .inl rfl
 ·cases h; exact .inr rfl
 ·cases h
theorem Po(hl:s.heap.IsList l vs.toArray)(ht:Aha s.heap vs kss)(ok:okT kss=true)(h64:vs.length<64)
  (h : ∀ p:List Nat,p.Perm (cF vs.length)->p.map (fun i=>kss.getD i [])=oC kss->Q (.ref (s.heap.objs.size+1)) { s with heap:=sortedAll s.heap vs (gS (p.map fun i=>vs.getD i dY)) }) :
  aN (aW prog w) A (call (.builtin "sorted") [.ref l]) Q E s:=by
 have ln:vs.length=kss.length:=uK ht
 have idp : ∀ {α:Type} (xs:List α) (d:α),(cF xs.length).map (fun i=>xs.getD i d)=xs:=fun xs d=>by
  apply Cn
  ·simp
  ·intro i h1 h2
   simp at h1
   simp[h1]
 by_cases h2:vs.length<2
 ·refine Oy hl h2 ?_
  have:=h (cF vs.length) (List.Perm.refl _) (by
   rw[ln,idp kss]
   refine VS ok (List.Perm.refl _) ?_
   match kss,ln with
   | [],_=>exact .nil
   | [k],_=>simp
   | _::_::_,ln=>simp at ln; omega)
  rw[idp vs] at this
  exact this
 ·have hs:sameAll kss=true/\(kss.all fun k=>(mW k).isSome)=true:=by
   have h2' : ¬ kss.length<2:=by omega
   have:(sameAll kss&&kss.all fun k=>(mW k).isSome)=true:=by simpa [okT,h2'] using ok
   exact iH.mp this
  obtain⟨k0,m0⟩ : ∃ k0,k0∈kss:=by
   cases hk:kss with
   | nil=>rw[hk] at ln; exact absurd ln (by simp; intro e; rw[e] at h2; simp at h2)
   | cons k r=>exact⟨k,bO⟩
  obtain⟨T,hT⟩:=FU.mp (fH.mp hs.2 k0 m0)
  have sm : ∀ k∈kss,∀ k'∈kss,hV k k'=true:=fun k m k' m'=>fH.mp (fH.mp hs.1 k m) k' m'
  refine Qb hl ht (Ni hT) (fun k m=>(same_kind (sm k m k0 m0)).trans hT) sm (by omega) h64 fun p hp ha=>?_
  have hp':p.toList.Perm (cF vs.length):=by simpa using Array.perm_iff_toList_perm.mp hp
  have pl:p.toList.length=vs.length:=by rw[hp'.length_eq,NX]
  refine h p.toList hp' (VS ok ?_ ?_)
  ·have:=hp'.map (fun i=>kss.getD i [])
   rw[ln,idp kss] at this
   exact this
  ·rw[NU,Yx]
   intro i j hi hj hij
   refine Akj.mpr ?_
   have:=ha i j (qC hij) (by omega)
   have e1:at' p i=p.toList[i]:=by simp at hi; simp[at',hi]
   have e2:at' p j=p.toList[j]:=by simp at hj; simp[at',hj]
   rw[e1,e2] at this
   exact of_decide_eq_false this
abbrev vJ (H:Hp)(ys:List V)(kss:List (List aA)):Prop:=iF (fun y k=>∃ b,y=V.ref b/\Alm H k b) ys kss
theorem TK : ∀ {kss:List (List aA)} {ys:List V},(∀ ks∈kss,bU ks=true/\dA ks≤6)->Aas K H (kss.map dZ) ys->vJ H ys kss
 | [],ys,_,r=>by rw[Aao.mp r]; exact .nil
 | k::kss,ys,hk,r=>by
  obtain⟨v,t,rfl,r1,r2⟩:=Aah.mp r
  obtain⟨b,rfl,tk⟩:=r1.tupK (hk k bO).1 (hk k bO).2
  exact .cons ⟨b,rfl,tk⟩ (TK (fun x m=>hk x (bT _ m)) r2)
theorem TQ(x : ∀ c zs,H c=some (.tup zs)->H' c=some (.tup zs)) : ∀ {ys:List V} {kss:List (List aA)},vJ H ys kss->vJ H' ys kss
 | _,_,.nil=>.nil
 | _,_,.cons ⟨b,e,tk⟩ t=>.cons ⟨b,e,tk.keep x⟩ (TQ x t)
theorem RE(ok:HOk P w H h) : ∀ {ys:List V} {kss:List (List aA)} {vs:List aE},vJ H ys kss->Vals ys vs->Aha h vs kss
 | _,_,_,.nil,.nil=>.nil
 | _,_,_,.cons ⟨b,e,tk⟩ t,.cons r rr=>by
  subst e
  cases r
  exact .cons ⟨b,rfl,key_of ok tk⟩ (RE ok t rr)
def sQ (p:List Nat)(ys:List V):List V:=p.map fun i=>ys.getD i .non
theorem US : ∀ {ys:List V} {vs:List aE} (i:Nat),Vals ys vs->i<ys.length->RelV (ys.getD i .non) (vs.getD i dY)
 | _,_,0,.cons r _,_=>r
 | _,_,i+1,.cons _ t,h=>US i t (by simpa using h)
theorem UO(r:Vals ys vs) : ∀ p:List Nat,(∀ i∈p,i<ys.length)->Vals (sQ p ys) (p.map fun i=>vs.getD i dY)
 | [],_=>.nil
 | i::p,h=>.cons (US i r (h i bO)) (UO r p fun j m=>h j (bT _ m))
theorem Rr:Aek X (.builtin "sorted") (fun xs H Q=>∃ p ys kss,xs=[.ref p]/\SqL X.K H p ys/\vJ H ys kss/\okT kss=true/\kss.length<64 /\
  ∀ l q,H l=none->q.Perm (cF ys.length)->q.map (fun i=>kss.getD i [])=oC kss->Q (.ref l) (upd H l (.lst (sQ q ys)))):=by
 intro pins s σ H xs us Q I r h
 obtain⟨p,ys,kss,rfl,hp,rf,ok,hl,q⟩:=h
 obtain⟨u,rfl,ru⟩:=vals1 r
 cases ru
 obtain⟨its,rv,pl,hz⟩:=I.list hp
 have e1:ys.length=its.length:=rv.length
 have e2:ys.length=kss.length:=uK rf
 refine Po pl.isList (RE I.hok rf rv) ok (by omega) fun q' hp' hs=>?_
 have hq : ∀ i∈q',i<ys.length:=fun i m=>by
  have:=qE.mp (hp'.mem_iff.mp m)
  omega
 obtain⟨e,he⟩:=sortedAll_at s.heap its (gS (q'.map fun i=>its.getD i dY))
 have hn:H (s.heap.objs.size+1)=none:=I.hok.fresh (rS _)
 have lz:(sQ q' ys).length≤sizeLine:=by
  unfold sQ
  rw[cZ,hp'.length_eq,NX]
  omega
 exact⟨.ref (s.heap.objs.size+1),_,I.laid (t':=s.toks) (o:=.lst (sQ q' ys)) (fun b ob g=>sortedAll_old g) (rS _) ⟨lz,_,e,UO rv q' hq,he⟩,rfl,q _ q' hn (by rw[e1]; exact hp') hs⟩
def yJ:List aA->Option aA
 | [.list ds]=>(oJ ds).bind fun kss=>if okT kss=true/\kss.length<64 then some (.list ((oC kss).map dZ)) else none
 | _=>none
theorem UU : ∀ {kss:List (List aA)} {ys:List V} (i:Nat),Aas K H (kss.map dZ) ys->i<ys.length->Abq K H (.tuple (kss.getD i [])) (ys.getD i .non)
 | [],ys,i,r,h=>by rw[Aao.mp r] at h; simp at h
 | k::kss,ys,0,r,h=>by
  obtain⟨v,t,rfl,r1,r2⟩:=Aah.mp r
  exact r1
 | k::kss,ys,i+1,r,h=>by
  obtain⟨v,t,rfl,r1,r2⟩:=Aah.mp r
  exact UU i r2 (by simpa using h)
theorem WI(r:Aas K H (kss.map dZ) ys) : ∀ p:List Nat,(∀ i∈p,i<ys.length)->Aas K H ((p.map fun i=>kss.getD i []).map dZ) (sQ p ys)
 | [],_=>Aao.mpr rfl
 | i::p,h=>Aah.mpr ⟨_,_,rfl,UU i r (h i bO),WI r p fun j m=>h j (bT _ m)⟩
theorem Qz:CallD K 1 (fun xs H Q=>∃ p ys kss,xs=[.ref p]/\SqL K H p ys/\vJ H ys kss/\okT kss=true/\kss.length<64 /\
  ∀ l q,H l=none->q.Perm (cF ys.length)->q.map (fun i=>kss.getD i [])=oC kss->Q (.ref l) (upd H l (.lst (sQ q ys)))) yJ:=fun P H xs ds d Q hP r e k=>by
 unfold yJ at e
 split at e
 ·obtain⟨kss,e1,e2⟩:=XBs e
  obtain⟨⟨ok,hl⟩,rfl⟩:=cN e2
  obtain⟨rfl,hk⟩:=TF e1
  obtain⟨v,rfl,r'⟩:=hZ r
  obtain⟨q,ys,rfl,hq,rr⟩:=Abk.mp r'
  refine⟨q,ys,kss,rfl,Aau.sqL hq,?_,ok,hl,fun l p hn hp hs=>?_⟩
  ·exact TQ (fun c zs g=>Aau _ _ g) (TK hk rr)
  ·have hi : ∀ i∈p,i<ys.length:=fun i m=>qE.mp (hp.mem_iff.mp m)
   have:=WI rr p hi
   rw[hs] at this
   exact k.lst hP hn this
 ·cases e
def sNo:SF:=fun _=>none
theorem Fq{s:bZ}:DS X H0 P0 n0 s sNo:=fun pins st σ H D I q=>by
 obtain⟨B0,ρ,fp,o,S,ef,k⟩:=q
 cases ef
theorem Jt {k':aI}{v:aE}(r:RelV (kV k) u)(r':RelV (kV k') v):NS u v (decide (k=k')):=by
 intro prog w A E s Q q
 cases k with
 | inl i=>
  obtain⟨t,rfl⟩:=(show ∃ t,u=uH i t from r)
  cases k' with
  | inl j=>
   obtain⟨t',rfl⟩:=(show ∃ t,v=uH j t from r')
   refine SeqAt.EqAt.int_int i t j t' prog w E Q ?_
   have:(i == j)=decide ((rQ i:aI)=rQ j):=by
    rw[pA]; simp
   rw[this]; exact q
  | inr y=>
   obtain⟨t',rfl⟩:=(show ∃ t,v=uG y t from r')
   exact SeqAt.EqAt.int_str i t y t' prog w E Q (by simpa using q)
 | inr x=>
  obtain⟨t,rfl⟩:=(show ∃ t,u=uG x t from r)
  cases k' with
  | inl j=>
   obtain⟨t',rfl⟩:=(show ∃ t,v=uH j t from r')
   exact SeqAt.EqAt.str_int x t j t' prog w E Q (by simpa using q)
  | inr y=>
   obtain⟨t',rfl⟩:=(show ∃ t,v=uG y t from r')
   refine SeqAt.EqAt.str_str x t y t' prog w E Q ?_
   have:(x == y)=decide ((fW x:aI)=fW y):=by
    rw[pA]; simp
   rw[this]; exact q
theorem Tr (l:aD)(us:Array aE)(n:Nat)(dd:Option aD)(sl:Array (Option aE))(x:aE)(e:aE->Bool)(he : ∀ y,y∈us->NS y x (e y))(top:Int)(j:Nat)(hj:j<us.size)(ht:(j:Int)<top)(hit:e us[j]=true) :
  ∀ (k i:Nat),j - i=k->i≤j->(∀ m (hm:m<us.size),i≤m->m<j->e us[m]=false)->Meets (Builtin.«list.index.loop» ⟨[.ref l,x,jF i,jF top],[]⟩)
   (fun _ R s=>s.heap.get? l=some { cls:=.type "list",dict:=dd,data:=.seq us n,slots:=sl }/\R (.ok (.ret (.int j s.toks))) { s with toks:=s.toks+1 }):=by
 intro k
 induction k with
 | zero=>
  intro i hk hij hno prog w A R s h
  obtain⟨hp,g,d,tk,os⟩:=s
  obtain⟨hl,h⟩:=h
  obtain rfl:i=j:=by omega
  wp_walk using wpAny_loadPart' hl
  rw[show(if (i:Int)<top then us[((i:Nat):Int).toNat]? else none)=some us[i] by simp[ht,hj]]
  refine aH (he _ (Array.getElem_mem hj) prog w _ _ _ _ ?_)
  rw[hit]
  wp_walk
  exact h
 | succ k ih=>
  intro i hk hij hno prog w A R s h
  obtain⟨hp,g,d,tk,os⟩:=s
  obtain⟨hl,h⟩:=h
  have lt:i<us.size:=by omega
  have lo:(i:Int)<top:=by omega
  wp_walk using wpAny_loadPart' hl
  rw[show(if (i:Int)<top then us[((i:Nat):Int).toNat]? else none)=some us[i] by simp[lo,lt]]
  refine aH (he _ (Array.getElem_mem lt) prog w _ _ _ _ ?_)
  rw[hno i lt (bI _) (by omega)]
  wp_walk
  rw[show((i:Int)+1)=((i+1:Nat):Int) by push_cast; rfl]
  refine⟨xK NR _,AV MeetsSeq.entry_index_loop ?_⟩
  rw[BS NR _]
  exact ih (i+1) (by omega) (by omega) (fun m hm h1 h2=>hno m hm (by omega) h2) prog w A R _ ⟨hl,h⟩
theorem Yn (l:aD)(us:Array aE)(n:Nat)(dd:Option aD)(sl:Array (Option aE))(x:aE)(e:aE->Bool)(he : ∀ y,y∈us->NS y x (e y))(j:Nat)(hj:j<us.size)(small:(j:Int)<2 ^ 63 - 1)(hit:e us[j]=true)(hno : ∀ m (hm:m<us.size),m<j->e us[m]=false) :
  Meets (Builtin.«list.index» ⟨[.ref l,x],[]⟩) (fun _ R s=>s.heap.get? l=some { cls:=.type "list",dict:=dd,data:=.seq us n,slots:=sl }/\R (.ok (.ret (.int j s.toks))) { s with toks:=s.toks+1 }):=by
 intro prog w A R s h
 obtain⟨hp,g,d,tk,os⟩:=s
 obtain⟨hl,h⟩:=h
 wp_walk using wpAny_loadPart' hl
 rw[show((fun i:Int=>if i<0 then max 0 (i+(us.size:Int)) else i) ((none:Option Int).getD 0))=((0:Nat):Int) by simp,show((fun i:Int=>if i<0 then max 0 (i+(us.size:Int)) else i) ((none:Option Int).getD (2 ^ 63 - 1)))=2 ^ 63 - 1 by simp]
 refine⟨xK NR _,AV MeetsSeq.entry_index_loop ?_⟩
 rw[BS NR _]
 exact Tr l us n dd sl x e he (2 ^ 63 - 1) j hj small hit _ 0 rfl (fG _) (fun m hm _ h2=>hno m hm h2) prog w A R _ ⟨hl,h⟩
def atK (ks:List aI)(k:aI):Option Nat:=ks.findIdx? fun y=>decide (y=k)
theorem RX {ks:List aI}(h:atK ks k=some j):ks[j]?=some k /\ ∀ m,m<j->ks[m]?≠some k:=by
 obtain⟨hj,h1,h2⟩:=List.findIdx?_eq_some_iff_getElem.mp h
 refine⟨by rw[jX hj,of_decide_eq_true h1],fun m hm e=>?_⟩
 have:=h2 m hm
 have hl:m<ks.length:=by omega
 rw[jX hl] at e
 exact this (decide_eq_true (eY e))
theorem EA : ∀ {ks:List aI} {us:List aE},Vals (ks.map kV) us -> ∀ (m:Nat) (hm:m<us.length),∃ k,ks[m]?=some k/\RelV (kV k) us[m]
 | [],_,.nil,m,hm=>by simp at hm
 | k::ks,_::us,.cons h t,0,hm=>⟨k,rfl,h⟩
 | k::ks,_::us,.cons h t,m+1,hm=>by
  obtain⟨k',e,r⟩:=EA t m (by simpa using hm)
  exact⟨k',by simpa using e,by simpa using r⟩
def isV (k:aI)(u:aE):Bool:=match k,u with
 | .inl i,.int j _=>decide (j=i)
 | .inr x,.str y _=>decide (y=x)
 | _,_=>false
theorem II {k':aI}(r:RelV (kV k) u):isV k' u=decide (k=k'):=by
 cases k with
 | inl i=>
  obtain⟨t,rfl⟩:=(show ∃ t,u=uH i t from r)
  cases k' with
  | inl j=>simp[isV]
  | inr y=>simp[isV]
 | inr x=>
  obtain⟨t,rfl⟩:=(show ∃ t,u=uG x t from r)
  cases k' with
  | inl j=>simp[isV]
  | inr y=>simp[isV]
def Ma (K:aK):V->List V->Hp->VK->Prop:=fun x vs H Q=>∃ p ks k j,x = .ref p/\vs=[kV k]/\SqL K H p (ks.map kV)/\atK ks k=some j/\Q (.int j) H
theorem WK {ks:List aI}{us:List aE}{v:aE}(r:Vals (ks.map kV) us)(rk:RelV (kV k) v)(h:atK ks k=some j) :
  (∀ y,y∈us.toArray->NS y v (isV k y)) /\ ∃ hj:j<us.toArray.size,isV k us.toArray[j]=true /\ ∀ m (hm:m<us.toArray.size),m<j->isV k us.toArray[m]=false:=by
 obtain⟨h1,h2⟩:=RX h
 have hl:ks.length=us.length:=by simpa using r.length
 have hj:j<us.length:=by rw[← hl]; exact(dD.mp h1).1
 refine⟨fun y m=>?_,by simpa using hj,?_,fun m hm hlt=>?_⟩
 ·obtain⟨i,hi,rfl⟩:=xR (show y∈us by simpa using m)
  obtain⟨k',e,rr⟩:=EA r i hi
  rw[II rr]
  exact Jt rr rk
 ·obtain⟨k',e,rr⟩:=EA r j hj
  rw[h1] at e
  cases e
  show isV k us[j]=true
  rw[II rr]
  simp
 ·have hm':m<us.length:=by simpa using hm
  obtain⟨k',e,rr⟩:=EA r m hm'
  show isV k us[m]=false
  rw[II rr]
  exact decide_eq_false fun q=>h2 m hlt (q ▸ e)
theorem Yi:MtR X "list.index" (Ma X.K):=by
 intro pins s σ H x vs v us Q I rx rv h
 obtain⟨p,ks,k,j,rfl,rfl,hp,hj,q⟩:=h
 cases rx
 obtain⟨u,rfl,ru⟩:=rv.one
 obtain⟨its,r,pl,hz⟩:=I.list hp
 obtain⟨he,hlt,hit,hno⟩:=WK r ru hj
 obtain⟨⟨cls,dd,data,sl⟩,n,e,hc,_,hd⟩:=pl
 simp only at hc hd
 subst hc hd
 have hn:=qS
 have lz:its.toArray.size≤sizeLine:=by rw[eB,← r.length]; exact hz
 refine FQ Yt ⟨_,e,rfl⟩ PySem.F.entry_list_index (PySem.F.args_list_index_2 _ _) (Yn p its.toArray n dd sl u (isV k) he j hlt (by omega) hit hno) ⟨e,⟨.int j,H,I.tok _,⟨_,rfl⟩,q⟩⟩
def nA:List aA->Option (List aI)
 | []=>some []
 | d::r=>(bP d).bind fun k=>(nA r).bind fun ks=>some (k::ks)
theorem KW : ∀ {ds:List aA} {xs:List V} {ks:List aI},nA ds=some ks->Aas K H ds xs->xs=ks.map kV
 | [],xs,ks,e,r=>by
  cases e
  exact Aao.mp r
 | d::ds,xs,ks,e,r=>by
  obtain⟨k,e1,e2⟩:=XBs (show((bP d).bind fun k=>(nA ds).bind fun ks=>some (k::ks))=some ks from e)
  obtain⟨ks',e3,e4⟩:=XBs e2
  cases e4
  obtain⟨v,t,rfl,h1,h2⟩:=Aah.mp r
  rw[kG e1 h1,KW e3 h2]
  rfl
def GW (ds:List aA)(d:aA):Option aA:=(nA ds).bind fun ks=>(bP d).bind fun k=>(atK ks k).bind fun j=>some (.int j)
section
variable {k:aS}{fo:EF}
theorem Yd {ds:List aA}{r:aA}(h:GW ds d=some r) : ∃ ks kk j,nA ds=some ks/\bP d=some kk/\atK ks kk=some j/\r = .int j:=by
 obtain⟨ks,e1,h⟩:=XBs h
 obtain⟨kk,e2,h⟩:=XBs h
 obtain⟨j,e3,h⟩:=XBs h
 cases h
 exact⟨ks,kk,j,e1,e2,e3,rfl⟩
def IV:aA->aA->Option aA
 | .list ds,d=>GW ds d
 | _,_=>none
theorem Yg (ho:DE X o fo)(hk:DE X k fk)(hbase:lT o "index" X.env (bM o X.env)=bM o X.env:=by rfl)
  (hfew:((eW cpos (bK (k::[]) X.env)).all (fun x=>!x.1)&&(pX cpos (pS [] X.env)).all (fun x=>x.1.isSome)
   && decide ((k::[]).length+([]:List iG).length+(if ([]:List iG).isEmpty then 0 else 1)<30))=true:=by rfl)
  (hline:(apos.endLine == cpos.line)=true:=by rfl) (hs:bK (k::[]) X.env=(false,bM k X.env)::bK [] X.env:=by rfl) (hplain:(eW cpos (bK [] X.env)).any (·.1)=false:=by rfl) :
  DE X (.Call (.Attribute o "index" apos) [k] [] cpos) (eOp IV fo fk):=
 PE.imp (qK FS Yt PySem.F.type_list_index Yi ho (iR hk lJ hs) hbase hfew hline hs hplain) fun σ H Q gh=>by
  obtain⟨P,ρ,d,hP,rs,ef,kk⟩:=gh
  obtain⟨d1,e1,ef2⟩:=XBs ef
  obtain⟨d2,e2,ef3⟩:=XBs ef2
  cases d1 with
  | list ds=>
   obtain⟨ks,key,j,g1,g2,g3,rfl⟩:=Yd (show GW ds d2=some d from ef3)
   refine⟨P,ρ,_,hP,rs,e1,dU fun v H1 x1 r1=>?_⟩
   obtain⟨q,ys,rfl,hq,rr⟩:=Abk.mp r1
   obtain rfl:=KW g1 rr
   refine⟨.inl ⟨rfl,_,Aau.sqL hq⟩,P,ρ,d2,hP.ext x1,rs.ext (cT x1),e2,dU fun u H2 x2 r2=>?_⟩
   exact⟨q,ks,key,j,rfl,by rw[kG g2 r2],x2.sqL (Aau.sqL hq),g3,kk.zero (x1.trans x2) (Aan.mpr rfl)⟩
  | _=>cases ef3
theorem LC : ∀ {ds:List aA} {xs:List V} (n:Nat),Aas K H ds xs->Aas K H (ds.eraseIdx n) (xs.eraseIdx n)
 | [],xs,n,r=>by
  rw[Aao.mp r]
  exact Aao.mpr rfl
 | d::ds,xs,0,r=>by
  obtain⟨v,t,rfl,h1,h2⟩:=Aah.mp r
  exact h2
 | d::ds,xs,n+1,r=>by
  obtain⟨v,t,rfl,h1,h2⟩:=Aah.mp r
  exact Aah.mpr ⟨v,_,rfl,h1,LC n h2⟩
theorem RS {j pos}:DF 1 X (.Constant .none j pos) (eC .none):=PE.imp ZJ fun σ H Q gh=>by
 obtain⟨P,ρ,d,hP,rs,ef,k⟩:=gh
 cases ef
 exact k .non H [] Ext.refl .nil (fun a m=>by simp at m) ⟨rfl,Ab3.mpr rfl⟩
end
def Jv:V->List V->Hp->VK->Prop:=fun x vs H Q=>∃ p ks k j,x = .ref p/\vs=[kV k]/\H p=some (.lst (ks.map kV))/\atK ks k=some j/\Q .non (upd H p (.lst ((ks.eraseIdx j).map kV)))
theorem Wu:MtM X "list.remove" Jv:=by
 intro pins s σ H x vs v us Q I rx rv h
 obtain⟨p,ks,k,j,rfl,rfl,hp,hj,q⟩:=h
 cases rx
 obtain⟨u,rfl,ru⟩:=rv.one
 obtain⟨z,its,n,r,hl,e⟩:=I.lstM hp
 obtain⟨he,hlt,hit,hno⟩:=WK r ru hj
 refine FQ F.slot_list_remove ⟨_,e,rfl⟩ F.entry_list_remove (F.args_list_remove_2 _ _) (MeetsSeq.list_remove p its.toArray n u (isV k) he j hlt hit hno (by rw[eB]; omega)) ⟨e,?_⟩
 have ee:(ks.eraseIdx j).map kV=(ks.map kV).eraseIdx j:=by
  have go : ∀ (xs:List aI) (n:Nat),(xs.eraseIdx n).map kV=(xs.map kV).eraseIdx n:=by
   intro xs
   induction xs with
   | nil=>intro n; simp
   | cons x xs ih=>
    intro n
    cases n with
    | zero=>rfl
    | succ n=>rw[rV,dH,dH,rV,ih]
  exact go ks j
 refine⟨.non,_,I.lset (its':=its.eraseIdx j) (ys:=(ks.eraseIdx j).map kV) hp e ?_ (by rw[ee]; exact r.eraseIdx j) ?_,rfl,q⟩
 ·show its.toArray.eraseIdxIfInBounds j=(its.eraseIdx j).toArray
  rw[Zb]
 ·have:=KD (ks.map kV) j
  rw[ee]
  omega
def pP (i:Nat)(m:Md)(f:EF):SF:=fun ρ=>(eV 0 m f ρ).bind fun d=>(getL i ρ).bind fun ds=>(nA ds).bind fun ks=>(bP d).bind fun k=>(atK ks k).bind fun j=>some (.nx (ρ.set i (some (1,.list (ds.eraseIdx j)))))
theorem Yf (i:Nat)(m:Md)(he:DE X e f)(hN:X.N[i]?=some x:=by rfl)(hv:hJ X.env.scope x:=by first | exact aP rfl | exact aQ (aP rfl) | exact aQ (aQ rfl))(hd:(x == ("__debug__" : aC))=false:=by decide)
  (hcd:(x == ("__classdict__" : aC))=false:=by decide) (hbase:lT (.Name x px) "remove" X.env (bM (.Name x px) X.env)=bM (.Name x px) X.env:=by rfl)
  (hfew:((eW cpos (bK (e::[]) X.env)).all (fun x=>!x.1)&&(pX cpos (pS [] X.env)).all (fun x=>x.1.isSome)
   && decide ((e::[]).length+([]:List iG).length+(if ([]:List iG).isEmpty then 0 else 1)<30))=true:=by rfl)
  (hline:(apos.endLine == cpos.line)=true:=by rfl) (hs:bK (e::[]) X.env=(false,bM e X.env)::bK [] X.env:=by rfl) (hplain:(eW cpos (bK [] X.env)).any (·.1)=false:=by rfl)
  (hsw:jU (.Call (.Attribute (.Name x px) "remove" apos) [e] [] cpos) none pos.line X.env=pure false:=by rfl):DS X H0 P0 n0 (.Expr (.Call (.Attribute (.Name x px) "remove" apos) [e] [] cpos) pos) (pP i m f):=
 PS.imp (yS (qK FS PySem.F.slot_list_remove PySem.F.type_list_remove Wu (jC hN hv hd hcd) (iR (ev (H0:=H0) (P0:=P0) m he) lJ hs) hbase hfew hline hs hplain) hsw) fun D σ H gh=>by
  obtain⟨B0,ρ,fp,o,S,ef,k⟩:=gh
  obtain⟨d,e1,ef2⟩:=XBs ef
  obtain⟨ds,e2,ef3⟩:=XBs ef2
  obtain⟨ks,e3,ef4⟩:=XBs ef3
  obtain⟨key,e4,ef5⟩:=XBs ef4
  obtain⟨j,e5,ef6⟩:=XBs ef5
  cases ef6
  obtain⟨p,xs,h1,h2,_,_⟩:=S.lst1 (rC e2)
  refine⟨.ref p,h1,.inl ⟨rfl,xs,SqL.of h2⟩,B0,ρ,fp,d,S,e1,fun v H2 gh=>?_⟩
  obtain⟨fp2,S2,r2⟩:=gh
  obtain⟨p2,xs2,q1,q2,q3,q4⟩:=S2.lst1 (rC e2)
  have:p2=p:=by rw[h1] at q1; cases q1; rfl
  subst this
  obtain rfl:=KW e3 q3
  have ee:(ks.eraseIdx j).map kV=(ks.map kV).eraseIdx j:=by
   have go : ∀ (xs:List aI) (n:Nat),(xs.eraseIdx n).map kV=(xs.map kV).eraseIdx n:=by
    intro xs
    induction xs with
    | nil=>intro n; simp
    | cons x xs ih=>
     intro n
     cases n with
     | zero=>rfl
     | succ n=>rw[rV,dH,dH,rV,ih]
   exact go ks j
  refine⟨p2,ks,key,j,rfl,by rw[kG e4 r2.2],q2,e5,?_⟩
  rw[ee]
  exact k _ _ fp2 (q4 _ _ (LC j q3))
section
variable {σ:St}
theorem Sta.writeN{p:aD}{o:HO}{d':aA}(S:Sta K H0 P0 B0 ρ σ H fp)(hi:i<ρ.length)(hv:σ[i]?=some (some v))(hp:p∈fp i)(ho:(∃ xs,o = .lst xs) \/ ∃ q:DQ,o=dO q)
  (new:Afz K (L2.hid H (Hd P0 fp)) (upd H p o) n d' v (fp i)):Sta K H0 P0 B0 (ρ.set i (some (n,d'))) σ (upd H p o) fp:=by
 have same:L2.hid (upd H p o) (Hd P0 fp)=L2.hid H (Hd P0 fp):=by
  funext b
  unfold L2.hid
  by_cases q:Hd P0 fp b
  ·rw[if_pos q,if_pos q]
  ·rw[if_neg q,if_neg q]
   exact cP fun z=>q (.inr ⟨i,by rw[z]; exact hp⟩)
 refine⟨by simp[S.len],S.nd,S.dj,fun j a m=>⟨(S.own j a m).1,?_⟩,fun b u e=>?_,S.hd,by rw[same]; exact S.base,fun j n' d e=>?_⟩
 ·by_cases q:a=p
  ·subst q
   rcases ho with⟨xs,rfl⟩ | ⟨xs,rfl⟩
   ·exact .inl ⟨xs,eO⟩
   ·exact .inr ⟨xs,eO⟩
  ·rw[cP q]; exact(S.own j a m).2
 ·rw[cP (jT e (S.own i p hp).1)]; exact S.ext b u e
 ·by_cases q:j=i
  ·subst q
   rw[nR hi] at e
   cases e
   exact⟨_,hv,by rw[same]; exact new⟩
  ·rw[lW (fun z=>q z.symm)] at e
   obtain⟨u,h1,h2⟩:=S.slot j n' d e
   refine⟨u,h1,?_⟩
   rw[same]
   exact h2.keep Ext.refl fun a m=>cP fun z=>q (S.dj j i a m (by rw[z]; exact hp))
theorem own1{ds:List aA}{F:List aD}(h:Afz K B H 1 (.list ds) v F) : ∃ p xs,v = .ref p/\H p=some (.lst xs)/\F=[p]/\Aas K B ds xs:=by
 obtain⟨p,xs,Fs,rfl,hp,hF,h3⟩:=h
 obtain⟨r,hn⟩:=KQ h3
 exact⟨p,xs,rfl,hp,by rw[hF,hn],r⟩
theorem DB{ds:List aA}{p:aD}(hp:H p=some (.lst xs))(r:Aas K B ds xs):Afz K B H 1 (.list ds) (.ref p) [p]:=by
 obtain⟨q1,q2⟩:=EC (H1:=H) r
 exact⟨p,xs,_,rfl,hp,by rw[q2],q1⟩
theorem Du{a b:List aA}{F:List aD}(h:Afz K B H 2 (.tuple [.list a,.list b]) v F) :
  ∃ q p p' xs ys,v = .ref q/\B q=some (.tup [.ref p,.ref p'])/\F=[p,p']/\H p=some (.lst xs)/\H p'=some (.lst ys)/\Aas K B a xs/\Aas K B b ys:=by
 rcases h with⟨h0,_⟩ | ⟨_,q,us,Fs,rfl,hq,rfl,h3⟩
 ·cases h0
 ·cases h3 with
  | cons h1 t=>
   cases t with
   | cons h2 t=>
    cases t with
    | nil=>
     obtain⟨p,xs,rfl,hp,rfl,r⟩:=own1 h1
     obtain⟨p',ys,rfl,hp',rfl,r'⟩:=own1 h2
     exact⟨q,p,p',xs,ys,rfl,hq,rfl,hp,hp',r,r'⟩
theorem Na{a b:List aA}{q p p':aD}(hq:B q=some (.tup [.ref p,.ref p']))(h1:H p=some (.lst xs))(h2:H p'=some (.lst ys))(r1:Aas K B a xs)(r2:Aas K B b ys) :
  Afz K B H 2 (.tuple [.list a,.list b]) (.ref q) [p,p']:=
 .inr ⟨by decide,q,_,[[p],[p']],rfl,hq,rfl,.cons (DB h1 r1) (.cons (DB h2 r2) .nil)⟩
end
section
variable {py kpos:bR}
def YR (i j:Nat):SF:=fun ρ=>(getL i ρ).bind fun a=>(getL j ρ).bind fun b=>some (.rt (.tuple [.list a,.list b]))
theorem Uu (i j:Nat){x1}(hij:i≠j)(hN:X.N[i]?=some x:=by rfl)(hv:hJ X.env.scope x:=by first | exact aP rfl | exact aQ (aP rfl) | exact aQ (aQ rfl))(hd:(x == ("__debug__" : aC))=false:=by decide)
  (hcd:(x == ("__classdict__" : aC))=false:=by decide) (hN2:X.N[j]?=some y:=by rfl) (hv2:hJ X.env.scope y:=by first | exact aP rfl | exact aQ (aP rfl) | exact aQ (aQ rfl)) (hd2:(y == ("__debug__" : aC))=false:=by decide)
  (hcd2:(y == ("__classdict__" : aC))=false:=by decide):DS X H0 P0 2 (.Return (some (.Tuple [.Name x px,.Name y py] x1 tpos)) pos) (YR i j):=
 PS.imp (CG (YT (iR (jC hN hv hd hcd) (iR (jC hN2 hv2 hd2 hcd2) lJ)))) fun D σ H gh=>by
  obtain⟨B0,ρ,fp,o,S,ef,k⟩:=gh
  obtain⟨a,e1,ef⟩:=XBs ef
  obtain⟨b,e2,ef⟩:=XBs ef
  cases ef
  obtain⟨v,h1,r1⟩:=S.slot i 1 _ (rC e1)
  obtain⟨v',h2,r2⟩:=S.slot j 1 _ (rC e2)
  obtain⟨p,xs,rfl,hp,hF,q1⟩:=own1 r1
  obtain⟨p',ys,rfl,hp',hF',q2⟩:=own1 r2
  have mp:p∈fp i:=by rw[hF]; exact bO
  have mp':p'∈fp j:=by rw[hF']; exact bO
  have hpp:p≠p':=fun z=>hij (S.dj i j p mp (by rw[z]; exact mp'))
  refine⟨_,h1,_,h2,by show 2≤sizeLine; rw[xI]; omega,fun q hq=>k _ _ ⟨[p,p'],S.ext.trans (Ext.new hq),?_,?_,?_⟩⟩
  ·simp[hpp]
  ·intro c m
   rcases cY.mp m with rfl | m
   ·exact⟨(S.own i _ mp).1,_,Ext.new hq _ _ hp⟩
   ·rw[cG.mp m]
    exact⟨(S.own j _ mp').1,_,Ext.new hq _ _ hp'⟩
  ·have nq : ∀ {c:aD} {oo:HO},H c=some oo->c≠q:=fun ec z=>by rw[z,hq] at ec; cases ec
   have xb:Ext (L2.hid H (Hd P0 fp)) (L2.hid (upd H q (.tup [.ref p,.ref p'])) (orL P0 [p,p'])):=fun c oo ec=>by
    obtain⟨nc,ec⟩:=Acy.mp ec
    refine Acy.mpr ⟨fun z=>?_,Ext.new hq _ _ ec⟩
    rcases z with z | z
    ·exact nc (.inl z)
    ·rcases cY.mp z with rfl | z
     ·exact nc (.inr ⟨i,mp⟩)
     ·rw[cG.mp z] at nc
      exact nc (.inr ⟨j,mp'⟩)
   refine Na (xs:=xs) (ys:=ys) (Acy.mpr ⟨fun z=>?_,eO⟩) (Ext.new hq _ _ hp) (Ext.new hq _ _ hp') (q1.ext xb) (q2.ext xb)
   rcases z with z | z
   ·exact(S.hd.ext S.ext).new hq z
   ·rcases cY.mp z with z | z
    ·exact nq hp z.symm
    ·exact nq hp' (cG.mp z).symm
end
theorem Abu.length : ∀ {kds:List (aA×aA)} {ts:List (List aA×V)},Abu K H kds ts->ts.length=kds.length
 | [],ts,h=>by rw[Acj.mp h]; rfl
 | (k,d)::r,ts,h=>by
  obtain⟨k',x,rr,rfl,_,_,h2⟩:=Abm.mp h
  simp[Abu.length h2]
mutual
theorem Ym : ∀ d:aA,bQ d=true->dB d=true
 | .int _,_=>by simp[dB]
 | .str _,_=>by simp[dB]
 | .tuple ds,h=>by
  simp only[dB]
  exact KY ds (by simpa [bQ] using h)
 | .none,h=>by simp[bQ] at h
 | .bool _,h=>by simp[bQ] at h
 | .list _,h=>by simp[bQ] at h
 | .dict _,h=>by simp[bQ] at h
theorem KY : ∀ ds:List aA,bU ds=true->mX ds=true
 | [],_=>rfl
 | d::r,h=>by
  have h:bQ d=true/\bU r=true:=by simpa [bU] using h
  simp[mX,Ym d h.1,KY r h.2]
end
def FF (i:Nat)(ρ:aX):Option (List (aA×aA)):=match ρ[i]? with
 | some (some (9,.dict ((.none,.none)::kds)))=>some kds
 | _=>none
theorem WU(h:FF i ρ=some ds):ρ[i]?=some (some (9,.dict ((.none,.none)::ds))):=by
 unfold FF at h
 split at h
 ·rename_i e; cases h; exact e
 ·cases h
theorem Of{k:List aA}(h : ∀ kd∈kds,dB kd.2=true)(hd:dB d=true) : ∀ kd∈kO kds k d,dB kd.2=true:=fun kd m=>by
 unfold kO at m
 split at m
 ·obtain⟨y,my,rfl⟩:=dC.mp m
  split
  ·exact hd
  ·exact h y my
 ·rcases fY.mp m with m | m
  ·exact h kd m
  ·rw[cG.mp m]; exact hd
section
variable {σ:St}
theorem Sta.dicT(S:Sta K H0 P0 B0 ρ σ H fp)(e:ρ[i]?=some (some (9,.dict ((.none,.none)::ds)))) : ∃ p,∃ ts:Nat×List (List aA×V),σ[i]?=some (some (.ref p))/\H p=some (.dT ts.1 ts.2)/\(∀ kd∈ds,dB kd.2=true)/\Abu K (L2.hid H (Hd P0 fp)) ds ts.2 /\
  ∀ ds' n' ts',(∀ kd∈ds',dB kd.2=true)->Abu K (L2.hid H (Hd P0 fp)) ds' ts'->Sta K H0 P0 B0 (ρ.set i (some (9,.dict ((.none,.none)::ds')))) σ (upd H p (.dT n' ts')) fp:=by
 obtain⟨v,h1,h2⟩:=S.slot i 9 _ e
 rcases(show _ \/ FC _ _ _ _ _ _ from h2) with⟨z,_⟩ | ⟨kds,p,ts,ed,rfl,hp,hF,f,r⟩
 ·cases z
 cases ed
 refine⟨p,ts,h1,hp,f,r,fun ds' n' ts' f' r'=>S.writeN (dD.mp e).1 h1 (by rw[hF]; exact bO) (.inr ⟨.inr (n',ts'),rfl⟩) ?_⟩
 exact(aQ ⟨ds',p,(n',ts'),rfl,rfl,eO,hF,f',r'⟩:_ \/ FC _ _ _ _ _ _)
end
section
variable {k:aS}
theorem Uz:DF 9 X (.Dict [] [] pos) (eC (.dict [(.none,.none)])):=PE.imp Tv fun σ H Q gh=>by
 obtain⟨P,ρ,d,hP,rs,ef,k⟩:=gh
 cases ef
 refine fun q hq=>k (.ref q) (upd H q (.dT 0 [])) [q] (Ext.new hq) (jW.mpr ⟨by simp,.nil⟩) (fun a m=>?_) (aQ ⟨[],q,(0,[]),rfl,rfl,eO,rfl,fun kd m=>by simp at m,Acj.mpr rfl⟩:_ \/ FC _ _ _ _ _ _)
 rw[cG.mp m]
 exact⟨hq,_,eO⟩
def FK (i:Nat)(m:Md)(f:EF)(mk:Md)(g:EF):SF:=fun ρ=>(eV 0 m f ρ).bind fun d=>(FF i ρ).bind fun kds=>(eV 0 mk g ρ).bind fun k=>match k with
 | .tuple k=>if ((bU k=true/\dA k≤6)/\dB d=true)/\kds.length<sizeLine then some (.nx (ρ.set i (some (9,.dict ((.none,.none)::kO kds k d))))) else none
 | _=>none
theorem Np (i:Nat)(m mk:Md)(hu:X.A.units+40<cLine)(he:DE X e f)(hk:DE X k g)(hN:X.N[i]?=some x:=by rfl)(hv:hJ X.env.scope x:=by first | exact aP rfl | exact aQ (aP rfl) | exact aQ (aQ rfl))(hd:(x == ("__debug__" : aC))=false:=by decide)
  (hcd:(x == ("__classdict__" : aC))=false:=by decide) (hs:jU e (some (.Subscript (.Name x px) k apos)) pos.line X.env=pure false:=by rfl):DS X H0 P0 n0 (.Assign [.Subscript (.Name x px) k apos] e pos) (FK i m f mk g):=
 PS.imp (CK hu (jC hN hv hd hcd) hk (ev (H0:=H0) (P0:=P0) m he) hs) fun D σ H gh=>by
  obtain⟨B0,ρ,fp,o,S,ef,kk⟩:=gh
  obtain⟨d,e1,ef2⟩:=XBs ef
  obtain⟨kds,e2,ef3⟩:=XBs ef2
  obtain⟨kd,e3,ef4⟩:=XBs ef3
  cases kd with
  | tuple key=>
   obtain⟨⟨⟨hkey,hfd⟩,hl⟩,rfl⟩:=cN ef4
   clear ef ef2 ef3 ef4
   refine⟨B0,ρ,fp,d,S,e1,fun v H2 gh=>?_⟩
   obtain⟨fp2,S2,r2⟩:=gh
   obtain⟨p,ts,h1,h2,_⟩:=S2.dicT (WU e2)
   have hf:dB (.tuple key)=true:=by simp only[dB]; exact KY _ hkey.1
   refine⟨.ref p,h1,pE S2 e3 hf fun u H3 x3 r3=>?_⟩
   have S3:=S2.grow x3
   obtain⟨p3,ts3,q1,q2,qf,q3,q4⟩:=S3.dicT (WU e2)
   have:p3=p:=by rw[h1] at q1; cases q1; rfl
   subst this
   obtain⟨b,rfl,tb⟩:=r3.tupK hkey.1 hkey.2
   refine⟨p3,_,rfl,.inr ⟨ts3.2,key,b,⟨_,q2⟩,rfl,tb.keep fun c zs e=>Aau _ _ e,by rw[q3.length]; exact hl,rfl⟩,fun n=>kk _ _ fp2 (q4 _ n _ (Of qf hfd) (SH hkey.1 q3 (r2.2.ext (cT x3))))⟩
  | _=>cases ef4
end
section
variable {d v:aD}{es:Array nX}{ok ov:aE}
theorem Sk (d:aD)(nm:(d == iE)=false) :
  MeetsIn P w (Builtin.«dict.items» ⟨[.ref d],[]⟩) (fun _ R s=>s.TypeIs (.ref d) "dict" /\ R (.ok (.ret (.ref s.heap.objs.size))) { s with heap:=s.heap.push { cls:=.type "dict_items",data:=.fields #[.ref d] } }):=
 .of_wp fun A R s gh=>by
  obtain⟨ty,g⟩:=gh
  unfold Builtin.«dict.items»
  refine aH ?_
  unfold Builtin.Dict.noArgs
  refine aH (MY ty ?_)
  refine aT ?_
  show aN _ _ (OQ d >>= _) _ _ _
  unfold OQ
  rw[if_neg (show ¬ (d == iE)=true by rw[nm]; exact jG)]
  exact aH (aT (aH (lQ (aT ⟨_,rfl,g⟩))))
theorem Xc(V:s.heap.IsItemsView v d)(R:Asn s.heap d es ep)
  (q:Q (.ref s.heap.objs.size) { s with heap:=s.heap.push { cls:=.type "dict_itemiterator",data:=.fields #[.none,.bool false,.ref d,.int 0 0,.int es.size 0,.int ep 0,.none,.none] } }) :
  aN (aW P w) A (nN (.ref v)) Q E s:=by
 obtain⟨o1,e1,c1,d1⟩:=id V
 obtain⟨o,eo,_,ed⟩:=R
 refine Bb V.typeIs F.slot_dict_items_iter (kI F.slot_dict_items_iter V.typeIs
  F.entry_dict_items_iter ?_ (F.args_dict_items_iter_1 _))
 unfold Builtin.«dict_items.__iter__»
 refine aH (aT (aH ?_))
 unfold Builtin.Dict_items.dictOf
 refine aH (iS e1 d1 (x:=.ref d) rfl (aT (aH ?_)))
 unfold Builtin.Dict_items.newIterator
 refine aH (AR eo ed (aH (AQ eo ed ?_)))
 have own:GK "dict_itemiterator" = true:=by decide
 simp only[own,if_true]
 refine lQ (aT ⟨_,rfl,"dict_itemiterator",_,⟨_,dQ _ rfl,rfl⟩,
  BP.lookup,?_⟩) (by
   simp only[sizeOk,Zl,eB,qF,fN,Cd,xI]
   omega)
 simpa [jF,Zl] using q
theorem Si {e:nX}{Q:Option aE->aJ->Prop}(K:rX s.heap it d i es.size ep ok ov)(R:Asn s.heap d es ep)(x:es[i]?=some e)
  (q : ∀ h',IsItemIterOut h' it d (i+1) es.size ep e.key e.val s.heap.objs.size->h'.get? s.heap.objs.size=some { cls:=.type "tuple",data:=.seq #[e.key,e.val] } ->
   (∀ b o,b≠it->s.heap.get? b=some o->h'.get? b=some o)->Q (some (.ref s.heap.objs.size)) { s with heap:=h' }):aN (aW P w) A (iT (.ref it)) Q E s:=by
 obtain⟨hp,g,dr,tk,os⟩:=s
 obtain⟨o,eo,_,ed⟩:=R
 have ty:Shared.TypeIs ⟨hp,g,dr,tk,os⟩ (.ref it) "dict_itemiterator":=⟨_,K,rfl⟩
 unfold iT
 refine aH (AS (pQ (name:=pZ "__next__") ty
  BP (kI BP ty
   Zf ?_ (Zh _))))
 refine aH (aT (aH (aH ?_)))
 first
  | refine aH (MV ty (aT ?_))
  | refine aH (MT ty (aT ?_))
 refine aH (NB K rfl ?_)
 have own:GK "dict_itemiterator" = true:=by decide
 simp only[own,if_true]
 show aN _ _ (if (eX d == dY)=true then _ else _) _ _ ⟨hp,g,dr,tk,os⟩
 rw[if_neg (show ¬ (eX d == dY)=true from jG)]
 refine aH (aT (aH (AR eo ed ?_)))
 rw[if_neg (by simp)]
 refine aH (aT (aH (AQ eo ed ?_)))
 rw[if_neg (by simp)]
 refine aT ?_
 simp only[show ¬ ((i:Int)<0) from by omega,if_false,xT,x]
 refine aH ?_
 first
  | refine aH (MV ty (aT ?_))
  | refine aH (MT ty (aT ?_))
 refine aH (Bc ty ?_)
 show aN _ _ (setField (.ref it) 3 (jF ((i:Int)+1)) >>= _) _ _ _
 refine aH (oP K (by simp) fun h1 K1 s1=>?_)
 have s1:oZ it hp h1:=s1
 have K1:rX h1 it d (i+1) es.size ep ok ov:=by
  have z:((i+1:Nat):Int)=(i:Int)+1:=by omega
  unfold rX
  rw[z]
  simpa [jF] using K1
 have ty1:Shared.TypeIs ⟨h1,g,dr,tk,os⟩ (.ref it) "dict_itemiterator":=⟨_,K1,rfl⟩
 refine aH (kH (aH (Bc ty1 (aH (Bc ty1 ?_)))))
 show aN _ _ (Zj (.ref it) 6 e.key e.val) _ _ ⟨h1,g,dr,tk,os⟩
 unfold Zj
 refine aH (MZ ?_)
 have K2:rX (h1.push { cls:=.type "tuple",data:=.seq #[e.key,e.val] }) it d (i+1) es.size ep ok ov:=cC _ K1
 generalize eh:h1.push { cls:=.type "tuple",data:=.seq #[e.key,e.val] }=h2 at K2
 have z1:h1.objs.size=hp.objs.size:=s1.1
 have il:it<hp.objs.size:=cA K
 have t2:h2.get? hp.objs.size=some { cls:=.type "tuple",data:=.seq #[e.key,e.val] }:=by
  rw[← eh,← z1]
  exact dQ _ rfl
 have k2 : ∀ b o,b≠it->hp.get? b=some o->h2.get? b=some o:=fun b o nb eb=>by
  rw[← eh]
  exact cC _ (s1.extBut b o nb eb)
 show aN _ _ (Zk (.ref it) >>= _) _ _ _
 rw[z1]
 clear eh K1 s1 ty1 z1
 refine aH ?_
 unfold Zk
 refine aH (iS K2 rfl (x:=.none) rfl (aT ?_))
 simp only[if_true]
 refine aH (iS K2 rfl (x:=ok) rfl (aH (iS K2 rfl (x:=ov) rfl ?_)))
 refine aH (oP K2 (by simp) fun h3 K3 s3=>?_)
 have s3:oZ it h2 h3:=s3
 have K3:rX h3 it d (i+1) es.size ep e.key ov:=K3
 refine aH (oP K3 (by simp) fun h4 K4 s4=>?_)
 have s4:oZ it h3 h4:=s4
 have K4:rX h4 it d (i+1) es.size ep e.key e.val:=K4
 refine aH (oP K4 (by simp) fun h5 K5 s5=>?_)
 have s5:oZ it h4 h5:=s5
 have K5:IsItemIterOut h5 it d (i+1) es.size ep e.key e.val hp.objs.size:=K5
 refine aH (oP K5 (by simp) fun h6 K6 s6=>?_)
 have s6:oZ it h5 h6:=s6
 have up : ∀ b o,b≠it->h2.get? b=some o->h6.get? b=some o:=fun b o nb eb=>s6.extBut b o nb (s5.extBut b o nb (s4.extBut b o nb (s3.extBut b o nb eb)))
 exact aH (FO (aT (aT ⟨_,rfl,aT (q h6 K6 (up _ _ (nQ il) t2) fun b o nb eb=>up b o nb (k2 b o nb eb))⟩)))
theorem Ru {Q:Option aE->aJ->Prop}(hh:A.handled=none)(K:rX s.heap it d i es.size ep ok ov)(R:Asn s.heap d es ep)(x:es.size≤i)
  (q : ∀ h',GH it s.heap h'->Q none { s with heap:=h' }):aN (aW P w) A (iT (.ref it)) Q E s:=by
 obtain⟨o,eo,_,ed⟩:=R
 have ty:s.TypeIs (.ref it) "dict_itemiterator":=⟨_,K,rfl⟩
 unfold iT
 refine aH (AS (pQ (name:=pZ "__next__") ty
  BP (kI BP ty
   Zf ?_ (Zh _))))
 refine aH (aT (aH (aH ?_)))
 first
  | refine aH (MV ty (aT ?_))
  | refine aH (MT ty (aT ?_))
 refine aH (NB K rfl ?_)
 have own:GK "dict_itemiterator" = true:=by decide
 simp only[own,if_true]
 show aN _ _ (if (eX d == dY)=true then _ else _) _ _ s
 rw[if_neg (show ¬ (eX d == dY)=true from jG)]
 refine aH (aT (aH (AR eo ed ?_)))
 rw[if_neg (by simp)]
 refine aH (aT (aH (AQ eo ed ?_)))
 rw[if_neg (by simp)]
 refine aT ?_
 simp only[show ¬ ((i:Int)<0) from by omega,if_false,xT,Array.getElem?_eq_none x]
 refine aH ?_
 first
  | refine aH (MV ty (aT ?_))
  | refine aH (MT ty (aT ?_))
 show aN _ _ (setField (.ref it) 2 .none >>= _) _ _ s
 refine aH (FM K rfl (by simp) ?_)
 show aN _ _ (newExc (.type "StopIteration") [] >>= _) _ _ _
 refine aH ?_
 simp only[newExc,newTuple]
 refine aH (lQ ?_ (by size_fits))
 refine aH (m:=AU _ _) (wpAny_of_eq (a:=dY)
  (by first | rfl | (simp only[AU]; rfl)) ?_)
 refine lQ ?_ (by size_fits)
 simp only[raiseNew]
 refine aH (wpAny_handled ?_)
 rw[show A.in1.handled=none from hh]
 refine aH (aT (wpAny_throw ?_))
 refine aH (FP (T:="StopIteration") (b:=true)
  ⟨_,dQ _ rfl,rfl⟩ isSubtype_stop ?_)
 exact aT (q _ (((xV ..).extBut.push _).push _))
end
theorem vO(ok:HOk P w H h)(e:H a=some (.dT ep kvs)) :
  (a == iE)=false /\ ∃ es,Asn h a es ep/\es.size=kvs.length /\ ∀ (i:Nat) kv,kvs[i]?=some kv -> ∃ en b,es[i]?=some en/\en.key = .ref b/\Alm H kv.1 b/\RelV kv.2 en.val:=by
 obtain⟨z,nm,xs,r,o,es,h1,h2,h3,h4,_⟩:=(show Adc P w H h a (.dT ep kvs) from ok a _ e)
 have hl:es.size=kvs.length:=by
  have:=congrArg List.length h4
  rw[cZ,← uK r] at this
  simpa using this
 refine⟨nm,es,⟨o,h1,h2,h3⟩,hl,fun i kv hk=>?_⟩
 have go : ∀ {l:List (List aA×V)} {m:List (List aA×aD×aE)} {j:Nat},iF (fun(p:List aA×V) (q:List aA×aD×aE)=>p.1=q.1/\Alm H p.1 q.2.1/\RelV p.2 q.2.2) l m->l[j]?=some kv -> ∃ q,m[j]?=some q/\Alm H kv.1 q.2.1/\RelV kv.2 q.2.2:=by
  intro l m j q
  induction q generalizing j with
  | nil=>intro h; simp at h
  | cons h _ ih=>
   intro hj
   cases j with
   | zero=>cases hj; exact⟨_,rfl,h.2⟩
   | succ j=>exact ih (j:=j) (by simpa using hj)
 obtain⟨q,hq,t1,t2⟩:=go r hk
 have hq':es.toList[i]?=some (entryOfKey (iA P w) q):=by rw[h4,eQ,hq]; rfl
 exact⟨_,q.2.1,by simpa using hq',rfl,t1,t2⟩
def GS (a:aD)(ep n:Nat):It:=
 ⟨fun i H=>∃ kvs kv,H a=some (.dT ep kvs)/\kvs.length=n/\kvs[i]?=some kv,fun i H x H'=>H'=H /\ ∀ kvs,H a=some (.dT ep kvs) -> ∃ kv b,kvs[i]?=some kv/\x = .ref b/\Alm H kv.1 b,fun i H=>∃ kvs,H a=some (.dT ep kvs)/\kvs.length=n/\n≤i⟩
theorem Oq(a it:aD)(ep n:Nat):Turn P w K tg (GS a ep n) [it] it (fun i h=>h.IsKeyIter it a i n ep) where
 mem:=cG.mpr rfl
 obj:=fun i h ⟨o,e,_,d⟩ b hb=>by
  rw[cG.mp hb]
  exact⟨o,e,fun v z=>by rw[d] at z; cases z⟩
 keep:=fun i h h' st k=>st.at fun o e=>k it (cG.mpr rfl) o e
 item:=by
  intro X hP hw hK hc i pins s σ H E I hf st hg
  subst hP hw hK
  obtain⟨kvs,kv,ha,hn,hk⟩:=hg
  subst hn
  obtain⟨nm,es,R,hl,gt⟩:=vO I.hok ha
  obtain⟨en,b,he,ek,t1,t2⟩:=gt i kv hk
  rw[← hl] at st
  refine TR st R he fun h' st' sb=>?_
  have I1:Inv X pins σ H { s with heap:=h' }:=I.turnM (t':=s.toks) hf fun b o nb e=>sb.extBut b o (fun q=>nb (cG.mpr q)) e
  obtain⟨o,e,c,dd⟩:=id st'
  refine⟨en.key,rfl,AM (s:={ s with heap:=h' }) e c dd (by decide) ⟨.ref b,H,I1,by rw[ek]; exact rfl,⟨rfl,fun kvs' h2=>?_⟩,by rw[← hl]; exact st',fun b hb=>(hf b hb).1⟩⟩
  rw[ha] at h2
  cases h2
  exact⟨kv,b,hk,rfl,t1⟩
 done:=by
  intro X hP hw hK hc i pins s σ H E I hf st hg
  subst hP hw hK
  obtain⟨kvs,ha,hn,hi⟩:=hg
  subst hn
  obtain⟨nm,es,R,hl,gt⟩:=vO I.hok ha
  rw[← hl] at st hi
  exact Au (I.ok.hd hc) st R hi fun h' eb=>⟨rfl,I.turnM (t':=s.toks) hf fun b o nb e=>eb b o (fun q=>nb (cG.mpr q)) e⟩
 self:=fun _ _ _ _ _ st h=>wpAny_pyIter_keyiter st h
def HG (a:aD)(ep n:Nat):It:=
  ⟨fun i H=>∃ kvs kv,H a=some (.dT ep kvs)/\kvs.length=n/\kvs[i]?=some kv,
   fun i H v H'=>∃ T kv b,H T=none/\v = .ref T/\Alm H kv.1 b/\(∀ kvs,H a=some (.dT ep kvs)->kvs[i]?=some kv)/\H'=upd H T (.tup [.ref b,kv.2]),
   fun i H=>∃ kvs,H a=some (.dT ep kvs)/\kvs.length=n/\n≤i⟩
theorem Qf{cx}{pos:bR}(a it:aD)(ep n:Nat) :
  Turn P w K (.Tuple es cx pos) (HG a ep n) [it] it (fun i h=>∃ ok ov,rX h it a i n ep ok ov) where
 mem:=cG.mpr rfl
 obj:=fun i h ⟨ok,ov,g⟩ b hb=>by
  rw[cG.mp hb]
  exact⟨_,g,fun v z=>by cases z⟩
 keep:=fun i h h' ⟨ok,ov,g⟩ k=>⟨ok,ov,k it (cG.mpr rfl) _ g⟩
 item:=by
  intro X hP hw hK hc i pins s σ H E I hf st hg
  subst hP hw hK
  obtain⟨kvs,kv,ha,hn,hk⟩:=hg
  subst hn
  obtain⟨nm,en,R,hl,gt⟩:=vO I.hok ha
  obtain⟨e,b,he,ek,t1,t2⟩:=gt i kv hk
  obtain⟨ok,ov,st⟩:=st
  rw[← hl] at st
  have young:it<s.heap.objs.size:=cA st
  refine Si st R he fun h' eo pr keep=>?_
  have fr:H s.heap.objs.size=none:=I.hok.fresh (bI _)
  have I0:Inv X pins σ (upd H s.heap.objs.size (.tup [.ref b,kv.2])) { s with heap:=s.heap.push { cls:=.type "tuple",data:=.seq #[e.key,e.val] },toks:=s.toks }:=
   I.laid (t':=s.toks) (o:=.tup [.ref b,kv.2]) (fun b ob q=>cC _ q) (bI _) ⟨by show 2≤sizeLine; decide,[e.key,e.val],.cons (by rw[ek]; exact rfl) (.cons t2 .nil),A7s.new _ _⟩
  have hf' : ∀ c∈[it],jA X pins (upd H s.heap.objs.size (.tup [.ref b,kv.2])) c:=fun c m=>⟨by rw[cP (dX (by rw[cG.mp m]; exact young))]; exact(hf c m).1,(hf c m).2⟩
  have I1:Inv X pins σ (upd H s.heap.objs.size (.tup [.ref b,kv.2])) { s with heap:=h',toks:=s.toks }:=I0.turnM (t':=s.toks) hf' fun c o n g=>by
   have n:c≠it:=fun q=>n (cG.mpr q)
   by_cases hb:c=s.heap.objs.size
   ·subst hb
    have e':(s.heap.push { cls:=.type "tuple",data:=.seq #[e.key,e.val] }).get? s.heap.objs.size=some { cls:=.type "tuple",data:=.seq #[e.key,e.val] }:=dQ _ rfl
    have:some o=some _:=g.symm.trans e'
    rw[this]
    exact pr
   ·exact keep c o n ((Cr _ _ _ hb).symm.trans g)
  refine⟨_,rfl,wpAny_letOwnedTupleGo_items eo fun h2 ge sb=>?_⟩
  have I2:Inv X pins σ (upd H s.heap.objs.size (.tup [.ref b,kv.2])) { s with heap:=h2,toks:=s.toks }:=I1.turnM (t':=s.toks) hf' fun b o n g=>sb.extBut b o (fun q=>n (cG.mpr q)) g
  exact⟨.ref s.heap.objs.size,_,I2,rfl,⟨_,kv,b,fr,rfl,t1,fun kvs' h=>by rw[ha] at h; cases h; exact hk,rfl⟩,⟨_,_,by rw[← hl]; exact ge⟩,fun b m=>(hf' b m).1⟩
 done:=by
  intro X hP hw hK hc i pins s σ H E I hf st hg
  subst hP hw hK
  obtain⟨kvs,ha,hn,hi⟩:=hg
  subst hn
  obtain⟨nm,en,R,hl,gt⟩:=vO I.hok ha
  obtain⟨ok,ov,st⟩:=st
  rw[← hl] at st hi
  exact Ru (I.ok.hd hc) st R hi fun h' eb=>⟨rfl,I.turnM (t':=s.toks) hf fun b o nb e=>eb b o (fun q=>nb (cG.mpr q)) e⟩
 self:=fun _ _ _ _ _ st h=>by
  obtain⟨ok,ov,st⟩:=st
  exact YH ⟨_,st,rfl⟩ h
section
variable {l:aS}
def Ea (tl:TE):TI:=fun σ H R=>tl σ H fun x H1=>∃ a ep kvs,x = .ref a/\H1 a=some (.dT ep kvs)/\R (GS a ep kvs.length) H1
theorem Ts(hl:PE X l tl):PI X tg l (Ea tl):=by
 intro pins s σ H R I h
 refine thn (hl pins s σ H _ I h) fun v s1 gh=>?_
 obtain⟨x,H1,I1,r1,q1⟩:=gh
 obtain⟨a,ep,kvs,rfl,ha,q⟩:=q1
 cases r1
 obtain⟨nm,en,D,hn,_⟩:=vO I1.hok ha
 refine SW nm D ?_
 refine⟨s1.heap.objs.size,[s1.heap.objs.size],_,_,H1,rfl,I1.kept (t':=s1.toks) fun b o e=>cC _ e,Oq a _ ep kvs.length,⟨_,dQ _ rfl,rfl,by rw[← hn]; rfl⟩,fun b hb=>?_,q⟩
 rw[cG.mp hb]
 exact I1.fpOk (bI _) (I1.hok.fresh (bI _))
def Ff (tl:TE):TI:=fun σ H R=>tl σ H fun x H1=>∃ a ep kvs,x = .ref a/\H1 a=some (.dT ep kvs)/\R (HG a ep kvs.length) H1
theorem Xx(hl:PE X l tl)(hbase:lT l "items" X.env (bM l X.env)=bM l X.env:=by rfl)(hline:(apos.endLine == pos.line)=true:=by rfl):PI X (.Tuple es cx tpos) (.Call (.Attribute l "items" apos) [] [] pos) (Ff tl):=by
 intro pins s σ H R I h
 refine Bd (T:="dict") (id:="dict.items") hbase rfl hline F.plainAttrs_dict OK F.type_dict_items (thn (hl pins s σ H _ I h) fun v s1 gh=>?_)
 obtain⟨x,H1,I1,r1,q1⟩:=gh
 obtain⟨a,ep,kvs,rfl,ha,q⟩:=q1
 cases r1
 obtain⟨nm,en,D,hn,_⟩:=vO I1.hok ha
 obtain⟨o,eo,xo,ed⟩:=id D
 refine⟨D.ty,fun b z=>by cases z; exact⟨o,eo,xo.2.1⟩,?_⟩
 show aN _ _ (callWith pos (.builtin "dict.items") [.ref a] [] []) _ _ _
 refine method_meetsIn OK F.entry_dict_items rfl (PySem.evalArgs_none ⟨rfl,D.ty,F.args_dict_items_1 _,_,Sk a nm,D.ty,?_⟩)
 show aN _ _ (nN (.ref s1.heap.objs.size)) _ _ _
 refine Xc (d:=a) (es:=en) (ep:=ep) ⟨_,dQ _ rfl,rfl,rfl⟩ (D.keep fun o e=>cC _ e) ?_
 have all : ∀ b o,s1.heap.get? b=some o->((s1.heap.push { cls:=.type "dict_items",data:=.fields #[.ref a] }).push { cls:=.type "dict_itemiterator",data:=.fields #[.none,.bool false,.ref a,.int 0 0,.int en.size 0,.int ep 0,.none,.none] }).get? b=some o:=fun b o e=>cC _ (cC _ e)
 refine⟨_,[_],_,_,H1,rfl,I1.kept (t':=s1.toks) all,Qf a _ ep kvs.length,⟨.none,.none,?_⟩,fun b hb=>?_,q⟩
 ·rw[← hn]
  exact dQ _ rfl
 ·rw[cG.mp hb]
  have le:s1.heap.objs.size≤(s1.heap.push { cls:=.type "dict_items",data:=.fields #[.ref a] }).objs.size:=by
   rw[xU]
   omega
  exact I1.fpOk le (I1.hok.fresh le)
theorem JO {K:aK}{H:Hp} : ∀ {kds:List (aA×aA)} {ts:List (List aA×V)} {i:Nat} {kd:aA×aA},Abu K H kds ts->kds[i]?=some kd -> ∃ kv,ts[i]?=some kv/\kd.1 = .tuple kv.1/\bU kv.1=true/\Abq K H kd.2 kv.2
 | (k,d)::ds,ts,0,kd,r,e=>by
  obtain⟨k',y,t,rfl,ek,h1,h2⟩:=Abm.mp r
  cases e
  exact⟨(k',y),rfl,ek.1,ek.2,h1⟩
 | (k,d)::ds,ts,i+1,kd,r,e=>by
  obtain⟨k',y,t,rfl,ek,h1,h2⟩:=Abm.mp r
  obtain⟨kv,g1,g2⟩:=JO (i:=i) h2 (by simpa using e)
  exact⟨kv,by simpa using g1,g2⟩
end
def nJ:aA->Bool
 | .tuple ds=>ds.all fun d=>match d with | .int _=>true | _=>false
 | _=>false
theorem VD : ∀ {ks:List aA} {xs:List V},(ks.all fun d=>match d with | .int _=>true | _=>false)=true->Ags H ks xs->Aas K B ks xs
 | [],xs,_,h=>Aao.mpr (by simpa [Ags] using h)
 | d::r,xs,hi,h=>by
  have hi:=iH.mp (show(_&&_)=true from hi)
  simp only[Ags] at h
  obtain⟨x,rr,rfl,h1,h2⟩:=h
  cases d with
  | int i=>exact Aah.mpr ⟨x,rr,rfl,Aan.mpr (by simpa [Akm] using h1),VD hi.2 h2⟩
  | _=>simp at hi
theorem RU{P:aD->Prop}{ks:List aA}{b:aD}(hP:Hid P H)(hi:nJ (.tuple ks)=true)(t:Alm H ks b):Abq K (hid H P) (.tuple ks) (.ref b):=by
 obtain⟨_,_,xs,hb,kv⟩:=t
 refine Aar.mpr ⟨b,xs,rfl,gJ (fun q=>?_) hb,VD hi kv⟩
 rcases hP b q with⟨o,e⟩ | ⟨o,e⟩
 ·rw[hb] at e; cases e
 ·rw[hb] at e; exact YI _ _ (eY e)
theorem WH{kd:aA×aA}(h:(kds.all fun kd=>nJ kd.1)=true)(e:kds[i]?=some kd):nJ kd.1=true:=fH.mp h kd (fL e)
section
variable {l:aS}
def iKR (f:EF):AF:=fun ρ=>(f ρ).bind fun d=>match d with
 | .dict ((.none,.none)::kds)=>if (kds.all fun kd=>nJ kd.1)=true then some (kds.map (·.1)) else none
 | _=>none
def iDR (f:EF):AF:=fun ρ=>(f ρ).bind fun d=>match d with
 | .dict ((.none,.none)::kds)=>if (kds.all fun kd=>nJ kd.1)=true then some (kds.map fun kd=>.tuple [kd.1,kd.2]) else none
 | _=>none
theorem Yr(h:B a=some (.dT ep kvs))(r:Abu K B kds kvs)(hl:(kds.all fun kd=>nJ kd.1)=true):ItD K B (GS a ep kvs.length) (kds.map (·.1)):=fun i H2 x2=>by
 have h2:=x2 _ _ h
 refine⟨fun d hd=>?_,fun e=>⟨kvs,h2,rfl,by rw[← e,cZ,r.length]; exact bI _⟩⟩
 rw[eQ] at hd
 obtain⟨kd,hk,rfl⟩:=nP.mp hd
 obtain⟨kv,g1,g2,_,g3⟩:=JO r hk
 refine⟨⟨kvs,kv,h2,rfl,g1⟩,?_⟩
 rintro x H3 ⟨rfl,hx⟩
 obtain⟨kv',b,q1,rfl,tk⟩:=hx kvs h2
 have:kv'=kv:=eY (q1.symm.trans g1)
 subst this
 refine⟨Ext.refl,fun P2 hP2 xb=>?_⟩
 show Abq K _ kd.1 _
 have:=WH hl hk
 rw[g2] at this ⊢
 exact RU hP2 this tk
theorem Tt(h:DE X e f):DI X tg e (iKR f):=PI.imp (Ts h) fun σ H R gh=>by
 obtain⟨P,ρ,ds,hP,rs,ef,k⟩:=gh
 obtain⟨d,e1,ef⟩:=XBs ef
 split at ef
 ·obtain⟨hl,rfl⟩:=cN ef
  refine⟨P,ρ,_,hP,rs,e1,dU fun v H1 x1 r1=>?_⟩
  obtain⟨a,kvs,rfl,hq,rr⟩:=(nB).mp r1
  exact⟨a,kvs.1,kvs.2,rfl,Aau _ _ hq,k _ H1 x1 (Yr hq rr hl)⟩
 ·cases ef
theorem Pi(h:B a=some (.dT ep kvs))(r:Abu K B kds kvs)(hl:(kds.all fun kd=>nJ kd.1)=true):ItD K B (HG a ep kvs.length) (kds.map fun kd=>.tuple [kd.1,kd.2]):=fun i H2 x2=>by
 have h2:=x2 _ _ h
 refine⟨fun d hd=>?_,fun e=>⟨kvs,h2,rfl,by rw[← e,cZ,r.length]; exact bI _⟩⟩
 rw[eQ] at hd
 obtain⟨kd,hk,rfl⟩:=nP.mp hd
 obtain⟨kv,g1,g2,_,g3⟩:=JO r hk
 refine⟨⟨kvs,kv,h2,rfl,g1⟩,?_⟩
 rintro x H3 ⟨T,kv',b,fr,rfl,tk,hx,rfl⟩
 have:kv'=kv:=eY ((hx kvs h2).symm.trans g1)
 subst this
 have ext:Ext H2 (upd H2 T (.tup [.ref b,kv'.2])):=fun b u e=>by rw[cP (jT e fr)]; exact e
 refine⟨ext,fun P2 hP2 xb=>?_⟩
 have nT : ¬ P2 T:=fun q=>by
  rcases hP2 T q with⟨o,e⟩ | ⟨o,e⟩ <;> rw[fr] at e <;> cases e
 have gT:hid (upd H2 T (.tup [.ref b,kv'.2])) P2 T=some (.tup [.ref b,kv'.2]):=gJ nT eO
 have xx:Ext B (hid (upd H2 T (.tup [.ref b,kv'.2])) P2):=xb.trans (cT ext)
 have lay:=WH hl hk
 rw[g2] at lay
 refine Aar.mpr ⟨T,_,rfl,gT,Aah.mpr ⟨_,_,rfl,?_,Aah.mpr ⟨_,_,rfl,g3.ext xx,Aao.mpr rfl⟩⟩⟩
 rw[g2]
 exact(RU hP2 lay tk).ext (cT ext)
theorem VW(h:DE X l f)(hbase:lT l "items" X.env (bM l X.env)=bM l X.env:=by rfl)(hline:(apos.endLine == pos.line)=true:=by rfl):DI X (.Tuple es cx tpos) (.Call (.Attribute l "items" apos) [] [] pos) (iDR f):=PI.imp (Xx h hbase hline) fun σ H R gh=>by
 obtain⟨P,ρ,ds,hP,rs,ef,k⟩:=gh
 obtain⟨d,e1,ef⟩:=XBs ef
 split at ef
 ·obtain⟨hl,rfl⟩:=cN ef
  refine⟨P,ρ,_,hP,rs,e1,dU fun v H1 x1 r1=>?_⟩
  obtain⟨a,kvs,rfl,hq,rr⟩:=(nB).mp r1
  exact⟨a,kvs.1,kvs.2,rfl,Aau _ _ hq,k _ H1 x1 (Pi hq rr hl)⟩
 ·cases ef
def PN:aA->aA->aA->Option aA
 | .dict ((.none,.none)::kds),.tuple k,x=>if (bU k&&decide (dA k≤6))=true then some ((iN kds k).getD x) else none
 | _,_,_=>none
def uZ (fd fk fx:EF):EF:=fun ρ=>(fd ρ).bind fun d=>(fk ρ).bind fun k=>(fx ρ).bind fun x=>PN d k x
theorem Am {k z:aS}{fd fx:EF}(hu:X.A.units+40<cLine)(ho:DE X o fd)(hk:DE X k fk)(hz:DE X z fx)(m:M2 X o "get" apos k z cpos:=by exact⟨rfl,rfl,rfl,rfl⟩):DE X (.Call (.Attribute o "get" apos) [k,z] [] cpos) (uZ fd fk fx):=
 PE.imp (TB hu ho hk hz m) fun σ H Q gh=>by
  obtain⟨P,ρ,d,hP,rs,ef,kk⟩:=gh
  obtain⟨d1,e1,ef2⟩:=XBs ef
  obtain⟨d2,e2,ef3⟩:=XBs ef2
  obtain⟨d3,e3,ef4⟩:=XBs ef3
  clear ef ef2 ef3
  unfold PN at ef4
  split at ef4
  ·rename_i kds key
   obtain⟨hc,rfl⟩:=cN ef4
   have hc:bU key=true/\dA key≤6:=by simpa using hc
   refine⟨P,ρ,_,hP,rs,e1,dU fun v H1 x1 r1=>?_⟩
   obtain⟨q,kvs,rfl,hq,rr⟩:=(nB).mp r1
   refine⟨q,rfl,.inr ⟨kvs.2,kvs.1,.inl (Aau _ _ hq)⟩,P,ρ,_,hP.ext x1,rs.ext (cT x1),e2,dU fun u H2 x2 r2=>⟨P,ρ,_,hP.ext (x1.trans x2),rs.ext (cT (x1.trans x2)),e3,dU fun w H3 x3 r3=>?_⟩⟩
   obtain⟨b,xs,rfl,hb,rx⟩:=Aar.mp (r2.ext (Ext.trans Aau x3))
   refine⟨eG kvs.2 key,.inr ⟨kvs.2,key,b,⟨_,.inl (x3 _ _ (x2 _ _ (Aau _ _ hq)))⟩,rfl,⟨hc.1,hc.2,xs,hb,Aas.keys key hc.1 rx⟩,rfl⟩,kk.zero ((x1.trans x2).trans x3) ?_⟩
   rcases zO hc.1 (rr.ext (cT (x2.trans x3))) with⟨n1,n2⟩ | ⟨d',v',s1,s2,rd⟩
   ·rw[n1,n2]; exact r3
   ·rw[s1,s2]; exact rd
  ·cases ef4
def BX:aA->aA->Option aA
 | .dict ((.none,.none)::kds),.tuple k=>if (bU k&&decide (dA k≤6))=true then iN kds k else none
 | _,_=>none
theorem Iw {a b:aS}{fa fb:EF}(hu:X.A.units+40<cLine)(ha:DE X a fa)(hb:DE X b fb)(hs:CY b):DE X (.Subscript a b pos) (eOp BX fa fb):=PE.imp (CV hu ha hb hs) fun σ H Q gh=>by
 obtain⟨P,ρ,d,hP,rs,ef,kk⟩:=gh
 obtain⟨d1,e1,ef2⟩:=XBs ef
 obtain⟨d2,e2,ef3⟩:=XBs ef2
 clear ef ef2
 unfold BX at ef3
 split at ef3
 ·rename_i kds key
  obtain⟨hc,ed⟩:=yT ef3
  have hc:bU key=true/\dA key≤6:=by simpa using hc
  refine⟨P,ρ,_,hP,rs,e1,dU fun v H1 x1 r1=>⟨P,ρ,_,hP.ext x1,rs.ext (cT x1),e2,dU fun u H2 x2 r2=>?_⟩⟩
  obtain⟨q,kvs,rfl,hq,rr⟩:=(nB).mp r1
  obtain⟨c,xs,rfl,hb',rx⟩:=Aar.mp (r2.ext Aau)
  rcases zO hc.1 (rr.ext (cT x2)) with⟨n1,n2⟩ | ⟨d',v',s1,s2,rd⟩
  ·rw[ed] at n1; cases n1
  ·rw[ed] at s1
   cases s1
   exact⟨q,v',rfl,.inr ⟨kvs.2,key,c,⟨_,.inl (x2 _ _ (Aau _ _ hq))⟩,rfl,⟨hc.1,hc.2,xs,hb',Aas.keys key hc.1 rx⟩,s2.symm⟩,kk.zero (x1.trans x2) rd⟩
 ·cases ef3
end
def sOr (F G:SF):SF:=fun ρ=>(F ρ).or (G ρ)
theorem Fy{st:bZ}{F G:SF}(h1:DS X H0 P0 n0 st F)(h2:DS X H0 P0 n0 st G):DS X H0 P0 n0 st (sOr F G):=fun pins s σ H D I gh=>by
 obtain⟨B0,ρ,fp,o,S,ef,k⟩:=gh
 have ef:(F ρ).or (G ρ)=some o:=ef
 cases e:F ρ with
 | some o'=>rw[e] at ef; cases ef; exact h1 pins s σ H D I ⟨B0,ρ,fp,_,S,e,k⟩
 | none=>rw[e] at ef; exact h2 pins s σ H D I ⟨B0,ρ,fp,o,S,by simpa using ef,k⟩
open PySem PySem.SetTable
def lp (mask:Nat)(s:Nat×Nat):Nat->Nat×Nat
 | 0=>s
 | m+1=>leap mask (lp mask s m).1 (lp mask s m).2
open PySem PySem.Spec PyProof.Rows PySem.SetTable
instance memK (k:aI)(acc:List aI):Decidable (k∈acc):=decidable_of_iff (acc.any (fun x=>decide (x=k))=true) (by simp[GF])
section
variable {a b:aS}{kpos:bR}
def ix2 (c:Int):aA->Option aA
 | .tuple [.list a,.list b]=>if c=0 then some (.list a) else if c=1 then some (.list b) else none
 | _=>none
def sH (c:Int)(f:EF):EF:=fun ρ=>(f ρ).bind (ix2 c)
theorem DH {c:Int}{jj}(h:DF 2 X e f)(hs:CY (.Constant (.int c) jj kpos):=by exact fun _ _=>rfl):DF 1 X (.Subscript e (.Constant (.int c) jj kpos) pos) (sH c f):=
 PE.imp (QB QI h ZL hs) fun σ H Q gh=>by
  obtain⟨P,ρ,d,hP,rs,ef,k⟩:=gh
  obtain⟨d2,e1,ef⟩:=XBs ef
  unfold ix2 at ef
  split at ef
  ·rename_i la lb
   refine⟨P,ρ,_,hP,rs,e1,fun v H' Fr xx nd fr r=>?_⟩
   obtain⟨q,p,p',xs,ys,rfl,hq,rfl,hp,hp',r1,r2⟩:=Du r
   have hq':=(Acy.mp hq).2
   by_cases c0:c=0
   ·rw[if_pos c0] at ef
    cases ef
    subst c0
    refine .inr (.inl ⟨q,_,0,.ref p,rfl,rfl,SqT.of hq',rfl,k _ _ [p] xx (by simp) (fun z m=>fr z (by rw[cG.mp m]; simp)) (DB hp (r1.ext (iQ fun z hz=>?_)))⟩)
    rcases hz with hz | hz
    ·exact .inl hz
    ·exact .inr (by rw[cG.mp hz]; simp)
   ·rw[if_neg c0] at ef
    obtain⟨c1,rfl⟩:=cN ef
    subst c1
    refine .inr (.inl ⟨q,_,1,.ref p',rfl,rfl,SqT.of hq',rfl,k _ _ [p'] xx (by simp) (fun z m=>fr z (by rw[cG.mp m]; simp)) (DB hp' (r2.ext (iQ fun z hz=>?_)))⟩)
    rcases hz with hz | hz
    ·exact .inl hz
    ·exact .inr (by rw[cG.mp hz]; simp)
  ·cases ef
def YY (m:Md)(t:BF)(i:Nat)(f:EF):SF:=fun ρ=>(bV m t ρ).bind fun b=>if b=true then kP i 1 ρ else cW 1 .s f ρ
theorem Uy{t:BF}(m:Md)(i:Nat)(hc:DT X c t)(he:DF 1 X e f)(hN:X.N[i]?=some x:=by rfl)(hv:hJ X.env.scope x:=by first | exact aP rfl | exact aQ (aP rfl) | exact aQ (aQ rfl))(hd:(x == ("__debug__" : aC))=false:=by decide)
  (hcd:(x == ("__classdict__" : aC))=false:=by decide):DS X H0 P0 1 (.Return (some (.IfExp c (.Name x px) e kpos)) pos) (YY m t i f):=
 PS.imp (CG (SS (evB (H0:=H0) (P0:=P0) m hc) (jC hN hv hd hcd) (ev (H0:=H0) (P0:=P0) .s he))) fun D σ H gh=>by
  obtain⟨B0,ρ,fp,o,S,ef,k⟩:=gh
  obtain⟨b,e1,ef⟩:=XBs ef
  refine⟨B0,ρ,fp,b,S,e1,fun H1 S1=>?_⟩
  cases b with
  | true=>
   replace ef:kP i 1 ρ=some o:=by simpa using ef
   unfold kP at ef
   cases q:ρ[i]? with
   | none=>rw[q] at ef; simp at ef
   | some z=>
    cases z with
    | none=>rw[q] at ef; simp at ef
    | some z=>
     obtain⟨n,d⟩:=z
     rw[q] at ef
     obtain⟨rfl,rfl⟩:=cN ef
     obtain⟨v,h1,h2⟩:=S1.slot i _ d q
     refine mU ⟨v,h1,k v H1 ⟨fp i,S1.ext,S1.nd i,fun a m=>⟨(S1.own i a m).1,?_⟩,h2.keep (iQ fun a h=>?_) fun a m=>rfl⟩⟩
     ·rcases(S1.own i a m).2 with⟨xs,e⟩ | ⟨xs,e⟩
      ·exact⟨_,e⟩
      ·exact⟨_,e⟩
     ·rcases h with h | h
      ·exact .inl h
      ·exact .inr ⟨_,h⟩
  | false=>
   replace ef:cW 1 .s f ρ=some o:=by simpa using ef
   obtain⟨d,e2,ef⟩:=XBs ef
   cases ef
   exact nK ⟨B0,ρ,fp,d,S1,e2,fun v H' t=>k v H' t.ret⟩
end
section
variable {σ:St}
theorem Sta.change{fp':Nat->List aD}{d':aA}(S:Sta K H0 P0 B0 ρ σ H fp)(hi:i<ρ.length)(hv:σ[i]?=some (some v))
  (hf : ∀ j,j≠i->j<ρ.length->fp' j=fp j) (hz : ∀ j,ρ.length≤j->fp' j=[] \/ fp' j=fp j) (nd:(fp' i).Nodup) (sub : ∀ a∈fp' i,∃ j,a∈fp j/\(j=i \/ fp' j=[]))
  (kp : ∀ a,a∉fp i->H' a=H a) (ow : ∀ a∈fp' i,(∃ xs,H' a=some (.lst xs)) \/ ∃ q:DQ,H' a=some (dO q))
  (new:Ext (L2.hid H (Hd P0 fp)) (L2.hid H' (Hd P0 fp'))->Afz K (L2.hid H' (Hd P0 fp')) H' n d' v (fp' i)):Sta K H0 P0 B0 (ρ.set i (some (n,d'))) σ H' fp':=by
 have same : ∀ j,j≠i -> ∀ a∈fp' j,a∈fp j:=fun j hj a m=>by
  by_cases h:j<ρ.length
  ·rw[hf j hj h] at m; exact m
  ·rcases hz j (by omega) with e | e
   ·rw[e] at m; simp at m
   ·rw[e] at m; exact m
 have from_ : ∀ j,∀ a∈fp' j,∃ l,a∈fp l:=fun j a m=>by
  by_cases h:j=i
  ·subst h
   obtain⟨l,ml,_⟩:=sub a m
   exact⟨l,ml⟩
  ·exact⟨j,same j h a m⟩
 have xb:Ext (L2.hid H (Hd P0 fp)) (L2.hid H' (Hd P0 fp')):=fun b o e=>by
  obtain⟨nb,e⟩:=Acy.mp e
  refine gJ (fun q=>nb ?_) ?_
  ·rcases q with q | ⟨j,q⟩
   ·exact .inl q
   ·obtain⟨l,ml⟩:=from_ j b q
    exact .inr ⟨l,ml⟩
  ·rw[kp b fun q=>nb (.inr ⟨i,q⟩)]; exact e
 have other : ∀ j,j≠i -> ∀ a∈fp' j,H' a=H a:=fun j hj a m=>kp a fun q=>hj (S.dj j i a (same j hj a m) q)
 refine⟨by simp[S.len],fun j=>?_,fun j l a h1 h2=>?_,fun j a m=>?_,fun b u e=>?_,S.hd,S.base.trans xb,fun j n' d2 e=>?_⟩
 ·by_cases h:j=i
  ·rw[h]; exact nd
  ·by_cases h2:j<ρ.length
   ·rw[hf j h h2]; exact S.nd j
   ·rcases hz j (by omega) with e | e
    ·rw[e]; exact .nil
    ·rw[e]; exact S.nd j
 ·by_cases e1:j=i <;> by_cases e2:l=i
  ·rw[e1,e2]
  ·subst e1
   obtain⟨m,hm,hm2⟩:=sub a h1
   have:=S.dj m l a hm (same l e2 a h2)
   subst this
   rcases hm2 with hm2 | hm2
   ·exact hm2.symm
   ·rw[hm2] at h2; simp at h2
  ·subst e2
   obtain⟨m,hm,hm2⟩:=sub a h2
   have:=S.dj m j a hm (same j e1 a h1)
   subst this
   rcases hm2 with hm2 | hm2
   ·exact hm2
   ·rw[hm2] at h1; simp at h1
  ·exact S.dj j l a (same j e1 a h1) (same l e2 a h2)
 ·obtain⟨l,ml⟩:=from_ j a m
  refine⟨(S.own l a ml).1,?_⟩
  by_cases h:j=i
  ·subst h; exact ow a m
  ·rw[other j h a m]; exact(S.own j a (same j h a m)).2
 ·rw[kp b fun q=>by rw[(S.own i b q).1] at e; cases e]
  exact S.ext b u e
 ·by_cases q:j=i
  ·subst q
   rw[nR hi] at e
   cases e
   exact⟨v,hv,new xb⟩
  ·rw[lW (fun z=>q z.symm)] at e
   obtain⟨v2,h1,h2⟩:=S.slot j n' d2 e
   have hj:j<ρ.length:=(dD.mp e).1
   refine⟨v2,h1,?_⟩
   have:=other j q
   rw[hf j q hj] at this ⊢
   exact h2.keep xb this
abbrev R1 (K:aK)(B H:Hp):aA×aA->aI×V->List aD->Prop:=fun kd kv f=>kd.1=kD kv.1/\Afz K B H 1 kd.2 kv.2 f
theorem Sta.dic2(S:Sta K H0 P0 B0 ρ σ H fp)(e:ρ[i]?=some (some (2,.dict ds))) : ∃ p ep xs Fs,σ[i]?=some (some (.ref p))/\H p=some (.dK ep xs)/\fp i=p::Fs.flatten/\All3 (R1 K (L2.hid H (Hd P0 fp)) H) ds xs Fs:=by
 obtain⟨v,h1,h2⟩:=S.slot i 2 _ e
 obtain⟨p,xs,Fs,rfl,hp,hF,h3⟩:=h2
 exact⟨p,xs.1,xs.2,Fs,h1,hp,hF,h3⟩
def iI:List (aA×aA)->aI->aA->List (aA×aA)
 | [],_,_=>[]
 | (k0,d0)::r,k,d=>if bP k0=some k then(k0,d)::r else(k0,d0)::iI r k d
theorem EI (k0 d0:aA)(r:List (aA×aA))(k:aI):bW ((k0,d0)::r) k=if bP k0=some k then some d0 else bW r k:=by
 unfold bW
 rw[fZ]
 by_cases h:bP k0=some k
 ·rw[if_pos h]; simp[h]
 ·rw[if_neg h]; simp[h]
theorem KJ : ∀ {ds:List (aA×aA)} {xs:List (aI×V)} {Fs:List (List aD)},All3 (R1 K B H) ds xs Fs->Fs.flatten.Nodup -> ∀ d,bW ds k=some d ->
  ∃ v f,f∈Fs/\eG xs k=some v/\Afz K B H 1 d v f /\ ∀ (B' H':Hp) (d':aA),Ext B B'->Afz K B' H' 1 d' v f->(∀ a,a∉f->H' a=H a)->All3 (R1 K B' H') (iI ds k d') xs Fs
 | _,_,_,.nil,_,d,e=>by simp[bW] at e
 | (k0,d0)::ds,(k',v0)::xs,f0::Fs,.cons h t,nd,d,e=>by
  obtain⟨ek,h⟩:=h
  have ek:k0=kD k':=ek
  subst ek
  rw[EI,kY] at e
  rw[nU,mQ] at nd
  by_cases q:k'=k
  ·rw[if_pos (by rw[q])] at e
   cases e
   refine⟨v0,f0,bO,kZ q,h,fun B' H' d' xb r kp=>?_⟩
   show All3 _ (if bP (kD k')=some k then(kD k',d')::ds else _) _ _
   rw[if_pos (by rw[kY,q])]
   refine .cons ⟨rfl,r⟩ (t.imp fun a b c m rr=>⟨rr.1,rr.2.keep xb fun z hz=>kp z fun z2=>?_⟩)
   exact nd.2.2 z z2 z (lC.mpr ⟨c,m,hz⟩) rfl
  ·rw[if_neg (fun z=>q (eY z))] at e
   obtain⟨v,f,m,h1,h2,h3⟩:=KJ t nd.2.1 d e
   refine⟨v,f,bT _ m,(kE q).trans h1,h2,fun B' H' d' xb r kp=>?_⟩
   show All3 _ (if bP (kD k')=some k then(kD k',d')::ds else(kD k',d0)::iI ds k d') _ _
   rw[if_neg (by rw[kY]; exact fun z=>q (eY z))]
   refine .cons ⟨rfl,h.keep xb fun z hz=>kp z fun z2=>?_⟩ (h3 B' H' d' xb r kp)
   exact nd.2.2 z hz z (lC.mpr ⟨f,m,z2⟩) rfl
theorem Sta.inner{es:List aA}(S:Sta K H0 P0 B0 ρ σ H fp)(e:ρ[i]?=some (some (2,.dict ds)))(hk:bW ds k=some (.list es)) : ∃ p ep xs q ys,σ[i]?=some (some (.ref p))/\H p=some (.dK ep xs)/\eG xs k=some (.ref q)/\H q=some (.lst ys)/\Aas K (L2.hid H (Hd P0 fp)) es ys /\
  ∀ es' ys',Aas K (L2.hid H (Hd P0 fp)) es' ys'->Sta K H0 P0 B0 (ρ.set i (some (2,.dict (iI ds k (.list es'))))) σ (upd H q (.lst ys')) fp:=by
 obtain⟨p,ep,xs,Fs,h1,h2,h3,h4⟩:=S.dic2 e
 have nd:=S.nd i
 rw[h3,jW] at nd
 obtain⟨v,f,mf,hv,hr,up⟩:=KJ h4 nd.2 _ hk
 obtain⟨q,ys,Gs,rfl,hq,hF,g3⟩:=hr
 obtain⟨r,hn⟩:=KQ g3
 rw[hn] at hF
 refine⟨p,ep,xs,q,ys,h1,h2,hv,hq,r,fun es' ys' r'=>?_⟩
 have mq:q∈fp i:=by
  rw[h3]
  exact bT _ (lC.mpr ⟨f,mf,by rw[hF]; exact bO⟩)
 have npq:p≠q:=fun z=>nd.1 (lC.mpr ⟨f,mf,by rw[hF,z]; exact bO⟩)
 refine S.change (dD.mp e).1 h1 (fun _ _ _=>rfl) (fun _ _=>.inr rfl) (S.nd i) (fun a m=>⟨i,m,.inl rfl⟩) (fun a na=>cP fun z=>na (z ▸ mq)) (fun a m=>?_) fun xb=>?_
 ·by_cases z:a=q
  ·subst z; exact .inl ⟨ys',eO⟩
  ·rw[cP z]; exact(S.own i a m).2
 ·refine⟨p,(ep,xs),Fs,rfl,by rw[cP npq]; exact h2,h3,up _ _ _ xb ?_ fun a na=>cP fun z=>na (by rw[hF,z]; exact bO)⟩
  obtain⟨q1,q2⟩:=EC (H1:=upd H q (.lst ys')) (r'.ext xb)
  exact⟨q,ys',_,rfl,eO,by rw[hF,q2],q1⟩
theorem VO{kd:aA×aA}{kv:aI×V}{f:List aD}(h:R1 K B H kd kv f) : ∀ {ds:List (aA×aA)} {xs:List (aI×V)} {Fs:List (List aD)},All3 (R1 K B H) ds xs Fs->All3 (R1 K B H) (ds++[kd]) (xs++[kv]) (Fs++[f])
 | _,_,_,.nil=>.cons h .nil
 | _,_,_,.cons h' t=>.cons h' (VO h t)
theorem KO : ∀ {ds:List (aA×aA)} {xs:List (aI×V)} {Fs:List (List aD)},All3 (R1 K B H) ds xs Fs->bW ds k=none->eG xs k=none
 | _,_,_,.nil,_=>rfl
 | (k0,d0)::ds,(k',v0)::xs,f0::Fs,.cons h t,e=>by
  obtain⟨ek,h⟩:=h
  have ek:k0=kD k':=ek
  subst ek
  rw[EI,kY] at e
  by_cases q:k'=k
  ·rw[if_pos (by rw[q])] at e; cases e
  ·rw[if_neg (fun z=>q (eY z))] at e
   exact(kE q).trans (KO t e)
theorem DU : ∀ {ds:List (aA×aA)} {xs:List (aI×V)} {Fs:List (List aD)},All3 (R1 K B H) ds xs Fs->xs.length=ds.length
 | _,_,_,.nil=>rfl
 | _,_,_,.cons _ t=>by rw[fN,fN,DU t]
theorem Sta.newKey(S:Sta K H0 P0 B0 ρ σ H fp)(e:ρ[i]?=some (some (2,.dict ds)))(hk:bW ds k=none)(r:Afz K (L2.hid H (Hd P0 fp)) H 1 d v (fp ρ.length)) : ∃ p ep xs,σ[i]?=some (some (.ref p))/\H p=some (.dK ep xs)/\xs.length=ds.length /\
  ∀ n,∃ fp',Sta K H0 P0 B0 (ρ.set i (some (2,.dict (ds++[(kD k,d)])))) σ (upd H p (.dK n (putK xs k v))) fp':=by
 obtain⟨p,ep,xs,Fs,h1,h2,h3,h4⟩:=S.dic2 e
 have hi:=(dD.mp e).1
 refine⟨p,ep,xs,h1,h2,DU h4,fun n=>?_⟩
 have ep':putK xs k v=xs++[(k,v)]:=by
  unfold putK
  rw[tU,KO h4 hk]
  rfl
 have mp:p∈fp i:=by rw[h3]; exact bO
 have nl : ∀ a∈fp ρ.length,a∉fp i:=fun a m m2=>by
  have:=S.dj _ _ a m m2
  omega
 refine⟨fun j=>if j=i then p::(Fs++[fp ρ.length]).flatten else if j=ρ.length then [] else fp j,S.change hi h1 (fun j a b=>?_) (fun j a=>?_) ?_ (fun a m=>?_) (fun a na=>cP fun z=>na (by rw[show a=p from z]; exact mp)) (fun a m=>?_) fun xb=>?_⟩
 ·simp only[a,if_false]
  rw[if_neg (by omega)]
 ·have:j≠i:=by omega
  simp only[this,if_false]
  by_cases z:j=ρ.length
  ·rw[if_pos z]; exact .inl rfl
  ·rw[if_neg z]; exact .inr rfl
 ·simp only[if_true,uM,Ci]
  have nd:=S.nd i
  rw[h3] at nd
  rw[← rW]
  refine mQ.mpr ⟨nd,S.nd _,fun a ha b hb e=>?_⟩
  subst e
  exact nl a hb (by rw[h3]; exact ha)
 ·simp only[if_true,uM,Ci] at m
  rw[← rW] at m
  rcases fY.mp m with m | m
  ·exact⟨i,by rw[h3]; exact m,.inl rfl⟩
  ·refine⟨ρ.length,m,.inr ?_⟩
   have:ρ.length≠i:=by omega
   simp only[this,if_false,if_true]
 ·simp only[if_true,uM,Ci] at m
  rw[← rW] at m
  by_cases z:a=p
  ·subst z; exact .inr ⟨.inl (n,_),eO⟩
  ·rw[cP z]
   rcases fY.mp m with m | m
   ·exact(S.own i a (by rw[h3]; exact m)).2
   ·exact(S.own _ a m).2
 ·simp only[if_true]
  have nd:=S.nd i
  rw[h3,jW] at nd
  rw[ep'] at xb ⊢
  refine⟨p,(n,xs++[(k,v)]),Fs++[fp ρ.length],rfl,eO,rfl,?_⟩
  have rk:=Afz.keep xb (H':=upd H p (.dK n (xs++[(k,v)]))) (fun a m=>cP fun z=>nl a m (by rw[show a=p from z]; exact mp)) r
  refine VO (kd:=(kD k,d)) (kv:=(k,v)) ⟨rfl,rk⟩ (h4.imp fun a b c m rr=>⟨rr.1,Afz.keep xb (H':=upd H p (.dK n (xs++[(k,v)]))) (fun z hz=>cP fun z2=>nd.1 ?_) rr.2⟩)
  have z2:z=p:=z2
  rw[← z2]
  exact lC.mpr ⟨c,m,hz⟩
end
def lF (i:Nat)(ρ:aX):Option (List (aA×aA)):=match ρ[i]? with
 | some (some (2,.dict ds))=>some ds
 | _=>none
theorem kF(h:lF i ρ=some ds):ρ[i]?=some (some (2,.dict ds)):=by
 unfold lF at h
 split at h
 ·rename_i e; cases h; exact e
 ·cases h
section
variable {k:aS}
theorem Th:DF 2 X (.Dict [] [] pos) (eC (.dict [])):=PE.imp RY fun σ H Q gh=>by
 obtain⟨P,ρ,d,hP,rs,ef,k⟩:=gh
 cases ef
 refine fun q hq=>k (.ref q) _ [q] (Ext.new hq) (jW.mpr ⟨by simp,.nil⟩) (fun a m=>?_) ⟨q,(0,[]),[],rfl,eO,rfl,.nil⟩
 have:a=q:=by simpa using m
 subst this
 exact⟨hq,_,eO⟩
def yM (i:Nat)(m:Md)(f:EF)(mk:Md)(g:EF):SF:=fun ρ=>(eV 1 m f ρ).bind fun d=>(lF i ρ).bind fun kds=>(eV 0 mk g ρ).bind fun k=>(bP k).bind fun k=>if bW kds k=none/\kds.length<sizeLine then some (.nx (ρ.set i (some (2,.dict (kds++[(kD k,d)]))))) else none
theorem Ti (i:Nat)(m mk:Md)(hu:X.A.units+40<cLine)(he:DF 1 X e f)(hk:DE X k g)(hN:X.N[i]?=some x:=by rfl)(hv:hJ X.env.scope x:=by first | exact aP rfl | exact aQ (aP rfl) | exact aQ (aQ rfl))(hd:(x == ("__debug__" : aC))=false:=by decide)
  (hcd:(x == ("__classdict__" : aC))=false:=by decide) (hs:jU e (some (.Subscript (.Name x px) k apos)) pos.line X.env=pure false:=by rfl):DS X H0 P0 n0 (.Assign [.Subscript (.Name x px) k apos] e pos) (yM i m f mk g):=
 PS.imp (CK hu (jC hN hv hd hcd) hk (ev (H0:=H0) (P0:=P0) m he) hs) fun D σ H gh=>by
  obtain⟨B0,ρ,fp,o,S,ef,kk⟩:=gh
  obtain⟨d,e1,ef2⟩:=XBs ef
  obtain⟨kds,e2,ef3⟩:=XBs ef2
  obtain⟨kd,e3,ef4⟩:=XBs ef3
  obtain⟨key,e4,ef5⟩:=XBs ef4
  obtain⟨⟨hn,hl⟩,rfl⟩:=cN ef5
  clear ef ef2 ef3 ef4
  refine⟨B0,ρ,fp,d,S,e1,fun v H2 gh=>?_⟩
  obtain⟨fp2,S2,r2⟩:=gh
  obtain⟨p,ep,xs,h1,h2,_,_⟩:=S2.newKey (kF e2) hn r2
  have hf:dB kd=true:=by rw[uA e4]; cases key <;> simp[kD,dB]
  refine⟨.ref p,h1,pE S2 e3 hf fun u H3 x3 r3=>?_⟩
  have S3:=S2.grow x3
  have r4:Afz X.K (hid H3 (Hd P0 fp2)) H3 1 d v (fp2 ρ.length):=r2.keep (cT x3) fun a m=>by
   rcases(S2.own _ a m).2 with⟨xs,e⟩ | ⟨xs,e⟩
   ·rw[e,x3 _ _ e]
   ·rw[e,x3 _ _ e]
  obtain⟨p3,ep3,xs3,q1,q2,q3,q4⟩:=S3.newKey (kF e2) hn r4
  have:p3=p:=by rw[h1] at q1; cases q1; rfl
  subst this
  refine⟨p3,_,rfl,.inl ⟨ep3,xs3,key,q2,kG e4 r3,by rw[q3]; exact hl,rfl⟩,fun n=>?_⟩
  obtain⟨fp',S4⟩:=q4 n
  exact kk _ _ fp' S4
def EX (i:Nat)(mk:Md)(g:EF)(m:Md)(f:EF):SF:=fun ρ=>(lF i ρ).bind fun kds=>(eV 0 mk g ρ).bind fun k=>(bP k).bind fun k=>(bW kds k).bind fun l=>match l with
 | .list es=>(eV 0 m f ρ).bind fun d=>match d with
  | .int j=>(ixN es.length j).bind fun n=>if es.length≤sizeLine then some (.nx (ρ.set i (some (2,.dict (iI kds k (.list (es.eraseIdx n))))))) else none
  | _=>none
 | _=>none
theorem Li (i:Nat)(mk m:Md)(hu:X.A.units+40<cLine)(hk:DE X k g)(he:DE X e f)(hN:X.N[i]?=some x:=by rfl)(hv:hJ X.env.scope x:=by first | exact aP rfl | exact aQ (aP rfl) | exact aQ (aQ rfl))(hd:(x == ("__debug__" : aC))=false:=by decide)
  (hcd:(x == ("__classdict__" : aC))=false:=by decide) (hns:BY k:=by exact fun _ _=>rfl) (hbase:lT (.Subscript (.Name x px) k spos) "pop" X.env (bM (.Subscript (.Name x px) k spos) X.env)=bM (.Subscript (.Name x px) k spos) X.env:=by rfl)
  (hfew:((eW cpos (bK (e::[]) X.env)).all (fun x=>!x.1)&&(pX cpos (pS [] X.env)).all (fun x=>x.1.isSome)
   && decide ((e::[]).length+([]:List iG).length+(if ([]:List iG).isEmpty then 0 else 1)<30))=true:=by rfl)
  (hline:(apos.endLine == cpos.line)=true:=by rfl) (hs:bK (e::[]) X.env=(false,bM e X.env)::bK [] X.env:=by rfl) (hplain:(eW cpos (bK [] X.env)).any (·.1)=false:=by rfl)
  (hsw:jU (.Call (.Attribute (.Subscript (.Name x px) k spos) "pop" apos) [e] [] cpos) none pos.line X.env=pure false:=by rfl):DS X H0 P0 n0 (.Expr (.Call (.Attribute (.Subscript (.Name x px) k spos) "pop" apos) [e] [] cpos) pos) (EX i mk g m f):=
 PS.imp (yS (qK FS PySem.F.slot_list_pop PySem.F.type_list_pop Tg (CV hu (jC hN hv hd hcd) hk hns) (iR he lJ hs) hbase hfew hline hs hplain) hsw) fun D σ H gh=>by
  obtain⟨B0,ρ,fp,o,S,ef,kk⟩:=gh
  obtain⟨kds,e2,ef3⟩:=XBs ef
  obtain⟨kd,e3,ef4⟩:=XBs ef3
  obtain⟨key,e4,ef5⟩:=XBs ef4
  obtain⟨l,e5,ef6⟩:=XBs ef5
  clear ef ef3 ef4 ef5
  cases l with
  | list es=>
   obtain⟨d,e1,ef7⟩:=XBs ef6
   cases d with
   | int j=>
    obtain⟨n,e7,ef8⟩:=XBs (show((ixN es.length j).bind fun n=>if es.length≤sizeLine then some (Out.nx (ρ.set i (some (2,.dict (iI kds key (.list (es.eraseIdx n))))))) else none)=some o from ef7)
    obtain⟨lz,rfl⟩:=cN ef8
    have hf:dB kd=true:=by rw[uA e4]; cases key <;> simp[kD,dB]
    obtain⟨p,ep,xs,q,ys,h1,h2,h3,h4,_,_⟩:=S.inner (kF e2) e5
    refine⟨.ref p,h1,pE S e3 hf fun u H2 x2 r2=>⟨p,.ref q,rfl,.inl ⟨ep,xs,key,.inl (x2 _ _ h2),kG e4 r2,h3.symm⟩,.inl ⟨rfl,ys,SqL.of (x2 _ _ h4)⟩,pE (S.grow x2) e1 (by simp[dB]) fun v H3 x3 r3=>?_⟩⟩
    have S3:=S.grow (x2.trans x3)
    obtain⟨p3,ep3,xs3,q3,ys3,g1,g2,g3,g4,g5,g6⟩:=S3.inner (kF e2) e5
    have ep':p3=p:=by rw[h1] at g1; cases g1; rfl
    subst ep'
    have ex:some (HO.dK ep3 xs3)=some (HO.dK ep xs):=g2.symm.trans (x3 _ _ (x2 _ _ h2))
    injection ex with ex
    injection ex with ex1 ex2
    subst ex2
    have eq':q3=q:=by
     have:=g3.symm.trans h3
     injection this with this
     injection this
    subst eq'
    obtain⟨s1,s2,s3,s4⟩:=IJ e7
    have hl:ys3.length=es.length:=g5.length
    have hz:ys3.length≤sizeLine:=by rw[hl]; exact lz
    have hn:=qS
    have hy:ys3[n]?=some ys3[n]:=jX (by omega)
    exact⟨q3,ys3,j,n,ys3[n],rfl,by rw[Aan.mp r3],g4,by omega,by omega,by rw[hl]; exact s1,hy,kk _ _ fp (g6 _ _ (LC n g5))⟩
   | _=>cases ef7
  | _=>cases ef6
end
def Ao:V->List V->Hp->VK->Prop:=fun x vs H Q=>∃ d ep kvs k y,x = .ref d/\vs=[kV k,y]/\H d=some (.dK ep kvs)/\kvs.length<sizeLine /\
 ((∃ u,eG kvs k=some u/\Q u H) \/ (eG kvs k=none /\ ∀ n,Q y (upd H d (.dK n (putK kvs k y)))))
theorem KF:MtM X "dict.setdefault" Ao:=by
 intro pins s σ H x vs v us Q I rx rv h
 obtain⟨d,ep,kvs,k,y,rfl,rfl,e,l,q⟩:=h
 cases rx
 cases rv with
 | cons rk rr=>
  cases rr with
  | cons ry rr=>
   cases rr
   obtain⟨z,hd,ws,rel,dd⟩:=vF I.hok e
   refine call_meetsIn NI dd.typeIs PySem.F.entry_dict_setdefault (PySem.F.args_dict_setdefault_3 _ _ _) (kt_meets_setdefault (fJ X.prog X.w) d (uY rk) hd _) ⟨ws,dd,by rw[← rel.length]; exact z,fun w hw=>?_,fun hn h' dd' sb=>?_⟩
   ·have rl:=rel.val k
    rcases q with⟨u,hu,q⟩ | ⟨hu,q⟩
    ·rw[hu] at rl
     obtain⟨w',e1,e2⟩:=rl.some_of
     have e3:w'=w:=by rw[e1] at hw; exact eY hw
     subst e3
     exact⟨u,H,I.tok _,e2,q⟩
    ·rw[hu] at rl
     have:=rl.none_of
     rw[this] at hw
     cases hw
   ·have rl:=rel.val k
    rcases q with⟨u,hu,q⟩ | ⟨hu,q⟩
    ·rw[hu] at rl
     obtain⟨w',e1,e2⟩:=rl.some_of
     rw[e1] at hn
     cases hn
    ·have hl:(putK kvs k y).length≤sizeLine:=by have:=zS kvs k y; omega
     have he : ∃ q,h'.get? d=some q:=let ⟨q,_,_,hq,_⟩:=dd'; ⟨q,hq⟩
     obtain⟨n,da⟩:=dd'.dictAt
     exact⟨y,_,IH I (by rw[e]; exact pY) sb he (CI hl hd (rel.put k ry) da),ry,q n⟩
section
variable {k v:aS}{fc:BF}{fv f2:EF}{p3:bR}
def sSD (i j:Nat)(mc:Md)(fc:BF)(mk:Md)(fk:EF)(mv:Md)(fv:EF)(m2:Md)(f2:EF):SF:=fun ρ=>(bV mc fc ρ).bind fun b=>if b=true then
  (eV 0 mk fk ρ).bind fun kd=>(eV 0 mv fv ρ).bind fun d=>(bP kd).bind fun key=>(nL j ρ).bind fun kds=>match d with
   | .int n=>if i<ρ.length/\kds.length<sizeLine then some (.nx (match bW kds key with
    | some u=>ρ.set i (some (0,u))
    | none=>(ρ.set j (some (1,.dict (putD kds key (.int n))))).set i (some (0,.int n)))) else none
   | _=>none
 else(eV 0 m2 f2 ρ).bind fun d=>if i<ρ.length then some (.nx (ρ.set i (some (0,d)))) else none
theorem Fp (i j:Nat)(mc mk mv m2:Md)(hN:X.N.Nodup)(hc:DT X c fc)(hk:DE X k fk)(hv:DE X v fv)(he:DE X e2 f2)(hi:X.N[i]?=some x:=by rfl)(hx:jY X.env.scope x:=by first | exact aP rfl | exact aQ rfl)
  (hj:X.N[j]?=some y:=by rfl) (hy:hJ X.env.scope y:=by first | exact aP rfl | exact aQ (aP rfl) | exact aQ (aQ rfl)) (hd:(y == ("__debug__" : aC))=false:=by decide)
  (hcd:(y == ("__classdict__" : aC))=false:=by decide) (hbase:lT (.Name y p2) "setdefault" X.env (bM (.Name y p2) X.env)=bM (.Name y p2) X.env:=by rfl)
  (hfew:((eW cp (bK (k::[v]) X.env)).all (fun x=>!x.1)&&(pX cp (pS [] X.env)).all (fun x=>x.1.isSome)
   && decide ((k::[v]).length+([]:List iG).length+(if ([]:List iG).isEmpty then 0 else 1)<30))=true:=by rfl)
  (hline:(ap.endLine == cp.line)=true:=by rfl) (hs:bK (k::[v]) X.env=(false,bM k X.env)::bK [v] X.env:=by rfl) (hs2:bK (v::[]) X.env=(false,bM v X.env)::bK [] X.env:=by rfl) (hplain:(eW cp (bK [v] X.env)).any (·.1)=false:=by rfl)
  (hsw:jU (.IfExp c (.Call (.Attribute (.Name y p2) "setdefault" ap) [k,v] [] cp) e2 p3) (some (.Name x p1)) pos.line X.env=pure false:=by rfl) (hf:X.fn x=true \/ X.env.scope.names.lookup x=some .local:=by first | exact .inl rfl | exact .inr rfl | assumption) :
  DS X H0 P0 n0 (.Assign [.Name x p1] (.IfExp c (.Call (.Attribute (.Name y p2) "setdefault" ap) [k,v] [] cp) e2 p3) pos) (sSD i j mc fc mk fk mv fv m2 f2):=
 PS.imp (HU hN hi hx (SS (evB (H0:=H0) (P0:=P0) mc hc) (qK NJ NI Bp KF (jC hj hy hd hcd) (iR (ev (H0:=H0) (P0:=P0) mk hk) (iR (ev (H0:=H0) (P0:=P0) mv hv) lJ hs2) hs) hbase hfew hline hs hplain) (ev (H0:=H0) (P0:=P0) m2 he)) hsw hf) fun D σ H gh=>by
  obtain⟨B0,ρ,fp,o,S,ef,kk⟩:=gh
  obtain⟨b,e1,ef2⟩:=XBs ef
  refine⟨B0,ρ,fp,b,S,e1,fun H1 S1=>?_⟩
  cases b with
  | false=>
   refine nK ?_
   obtain⟨d,g1,g2⟩:=XBs (show((eV 0 m2 f2 ρ).bind fun d=>if i<ρ.length then some (Out.nx (ρ.set i (some (0,d)))) else none)=some o from ef2)
   obtain⟨hl,rfl⟩:=cN g2
   refine⟨B0,ρ,fp,d,S1,g1,fun u H2 t=>?_⟩
   obtain⟨fp',S'⟩:=t.set hl
   exact kk _ _ fp' S'
  | true=>
   refine mU ?_
   obtain⟨kd,g1,ef3⟩:=XBs (show((eV 0 mk fk ρ).bind fun kd=>(eV 0 mv fv ρ).bind fun d=>(bP kd).bind fun key=>(nL j ρ).bind fun kds=>match d with
    | .int n=>if i<ρ.length/\kds.length<sizeLine then some (Out.nx (match bW kds key with
     | some u=>ρ.set i (some (0,u))
     | none=>(ρ.set j (some (1,.dict (putD kds key (.int n))))).set i (some (0,.int n)))) else none
    | _=>none)=some o from ef2)
   obtain⟨d,g2,ef4⟩:=XBs ef3
   obtain⟨key,g3,ef5⟩:=XBs ef4
   obtain⟨kds,g4,ef6⟩:=XBs ef5
   clear ef ef2 ef3 ef4 ef5
   cases d with
   | int n=>
    obtain⟨⟨hl,hz⟩,rfl⟩:=cN ef6
    obtain⟨p,ep,xs,h1,h2,_,_⟩:=S1.dic1 (wN g4)
    refine⟨.ref p,h1,.inr (.inr (.inl ⟨rfl,.inl ⟨ep,xs,h2⟩⟩)),B0,ρ,fp,kd,S1,g1,fun v1 H2 gh=>?_⟩
    obtain⟨fp2,S2,r2⟩:=gh
    have ev1:v1=kV key:=kG g3 r2.2
    refine⟨B0,ρ,fp2,.int n,S2,g2,fun v2 H3 gh=>?_⟩
    obtain⟨fp3,S3,r3⟩:=gh
    have ev2:v2 = .int n:=Aan.mp r3.2
    subst ev1 ev2
    obtain⟨p3,ep3,xs3,q1,q2,q3,q4⟩:=S3.dic1 (wN g4)
    have:p3=p:=by rw[h1] at q1; cases q1; rfl
    subst this
    refine⟨p3,ep3,xs3,key,.int n,rfl,rfl,q2,by rw[q3.length]; exact hz,?_⟩
    rcases tZ (k:=key) q3 with⟨n1,n2⟩ | ⟨d',v',s1,s2,rd⟩
    ·refine .inr ⟨n2,fun m=>?_⟩
     rw[n1] at kk
     have S4:=q4 m _ _ (CJ (k:=key) (d:=.int n) (v:=.int n) q3 (Aan.mpr rfl))
     obtain⟨fp',S'⟩:=S4.set0 (i:=i) (d:=.int n) (v:=.int n) (Aan.mpr rfl) (by simpa using hl)
     exact kk _ _ fp' S'
    ·refine .inl ⟨v',s2,?_⟩
     rw[s1] at kk
     obtain⟨fp',S'⟩:=S3.set0 (i:=i) rd hl
     exact kk _ _ fp' S'
   | _=>cases ef6
end
section
variable {σ:St}
def sdK (kds:List (aA×aA))(k:aI):List (aA×aA):=match bW kds k with
 | some _=>kds
 | none=>kds++[(kD k,.list [])]
def AL (σ:St)(H:Hp)(i j:Nat)(k:aI):Prop:=∃ p ep xs q,σ[i]?=some (some (.ref p))/\H p=some (.dK ep xs)/\eG xs k=some (.ref q)/\σ[j]?=some (some (.ref q))
theorem AL.set{l:Nat}(h:AL σ H i j k)(hi:l≠i)(hj:l≠j):AL (σ.set l (some v)) H i j k:=by
 obtain⟨p,ep,xs,q,h1,h2,h3,h4⟩:=h
 exact⟨p,ep,xs,q,by rw[lW hi]; exact h1,h2,h3,by rw[lW hj]; exact h4⟩
theorem set_same {ρ:aX}{i:Nat}{x:Slot}(h:ρ[i]?=some x):ρ.set i x=ρ:=by
 apply OD
 intro j
 by_cases e:i=j
 ·subst e
  rw[nR (dD.mp h).1,h]
 ·rw[lW e]
end
section
variable {l:Nat}{k:aS}{fm:EF}{t:BF}{z:aC}{p3 p5 lp ap2 cp2 pos2 pos3 pos4:bR}
theorem Tz(h:lF i ρ=some kds):i<ρ.length:=(dD.mp (kF h)).1
end
section
variable {σ:St}
def vH (kds:List (aA×aA)):List (Option aI):=kds.map fun kd=>bP kd.1
theorem VB : ∀ {ds:List (aA×aA)} {xs:List (aI×V)} {Fs:List (List aD)},All3 (R1 K B H) ds xs Fs->vH ds=xs.map fun kv=>some kv.1
 | _,_,_,.nil=>rfl
 | (k0,d0)::ds,(k',v0)::xs,_,.cons h t=>by
  obtain⟨ek,_⟩:=h
  have ek:k0=kD k':=ek
  subst ek
  show bP (kD k')::vH ds=some k'::xs.map fun kv=>some kv.1
  rw[kY,VB t]
theorem UN : ∀ {xs:List (aI×V)},k∉xs.map (·.1)->(xs.map fun kv=>if kv.1=k then(kv.1,v) else kv)=xs
 | [],_=>rfl
 | x::xs,h=>by
  rw[dH,cY] at h
  rw[dH,if_neg (fun e=>h (.inl e.symm)),UN fun m=>h (.inr m)]
theorem UQ : ∀ {ds:List (aA×aA)} {xs:List (aI×V)} {Fs:List (List aD)},All3 (R1 K B H) ds xs Fs->(xs.map (·.1)).Nodup -> ∀ d,bW ds k=some d ->
  ∃ A f C,Fs=A++f::C /\ ∀ (B' H':Hp) (d':aA) (v':V) (f':List aD),Ext B B'->Afz K B' H' 1 d' v' f'->(∀ g∈A++C,∀ a∈g,H' a=H a)->All3 (R1 K B' H') (iI ds k d') (xs.map fun kv=>if kv.1=k then(kv.1,v') else kv) (A++f'::C)
 | _,_,_,.nil,_,d,e=>by simp[bW] at e
 | (k0,d0)::ds,(k',v0)::xs,f0::Fs,.cons h t,nd,d,e=>by
  obtain⟨ek,h⟩:=h
  have ek:k0=kD k':=ek
  subst ek
  rw[dH,jW] at nd
  rw[EI,kY] at e
  by_cases q:k'=k
  ·refine⟨[],f0,Fs,rfl,fun B' H' d' v' f' xb r kp=>?_⟩
   show All3 _ (if bP (kD k')=some k then(kD k',d')::ds else _) ((if k'=k then(k',v') else(k',v0))::xs.map fun kv=>if kv.1=k then(kv.1,v') else kv) _
   rw[if_pos (by rw[kY,q]),if_pos q,UN (by rw[← q]; exact nd.1)]
   exact .cons ⟨rfl,r⟩ (t.imp fun a b c m rr=>⟨rr.1,rr.2.keep xb (kp c (by simpa using m))⟩)
  ·rw[if_neg (fun z=>q (eY z))] at e
   obtain⟨A,f,C,rfl,up⟩:=UQ t nd.2 d e
   refine⟨f0::A,f,C,rfl,fun B' H' d' v' f' xb r kp=>?_⟩
   show All3 _ (if bP (kD k')=some k then(kD k',d')::ds else(kD k',d0)::iI ds k d') ((if k'=k then(k',v') else(k',v0))::xs.map fun kv=>if kv.1=k then(kv.1,v') else kv) _
   rw[if_neg (by rw[kY]; exact fun z=>q (eY z)),if_neg q]
   exact .cons ⟨rfl,h.keep xb (kp f0 (by simp))⟩ (up B' H' d' v' f' xb r fun g m=>kp g (by rw[rW]; exact bT _ m))
theorem Sta.oldKey{d0:aA}(S:Sta K H0 P0 B0 ρ σ H fp)(e:ρ[i]?=some (some (2,.dict ds)))(hnd:(vH ds).Nodup)(hk:bW ds k=some d0)(r:Afz K (L2.hid H (Hd P0 fp)) H 1 d v (fp ρ.length)) : ∃ p ep xs,σ[i]?=some (some (.ref p))/\H p=some (.dK ep xs)/\xs.length=ds.length /\
  ∀ n,∃ fp',Sta K H0 P0 B0 (ρ.set i (some (2,.dict (iI ds k d)))) σ (upd H p (.dK n (putK xs k v))) fp':=by
 obtain⟨p,ep,xs,Fs,h1,h2,h3,h4⟩:=S.dic2 e
 have hi:=(dD.mp e).1
 refine⟨p,ep,xs,h1,h2,DU h4,fun n=>?_⟩
 have ndx:(xs.map (·.1)).Nodup:=by
  rw[VB h4,show(xs.map fun kv=>some kv.1)=(xs.map (·.1)).map some by rw[fM]; rfl] at hnd
  exact(NU.mp hnd).imp fun h e=>h (by rw[e])
 have nd:=S.nd i
 rw[h3,jW] at nd
 obtain⟨v0,f0,_,hv0,_⟩:=KJ h4 nd.2 _ hk
 have ep':putK xs k v=xs.map fun kv=>if kv.1=k then(kv.1,v) else kv:=by
  unfold putK
  rw[tU,hv0]
  rfl
 obtain⟨A,f,C,eF,up⟩:=UQ h4 ndx _ hk
 have mp:p∈fp i:=by rw[h3]; exact bO
 have sub : ∀ a,a∈(A++C).flatten->a∈Fs.flatten:=fun a m=>by
  rw[eF]
  simp only[uM,nU,fY] at m ⊢
  rcases m with m | m
  ·exact .inl m
  ·exact .inr (.inr m)
 have nl : ∀ a∈fp ρ.length,a∉fp i:=fun a m m2=>by
  have:=S.dj _ _ a m m2
  omega
 have mem : ∀ a,a∈p::(A++fp ρ.length::C).flatten↔a=p \/ a∈(A++C).flatten \/ a∈fp ρ.length:=fun a=>by
  simp only[cY,uM,nU,fY]
  constructor
  ·rintro(h | h | h | h)
   ·exact .inl h
   ·exact .inr (.inl (.inl h))
   ·exact .inr (.inr h)
   ·exact .inr (.inl (.inr h))
  ·rintro(h | (h | h) | h)
   ·exact .inl h
   ·exact .inr (.inl h)
   ·exact .inr (.inr (.inr h))
   ·exact .inr (.inr (.inl h))
 refine⟨fun j=>if j=i then p::(A++fp ρ.length::C).flatten else if j=ρ.length then [] else fp j,S.change hi h1 (fun j a b=>?_) (fun j a=>?_) ?_ (fun a m=>?_) (fun a na=>cP fun z=>na (by rw[show a=p from z]; exact mp)) (fun a m=>?_) fun xb=>?_⟩
 ·simp only[a,if_false]
  rw[if_neg (by omega)]
 ·have:j≠i:=by omega
  simp only[this,if_false]
  by_cases z:j=ρ.length
  ·rw[if_pos z]; exact .inl rfl
  ·rw[if_neg z]; exact .inr rfl
 ·simp only[if_true]
  have ndF:=nd.2
  rw[eF] at ndF
  simp only[uM,nU] at ndF ⊢
  have n1:=mQ.mp ndF
  have n2:=mQ.mp n1.2.1
  have pn : ∀ a,a∈A.flatten \/ a∈C.flatten->a≠p:=fun a m z=>nd.1 (by
   rw[← z]
   exact sub a (by simpa using m))
  refine jW.mpr ⟨fun m=>?_,mQ.mpr ⟨n1.1,mQ.mpr ⟨S.nd _,n2.2.1,fun a ha b hb z=>?_⟩,fun a ha b hb z=>?_⟩⟩
  ·rcases fY.mp m with m | m
   ·exact pn p (.inl m) rfl
   ·rcases fY.mp m with m | m
    ·exact nl p m mp
    ·exact pn p (.inr m) rfl
  ·subst z
   exact nl a ha (by rw[h3]; exact bT _ (sub a (by simp only[uM,fY]; exact .inr hb)))
  ·subst z
   rcases fY.mp hb with hb | hb
   ·exact nl a hb (by rw[h3]; exact bT _ (sub a (by simp only[uM,fY]; exact .inl ha)))
   ·exact n1.2.2 a ha a (fY.mpr (.inr hb)) rfl
 ·simp only[if_true] at m
  rcases(mem a).mp m with m | m | m
  ·exact⟨i,by rw[m]; exact mp,.inl rfl⟩
  ·exact⟨i,by rw[h3]; exact bT _ (sub a m),.inl rfl⟩
  ·refine⟨ρ.length,m,.inr ?_⟩
   have:ρ.length≠i:=by omega
   simp only[this,if_false,if_true]
 ·simp only[if_true] at m
  by_cases z:a=p
  ·subst z; exact .inr ⟨.inl (n,_),eO⟩
  ·rw[cP z]
   rcases(mem a).mp m with m | m | m
   ·exact absurd m z
   ·exact(S.own i a (by rw[h3]; exact bT _ (sub a m))).2
   ·exact(S.own _ a m).2
 ·simp only[if_true]
  rw[ep'] at xb ⊢
  refine⟨p,(n,xs.map fun kv=>if kv.1=k then(kv.1,v) else kv),A++fp ρ.length::C,rfl,eO,rfl,?_⟩
  refine up _ _ d v _ xb (Afz.keep xb (H':=upd H p (.dK n (xs.map fun kv=>if kv.1=k then(kv.1,v) else kv))) (fun a m=>cP fun z=>nl a m (by rw[show a=p from z]; exact mp)) r) fun g mg a ma=>cP fun z=>nd.1 ?_
  have z:a=p:=z
  rw[← z]
  exact sub a (lC.mpr ⟨g,mg,ma⟩)
end
section
variable {k:aS}
def tP (i:Nat)(m:Md)(f:EF)(mk:Md)(g:EF):SF:=fun ρ=>(eV 1 m f ρ).bind fun d=>(lF i ρ).bind fun kds=>(eV 0 mk g ρ).bind fun k=>(bP k).bind fun k=>if ((bW kds k).isSome=true/\(vH kds).Nodup)/\kds.length<sizeLine then some (.nx (ρ.set i (some (2,.dict (iI kds k d))))) else none
theorem Xm (i:Nat)(m mk:Md)(hu:X.A.units+40<cLine)(he:DF 1 X e f)(hk:DE X k g)(hN:X.N[i]?=some x:=by rfl)(hv:hJ X.env.scope x:=by first | exact aP rfl | exact aQ (aP rfl) | exact aQ (aQ rfl))(hd:(x == ("__debug__" : aC))=false:=by decide)
  (hcd:(x == ("__classdict__" : aC))=false:=by decide) (hs:jU e (some (.Subscript (.Name x px) k apos)) pos.line X.env=pure false:=by rfl):DS X H0 P0 n0 (.Assign [.Subscript (.Name x px) k apos] e pos) (tP i m f mk g):=
 PS.imp (CK hu (jC hN hv hd hcd) hk (ev (H0:=H0) (P0:=P0) m he) hs) fun D σ H gh=>by
  obtain⟨B0,ρ,fp,o,S,ef,kk⟩:=gh
  obtain⟨d,e1,ef2⟩:=XBs ef
  obtain⟨kds,e2,ef3⟩:=XBs ef2
  obtain⟨kd,e3,ef4⟩:=XBs ef3
  obtain⟨key,e4,ef5⟩:=XBs ef4
  obtain⟨⟨⟨hn,hnd⟩,hl⟩,rfl⟩:=cN ef5
  obtain⟨d0,hn⟩:=FU.mp hn
  clear ef ef2 ef3 ef4
  refine⟨B0,ρ,fp,d,S,e1,fun v H2 gh=>?_⟩
  obtain⟨fp2,S2,r2⟩:=gh
  obtain⟨p,ep,xs,h1,h2,_,_⟩:=S2.oldKey (kF e2) hnd hn r2
  have hf:dB kd=true:=by rw[uA e4]; cases key <;> simp[kD,dB]
  refine⟨.ref p,h1,pE S2 e3 hf fun u H3 x3 r3=>?_⟩
  have S3:=S2.grow x3
  have r4:Afz X.K (hid H3 (Hd P0 fp2)) H3 1 d v (fp2 ρ.length):=r2.keep (cT x3) fun a m=>by
   rcases(S2.own _ a m).2 with⟨xs,e⟩ | ⟨xs,e⟩
   ·rw[e,x3 _ _ e]
   ·rw[e,x3 _ _ e]
  obtain⟨p3,ep3,xs3,q1,q2,q3,q4⟩:=S3.oldKey (kF e2) hnd hn r4
  have:p3=p:=by rw[h1] at q1; cases q1; rfl
  subst this
  refine⟨p3,_,rfl,.inl ⟨ep3,xs3,key,q2,kG e4 r3,by rw[q3]; exact hl,rfl⟩,fun n=>?_⟩
  obtain⟨fp',S4⟩:=q4 n
  exact kk _ _ fp' S4
def vD (i:Nat)(mk:Md)(g:EF)(m:Md)(f:EF):SF:=fun ρ=>(lF i ρ).bind fun kds=>(eV 0 mk g ρ).bind fun k=>(bP k).bind fun k=>(bW kds k).bind fun l=>match l with
 | .list es=>(eV 0 m f ρ).bind fun d=>if dB d=true/\es.length<sizeLine then some (.nx (ρ.set i (some (2,.dict (iI kds k (.list (es++[d]))))))) else none
 | _=>none
theorem Av (i:Nat)(mk m:Md)(hu:X.A.units+40<cLine)(hk:DE X k g)(he:DE X e f)(hN:X.N[i]?=some x:=by rfl)(hv:hJ X.env.scope x:=by first | exact aP rfl | exact aQ (aP rfl) | exact aQ (aQ rfl))(hd:(x == ("__debug__" : aC))=false:=by decide)
  (hcd:(x == ("__classdict__" : aC))=false:=by decide) (hns:BY k:=by exact fun _ _=>rfl) (hbase:lT (.Subscript (.Name x px) k spos) "append" X.env (bM (.Subscript (.Name x px) k spos) X.env)=bM (.Subscript (.Name x px) k spos) X.env:=by rfl)
  (hfew:((eW cpos (bK (e::[]) X.env)).all (fun x=>!x.1)&&(pX cpos (pS [] X.env)).all (fun x=>x.1.isSome)
   && decide ((e::[]).length+([]:List iG).length+(if ([]:List iG).isEmpty then 0 else 1)<30))=true:=by rfl)
  (hline:(apos.endLine == cpos.line)=true:=by rfl) (hs:bK (e::[]) X.env=(false,bM e X.env)::bK [] X.env:=by rfl) (hplain:(eW cpos (bK [] X.env)).any (·.1)=false:=by rfl)
  (hsw:jU (.Call (.Attribute (.Subscript (.Name x px) k spos) "append" apos) [e] [] cpos) none pos.line X.env=pure false:=by rfl):DS X H0 P0 n0 (.Expr (.Call (.Attribute (.Subscript (.Name x px) k spos) "append" apos) [e] [] cpos) pos) (vD i mk g m f):=
 PS.imp (yS (qK FS Yu Ys KM (CV hu (jC hN hv hd hcd) hk hns) (iR he lJ hs) hbase hfew hline hs hplain) hsw) fun D σ H gh=>by
  obtain⟨B0,ρ,fp,o,S,ef,kk⟩:=gh
  obtain⟨kds,e2,ef3⟩:=XBs ef
  obtain⟨kd,e3,ef4⟩:=XBs ef3
  obtain⟨key,e4,ef5⟩:=XBs ef4
  obtain⟨l,e5,ef6⟩:=XBs ef5
  clear ef ef3 ef4 ef5
  cases l with
  | list es=>
   obtain⟨d,e1,ef7⟩:=XBs ef6
   obtain⟨⟨hfd,lz⟩,rfl⟩:=cN ef7
   have hf:dB kd=true:=by rw[uA e4]; cases key <;> simp[kD,dB]
   obtain⟨p,ep,xs,q,ys,h1,h2,h3,h4,_,_⟩:=S.inner (kF e2) e5
   refine⟨.ref p,h1,pE S e3 hf fun u H2 x2 r2=>⟨p,.ref q,rfl,.inl ⟨ep,xs,key,.inl (x2 _ _ h2),kG e4 r2,h3.symm⟩,.inl ⟨rfl,ys,SqL.of (x2 _ _ h4)⟩,pE (S.grow x2) e1 hfd fun v H3 x3 r3=>?_⟩⟩
   have S3:=S.grow (x2.trans x3)
   obtain⟨p3,ep3,xs3,q3,ys3,g1,g2,g3,g4,g5,g6⟩:=S3.inner (kF e2) e5
   have ep':p3=p:=by rw[h1] at g1; cases g1; rfl
   subst ep'
   have ex:some (HO.dK ep3 xs3)=some (HO.dK ep xs):=g2.symm.trans (x3 _ _ (x2 _ _ h2))
   injection ex with ex
   injection ex with ex1 ex2
   subst ex2
   have eq':q3=q:=by
    have:=g3.symm.trans h3
    injection this with this
    injection this
   subst eq'
   exact⟨q3,ys3,v,rfl,rfl,g4,by rw[g5.length]; exact lz,kk _ _ fp (g6 _ _ (g5.snoc r3))⟩
  | _=>cases ef6
end
section
variable {k v:aS}{fc fv f2:EF}{pos' posB posC:bR}
def rO (i:Nat)(m2:Md)(f2:EF)(u:Int)(ρ:aX):Option Out:=(eV 0 m2 f2 ρ).bind fun w=>match w with
 | .int w=>if i<ρ.length then some (.nx (ρ.set i (some (0,.bool (decide (u=w)))))) else none
 | _=>none
def tJ (i:Nat)(mc:Md)(fc:EF)(j:Nat)(mk:Md)(fk:EF)(mv:Md)(fv:EF)(m2:Md)(f2:EF):SF:=fun ρ=>(eV 0 mc fc ρ).bind fun b=>match b with
 | .bool false=>if i<ρ.length then some (.nx (ρ.set i (some (0,.bool false)))) else none
 | .bool true=>(eV 0 mk fk ρ).bind fun kd=>(eV 0 mv fv ρ).bind fun d=>(bP kd).bind fun key=>(nL j ρ).bind fun kds=>match d with
  | .int n=>if kds.length<sizeLine then match bW kds key with
    | some (.int u)=>rO i m2 f2 u ρ
    | some _=>none
    | none=>rO i m2 f2 n (ρ.set j (some (1,.dict (putD kds key (.int n)))))
   else none
  | _=>none
 | _=>none
theorem SJ {m2:Md}{σ:St}{u:Int}{o:Out}{D:Ends}(S:Sta K H0 P0 B0 ρ σ H fp)(ef:rO i m2 f2 u ρ=some o)(kk:PY K H0 P0 B0 n0 D o) :
  tE K H0 P0 0 m2 f2 σ H fun z H2=>yB K false (.int u) z H2 fun b H3=>D.nx (σ.set i (some b)) H3:=by
 obtain⟨w,e1,ef⟩:=XBs ef
 cases w with
 | int w=>
  obtain⟨hl,rfl⟩:=cN ef
  refine⟨B0,ρ,fp,.int w,S,e1,fun v H2 gh=>?_⟩
  obtain⟨fp2,S2,r2⟩:=gh
  have ev:v = .int w:=Aan.mp r2.2
  subst ev
  refine⟨.int u,.int w,Aan.mpr rfl,Aan.mpr rfl,rfl,rfl,?_⟩
  have eb:(false != cJ (.int u) (.int w))=decide (u=w):=by
   have:cJ (.int u) (.int w)=decide (u=w):=by
    simp only[cJ]
    rfl
   rw[this]
   by_cases q:u=w <;> simp[q]
  rw[eb]
  have t:Tmp K H0 P0 B0 ρ σ 0 (.bool (decide (u=w))) (.bl (decide (u=w))) H2:=⟨fp2,S2,r2.1,Aay.mpr rfl⟩
  obtain⟨fp3,S3⟩:=t.set hl
  exact kk _ _ fp3 S3
 | _=>cases ef
theorem Vv (i j:Nat)(mc mk mv m2:Md)(hu:X.A.units+100<cLine)(hN:X.N.Nodup)(hi:X.N[i]?=some x)(hx:jY X.env.scope x)(hc:DE X c fc)(hk:DE X k fk)(hv:DE X v fv)(he:DE X e2 f2)(hj:X.N[j]?=some y:=by rfl)(hy:hJ X.env.scope y:=by first | exact aP rfl | exact aQ (aP rfl) | exact aQ (aQ rfl))(hd:(y == ("__debug__" : aC))=false:=by decide)
  (hcd:(y == ("__classdict__" : aC))=false:=by decide) (hbase:lT (.Name y p2) "setdefault" X.env (bM (.Name y p2) X.env)=bM (.Name y p2) X.env:=by rfl)
  (hfew:((eW cp (bK (k::[v]) X.env)).all (fun x=>!x.1)&&(pX cp (pS [] X.env)).all (fun x=>x.1.isSome)&&decide ((k::[v]).length+([]:List iG).length+(if ([]:List iG).isEmpty then 0 else 1)<30))=true:=by rfl)
  (hline:(ap.endLine == cp.line)=true:=by rfl) (hs:bK (k::[v]) X.env=(false,bM k X.env)::bK [v] X.env:=by rfl) (hs2:bK (v::[]) X.env=(false,bM v X.env)::bK [] X.env:=by rfl) (hplain:(eW cp (bK [v] X.env)).any (·.1)=false:=by rfl)
  (hm:uF .Eq e2=false:=by exact fE _)
  (hsw:jU (.BoolOp .And [c,.Compare (.Call (.Attribute (.Name y p2) "setdefault" ap) [k,v] [] cp) [.Eq] [e2] posC] posB) (some (.Name x pos')) pos.line X.env=pure false:=by rfl) (hf:X.fn x=true \/ X.env.scope.names.lookup x=some .local:=by first | exact .inl rfl | exact .inr rfl | assumption) :
  DS X H0 P0 n0 (.Assign [.Name x pos'] (.BoolOp .And [c,.Compare (.Call (.Attribute (.Name y p2) "setdefault" ap) [k,v] [] cp) [.Eq] [e2] posC] posB) pos) (tJ i mc fc j mk fk mv fv m2 f2):=
 PS.imp (HU hN hi hx (ZE (ev (H0:=H0) (P0:=P0) mc hc) (ZG (QV (lH hu) (qK NJ NI Bp KF (jC hj hy hd hcd) (iR (ev (H0:=H0) (P0:=P0) mk hk) (iR (ev (H0:=H0) (P0:=P0) mv hv) lJ hs2) hs) hbase hfew hline hs hplain) (ev (H0:=H0) (P0:=P0) m2 he) hm))) hsw hf) fun D σ H gh=>by
  obtain⟨B0,ρ,fp,o,S,ef,kk⟩:=gh
  obtain⟨b,e1,ef2⟩:=XBs ef
  refine⟨B0,ρ,fp,b,S,e1,fun w1 H1 t1=>?_⟩
  cases b with
  | bool b=>
   have ew:w1 = .bl b:=by
    obtain⟨_,_,r⟩:=t1
    exact Aay.mp r.2
   refine⟨b,ew,?_⟩
   cases b with
   | false=>
    refine nK ?_
    obtain⟨hl,rfl⟩:=cN ef2
    obtain⟨fp1,S1⟩:=t1.set hl
    rw[ew] at S1
    exact kk _ _ fp1 S1
   | true=>
    refine mU ?_
    obtain⟨fp,S1,_⟩:=t1
    obtain⟨kd,g1,ef3⟩:=XBs (show((eV 0 mk fk ρ).bind fun kd=>(eV 0 mv fv ρ).bind fun d=>(bP kd).bind fun key=>(nL j ρ).bind fun kds=>match d with
     | .int n=>if kds.length<sizeLine then match bW kds key with
      | some (.int u)=>rO i m2 f2 u ρ
      | some _=>none
      | none=>rO i m2 f2 n (ρ.set j (some (1,.dict (putD kds key (.int n)))))
      else none
     | _=>none)=some o from ef2)
    obtain⟨d,g2,ef4⟩:=XBs ef3
    obtain⟨key,g3,ef5⟩:=XBs ef4
    obtain⟨kds,g4,ef6⟩:=XBs ef5
    clear ef ef2 ef3 ef4 ef5
    cases d with
    | int n=>
     obtain⟨hz,ef7⟩:=yT ef6
     obtain⟨p,ep,xs,h1,h2,_,_⟩:=S1.dic1 (wN g4)
     refine⟨.ref p,h1,.inr (.inr (.inl ⟨rfl,.inl ⟨ep,xs,h2⟩⟩)),B0,ρ,fp,kd,S1,g1,fun v1 H2 gh=>?_⟩
     obtain⟨fp2,S2,r2⟩:=gh
     have ev1:v1=kV key:=kG g3 r2.2
     refine⟨B0,ρ,fp2,.int n,S2,g2,fun v2 H3 gh=>?_⟩
     obtain⟨fp3,S3,r3⟩:=gh
     have ev2:v2 = .int n:=Aan.mp r3.2
     subst ev1 ev2
     obtain⟨p3,ep3,xs3,q1,q2,q3,q4⟩:=S3.dic1 (wN g4)
     have:p3=p:=by rw[h1] at q1; cases q1; rfl
     subst this
     refine⟨p3,ep3,xs3,key,.int n,rfl,rfl,q2,by rw[q3.length]; exact hz,?_⟩
     rcases tZ (k:=key) q3 with⟨n1,n2⟩ | ⟨d',v',s1,s2,rd⟩
     ·refine .inr ⟨n2,fun m=>?_⟩
      rw[n1] at ef7
      exact SJ (q4 m _ _ (CJ (k:=key) (d:=.int n) (v:=.int n) q3 (Aan.mpr rfl))) ef7 kk
     ·refine .inl ⟨v',s2,?_⟩
      rw[s1] at ef7
      cases d' with
      | int u=>
       have:v' = .int u:=Aan.mp rd
       subst this
       exact SJ S3 ef7 kk
      | _=>cases ef7
    | _=>cases ef6
  | _=>cases ef2
end
section
theorem Im{σ:St}{mk:Md}{kd:aA}{key:aI}{es:List aA}{Q:VK}
  (S:Sta K H0 P0 B0 ρ σ H fp) (e2:lF i ρ=some kds) (e3:eV 0 mk g ρ=some kd) (e4:bP kd=some key) (hl:kds.length<sizeLine) (he:bW (sdK kds key) key=some (.list es))
  (kk : ∀ q H1 fp1 ys,Sta K H0 P0 B0 (ρ.set i (some (2,.dict (sdK kds key)))) σ H1 fp1->H1 q=some (.lst ys)->Aas K (L2.hid H1 (Hd P0 fp1)) es ys->Q (.ref q) H1) :
  tBM K "dict" Ao (OS i) (HS (tE K H0 P0 0 mk g) (HS (tE K H0 P0 1 .s (dP aM)) OZ)) σ H Q:=by
 obtain⟨p,ep,xs,Fs,h1,h2,_,_⟩:=S.dic2 (kF e2)
 have hi:i<ρ.length:=Tz e2
 refine⟨.ref p,h1,.inr (.inr (.inl ⟨rfl,.inl ⟨ep,xs,h2⟩⟩)),B0,ρ,fp,kd,S,e3,fun v1 H2 gh=>?_⟩
 obtain⟨fp2,S2,r2⟩:=gh
 have ev1:v1=kV key:=kG e4 r2.2
 subst ev1
 refine⟨B0,ρ,fp2,.list [],S2,rfl,fun v2 H3 gh=>?_⟩
 obtain⟨fp3,S3,r3⟩:=gh
 cases hlook:bW kds key with
 | none=>
  have esd:sdK kds key=kds++[(kD key,.list [])]:=by unfold sdK; rw[hlook]
  obtain⟨p3,ep3,xs3,q1,q2,q3,q4⟩:=S3.newKey (kF e2) hlook r3
  have:p3=p:=by rw[h1] at q1; cases q1; rfl
  subst this
  obtain⟨p4,ep4,xs4,Fs4,a1,a2,a3,a4⟩:=S3.dic2 (kF e2)
  have e1:p4=p3:=by rw[q1] at a1; cases a1; rfl
  subst e1
  have ex:some (HO.dK ep4 xs4)=some (HO.dK ep3 xs3):=a2.symm.trans q2
  injection ex with ex
  injection ex with _ ex
  subst ex
  have vn:=KO a4 hlook
  refine⟨p4,ep3,xs4,key,v2,rfl,rfl,q2,by rw[q3]; exact hl,.inr ⟨vn,fun n=>?_⟩⟩
  obtain⟨fp',S4⟩:=q4 n
  rw[← esd] at S4
  obtain⟨q0,_,_,rfl,_⟩:=r3
  obtain⟨p5,ep5,xs5,q5,ys5,b1,b2,b3,b4,b5,_⟩:=S4.inner (nR hi) he
  have e5:p5=p4:=by rw[q1] at b1; cases b1; rfl
  subst e5
  have ex5:some (HO.dK ep5 xs5)=some (HO.dK n (putK xs4 key (.ref q0))):=b2.symm.trans eO
  injection ex5 with ex5
  injection ex5 with _ ex5
  rw[ex5,Vm,if_pos rfl] at b3
  cases b3
  exact kk _ _ fp' ys5 S4 b4 b5
 | some d=>
  have esd:sdK kds key=kds:=by unfold sdK; rw[hlook]
  rw[esd] at he kk
  obtain⟨p3,ep3,xs3,q,ys,g1,g2,g3,g4,g5,_⟩:=S3.inner (kF e2) he
  have:p3=p:=by rw[h1] at g1; cases g1; rfl
  subst this
  obtain⟨p4,ep4,xs4,Fs4,a1,a2,a3,a4⟩:=S3.dic2 (kF e2)
  have e1:p4=p3:=by rw[g1] at a1; cases a1; rfl
  subst e1
  have ex:some (HO.dK ep4 xs4)=some (HO.dK ep3 xs3):=a2.symm.trans g2
  injection ex with ex
  injection ex with _ ex
  subst ex
  refine⟨p4,ep3,xs4,key,v2,rfl,rfl,g2,by rw[DU a4]; exact hl,.inl ⟨.ref q,g3,?_⟩⟩
  rw[set_same (kF e2)] at kk
  exact kk q H3 fp3 ys S3 g4 g5
variable {k e0 c2:aS}{f0:EF}{t2:BF}{lp posB posC:bR}{body:List bZ}{F:SF}
def tH (i:Nat)(m0:Md)(f0:EF)(mk:Md)(g:EF)(m2:Md)(t2:BF)(F:SF):SF:=fun ρ=>(eV 0 m0 f0 ρ).bind fun d=>(lF i ρ).bind fun kds=>(eV 0 mk g ρ).bind fun kd=>(bP kd).bind fun key=>
 match bW (sdK kds key) key with
 | some (.list es)=>if kds.length<sizeLine/\(dE d&&noDicts es)=true then
   if (es.any fun z=>cJ z d)=true then some (.nx (ρ.set i (some (2,.dict (sdK kds key)))))
   else(bV m2 t2 (ρ.set i (some (2,.dict (sdK kds key))))).bind fun b=>if b=true then F (ρ.set i (some (2,.dict (sdK kds key)))) else some (.nx (ρ.set i (some (2,.dict (sdK kds key)))))
  else none
 | _=>none
theorem SU (i:Nat)(m0 mk m2:Md)(hu:X.A.units+100<cLine)(he:DE X e0 f0)(hk:DE X k g)(hc:DT X c2 t2)(ha:DSs X H0 P0 n0 body F)(hi:X.N[i]?=some x:=by rfl)
  (hx:hJ X.env.scope x:=by first | exact aP rfl | exact aQ (aP rfl) | exact aQ (aQ rfl)) (hd:(x == ("__debug__" : aC))=false:=by decide) (hcd:(x == ("__classdict__" : aC))=false:=by decide)
  (hbase:lT (.Name x p2) "setdefault" X.env (bM (.Name x p2) X.env)=bM (.Name x p2) X.env:=by rfl)
  (hfew:((eW cp (bK (k::[.List [] lp]) X.env)).all (fun x=>!x.1)&&(pX cp (pS [] X.env)).all (fun x=>x.1.isSome)&&decide ((k::[Expr.List [] lp]).length+([]:List iG).length+(if ([]:List iG).isEmpty then 0 else 1)<30))=true:=by rfl)
  (hline:(ap.endLine == cp.line)=true:=by rfl) (hs:bK (k::[.List [] lp]) X.env=(false,bM k X.env)::bK [.List [] lp] X.env:=by rfl) (hs2:bK (.List [] lp::[]) X.env=(false,bM (.List [] lp) X.env)::bK [] X.env:=by rfl) (hplain:(eW cp (bK [.List [] lp] X.env)).any (·.1)=false:=by rfl)
  (hm:uF .NotIn (.Call (.Attribute (.Name x p2) "setdefault" ap) [k,.List [] lp] [] cp)=false:=by with_unfolding_all rfl) :
  DS X H0 P0 n0 (.If (.BoolOp .And [.Compare e0 [.NotIn] [.Call (.Attribute (.Name x p2) "setdefault" ap) [k,.List [] lp] [] cp] posC,c2] posB) body [] pos) (tH i m0 f0 mk g m2 t2 F):=
 PS.imp (PP (ZH (Ax (Ob hu) (ev (H0:=H0) (P0:=P0) m0 he) (qK NJ NI Bp KF (jC hi hx hd hcd) (iR (ev (H0:=H0) (P0:=P0) mk hk) (iR (ev (H0:=H0) (P0:=P0) (n:=1) .s (fQ aR)) lJ hs2) hs) hbase hfew hline hs hplain) hm) (Ar (evB (H0:=H0) (P0:=P0) m2 hc))).pt ha ZZ) fun D σ H gh=>by
  obtain⟨B0,ρ,fp,o,S,ef,kk⟩:=gh
  obtain⟨d,g0,ef⟩:=XBs ef
  obtain⟨kds,g1,ef⟩:=XBs ef
  obtain⟨kd,g2,ef⟩:=XBs ef
  obtain⟨key,g3,ef⟩:=XBs ef
  split at ef
  ·rename_i es hes
   obtain⟨⟨hl,hok⟩,ef⟩:=yT ef
   refine⟨B0,ρ,fp,d,S,g0,fun v0 H1 gh=>?_⟩
   obtain⟨fp1,S1,r1⟩:=gh
   have S1':=S1.rebase Ext.refl
   refine Im S1' g1 g2 g3 hl hes fun q H2 fp2 ys S2 hq rr=>?_
   have rv:Abq X.K H2 d v0:=(r1.2.ext S2.base).ext Aau
   have S3:=S2.rebase (S1.base.trans S2.base)
   have hok':=iH.mp hok
   refine⟨d,es,rv,.inl (Abk.mpr ⟨q,ys,rfl,SqL.of hq,rr.ext Aau⟩),hok'.1,hok'.2,_,rfl,?_⟩
   by_cases hb:(es.any fun z=>cJ z d)=true
   ·rw[if_pos hb] at ef
    cases ef
    rw[hb]
    refine nK ?_
    exact kk _ _ fp2 S3
   ·rw[if_neg hb] at ef
    rw[Bool.eq_false_iff.mpr hb]
    refine mU ?_
    obtain⟨b,g4,ef⟩:=XBs ef
    refine⟨B0,_,fp2,b,S3,g4,fun H4 S4=>?_⟩
    cases b with
    | true=>
     refine mU ?_
     exact⟨B0,_,fp2,o,S4,ef,kk⟩
    | false=>
     refine nK ?_
     cases ef
     exact kk _ _ fp2 S4
  ·cases ef
end
open PySem PySem.W PySem.Calls PyProof.Rows Att
def yI (ns:List Int):Prop:=∀ x∈ns,mT x≤1048576
theorem weigh : ∀ {ns:List Int} {x:Int},x∈ns->mT x≤WData.weightAll (ns.map WData.int)
 | n::ns,x,m=>by
  rw[dH,WData.weightAll]
  have e:WData.weight (.int n)=mT n:=by
   rw[WData.weight]
   rfl
  rcases cY.mp m with rfl | m
  ·rw[e]; omega
  ·have:=weigh m
   omega
theorem Vy {ns:List Int}(h:WData.layableAll [WData.list (ns.map WData.int)]=true):yI ns:=fun x m=>by
 have h1:WData.layable (.list (ns.map .int))=true:=by simpa [WData.layableAll] using h
 have h2:WData.weight (.list (ns.map WData.int))≤2 ^ 20:=of_decide_eq_true (iH.mp h1).2
 rw[WData.weight] at h2
 have:=weigh m
 omega
theorem Rz {l:OpenLaw}{q:cB}{loose:List aC}{XP:(aC->Option aE)->aY->Prop}{YP:bN->aY->Prop}{d:DefRec}
  (hn:l.most=some n) (hdf:d.params.defaults=[])
  (call : ∀ (w:bN) (s₀ s₁:aJ) (mg mb:aC->Option aE) (fa:aD) (o:bG) (pm cd doc:aE) (a:aD) (vs:List aE) (ns:List Int),
   yI ns->Ground q loose [] XP w s₀ mg mb s₁.heap->YP w s₁.heap ->
   s₁.heap.get? fa=some o->o.data = .func (docDef d.name d.params d.body d.scope pm cd doc)->s₁.heap.CodeRec cd d.name->mg d.name=some (.ref fa) ->
   s₁.heap.get? a=some { cls:=.type "list",data:=.seq vs.toArray }->IntsAre vs ns->ns.length≤n->s₁.gens = #[] ->
   pW (aW l.prog w) xM (.call (.ref fa) ⟨[.ref a],[]⟩) (fun r s'=>r = .ok (.ret (.bool true))/\OldK s₁.heap s'.heap/\s'.os=s₁.os/\sA s'.gens) s₁) :
  WalkO q loose XP YP l.row.toRowW d [] (fun f vs=>PySem.call f vs):=by
 intro w s₀ s₁ mg mb G Y fa o pm cd doc dV kV ho hd hcd hD hmg hg args vals as hpre hlay hrd hwl hlo
 obtain rfl:dV = .none:=Dflts.none hD hdf
 obtain rfl:kV = .none:=Dflts.noKw hD
 obtain⟨a,vs,ns,rfl,rfl,hobj,hints,hlen⟩:=Nr hn hpre hwl
 refine enter_call (codeAny_mono (call w s₀ s₁ mg mb fa o pm cd doc a vs ns (Vy hlay) G Y ho (fd_plain hd) hcd hmg hobj hints hlen hg) fun r s' hq=>?_)
 obtain⟨rfl,h2,h3,h4⟩:=hq
 exact⟨.inl ⟨.bool true,.bool true,[],rfl,fun _=>rfl,.bool true,Wz l _,fun _=>⟨List.Pairwise.nil,fun _ hm=>(nomatch hm)⟩⟩,h2,h3,h4⟩
theorem A8g {l:Bo}{k:Nat}{q:cB}{loose:List aC}{XP:(aC->Option aE)->aY->Prop}{YP:bN->aY->Prop}{d:DefRec}{K:Params->aK}{CX:bN->CXT}{sp:bN->Sp}
  (hn:l.most=some n) (hn2:n≤sizeLine) (hdf:d.params.defaults=[]) (hr:Room k xM)
  (hY : ∀ (w:bN) (h:aY),YP w h->(K w.params).In h)
  (F : ∀ (w:bN) (mg:aC->Option aE) (fa:aD) (h:aY),(K w.params).In h->h.Ns dW mg->mg d.name=some (.ref fa) ->
   ∃ fd:hE,(∀ (s:aJ) (u:aE),BindsTo s fd ⟨[u],[]⟩ [(x,u)]) /\
    ∀ base:aY,(K w.params).In base->base.Ns dW mg->FnOk l.prog w (K w.params) mg base (CX w) k fa fd [x] (sp w))
  (hsp : ∀ (w:bN) (H:Hp) (a:aD) (ns:List Int),yI ns->ns.length≤n->Only H->SqL (K w.params) H a (ns.map V.int)->sp w [.ref a] H (fun v _=>v = .bl true) fun _ _ _=>False)
  (hCX : ∀ (w:bN) (H:Hp) (s:aJ) (e:aE) (s':aJ),CX w [] H s (fun _ _ _=>False) e s'->False) :
  PySem.W.WalkO q loose XP YP l.row.toRowW d [] (fun f vs=>PySem.call f vs):=by
 refine Rz hn hdf fun w s₀ s₁ mg mb fa o pm cd doc a vs ns hB G Y ho hd hcd hmg hobj hints hlen hg=>?_
 have KX:=hY w _ Y
 obtain⟨fd,hb,hF⟩:=F w mg fa _ KX G.T.g hmg
 exact Vc KX G.T.g G.T.b G.T.builtins G.T.nolimit hg hobj hints (dS hlen hn2) hr hF hb (fun H hO hS=>hsp w H a ns hB hlen hO hS) fun H e s'=>hCX w H s₁ e s'
def kQ:aA->aA->Option aA:=g2C (fun i j=>(i.natAbs<2 ^ 64 \/ j.natAbs<2 ^ 64) \/ mT i+mT j≤134217728) fun i j=>.int (i*j)
section
variable {a b:aS}{fa fb:EF}
theorem Ng:OpR X (kK .Mult) (rI (fun i j=>(i.natAbs<2 ^ 64 \/ j.natAbs<2 ^ 64) \/ mT i+mT j≤134217728) fun i j=>.int (i*j)):=by
 intro pins s σ H x y v u Q I rx ry ⟨i,j,ex,ey,hc,q⟩
 rcases hc with hc | hc
 ·exact WE pins s σ H x y v u Q I rx ry ⟨i,j,ex,ey,.inl hc,q⟩
 ·exact opI (fun i j _ _ _ _ _ hc q=>mul_int q (Yw (bI _) (bI _) hc)) pins s σ H x y v u Q I rx ry ⟨i,j,ex,ey,hc,q⟩
theorem tN (ha:DE X a fa)(hb:DE X b fb):DE X (.BinOp a .Mult b pos) (eOp kQ fa fb):=pC Ng (AO (fun _ _ h=>h) fun _ _ _=>Aan.mpr rfl) ha hb
end
end L2
namespace Aw
open PySem L2
def top (i:Nat):bZ:=PySem.Challenge.pw_askwithin_k29_matches_counted.main.body.getD i (.Pass ⟨0,0,0,0⟩)
abbrev LA:bZ:=top 4
abbrev Pg:List aC:=["lines","names","line","term"]
abbrev wY:List aC:=["lines"]
theorem Amm:FnScope Pg wY (bY LA):=⟨rfl,rfl,rfl,by decide +kernel,rfl,by decide +kernel,by decide +kernel⟩
abbrev DY:bZ:=top 5
abbrev SI:List aC:=["terms","known"]
abbrev wF:List aC:=["terms","known"]
theorem Aq1:FnScope SI wF (bY DY):=⟨rfl,rfl,rfl,by decide +kernel,rfl,by decide +kernel,by decide +kernel⟩
abbrev DZ:bZ:=top 7
abbrev TH:List aC:=["lines","k","elsewhere"]
abbrev zH:List aC:=["lines","k"]
theorem Ar8:FnScope TH zH (bY DZ):=⟨rfl,rfl,rfl,by decide +kernel,rfl,by decide +kernel,by decide +kernel⟩
abbrev AC:bZ:=top 8
abbrev LI:List aC:=["lines","left","k","wanted","j"]
abbrev zQ:List aC:=["lines","left","k"]
theorem Akq:FnScope LI zQ (bY AC):=⟨rfl,rfl,rfl,by decide +kernel,rfl,by decide +kernel,by decide +kernel⟩
abbrev LN:bZ:=top 9
abbrev Qo:List aC:=["lines","left","k","parent"]
abbrev zZ:List aC:=["lines","left"]
theorem Akl:FnScope Qo zZ (bY LN):=⟨rfl,rfl,rfl,by decide +kernel,rfl,by decide +kernel,by decide +kernel⟩
abbrev MN:bZ:=top 10
abbrev Io:List aC:=["lines","taken","left","ear"]
abbrev qR:List aC:=["lines"]
theorem Az6:FnScope Io qR (bY MN):=⟨rfl,rfl,rfl,by decide +kernel,rfl,by decide +kernel,by decide +kernel⟩
abbrev MJ:bZ:=top 11
abbrev Jk:List aC:=["lines","rest"]
abbrev yK:List aC:=["lines"]
theorem Azm:FnScope Jk yK (bY MJ):=⟨rfl,rfl,rfl,by decide +kernel,rfl,by decide +kernel,by decide +kernel⟩
abbrev HX:bZ:=top 14
abbrev Gj:List aC:=["line","row","known","found","term","number","wanted"]
abbrev sX:List aC:=["line","row","known"]
theorem Ay0:FnScope Gj sX (bY HX):=⟨rfl,rfl,rfl,by decide +kernel,rfl,by decide +kernel,by decide +kernel⟩
abbrev KC:bZ:=top 15
abbrev Ov:List aC:=["book","line"]
abbrev wJ:List aC:=["book","line"]
theorem An2:FnScope Ov wJ (bY KC):=⟨rfl,rfl,rfl,by decide +kernel,rfl,by decide +kernel,by decide +kernel⟩
abbrev KI:bZ:=top 16
abbrev Yj:List aC:=["rows","number","own"]
abbrev zL:List aC:=["rows"]
theorem Aoe:FnScope Yj zL (bY KI):=⟨rfl,rfl,rfl,by decide +kernel,rfl,by decide +kernel,by decide +kernel⟩
abbrev LZ:bZ:=top 17
abbrev Sj:List aC:=["rows"]
abbrev AE:List aC:=["rows"]
theorem Aic:FnScope Sj AE (bY LZ):=⟨rfl,rfl,rfl,by decide +kernel,rfl,by decide +kernel,by decide +kernel⟩
abbrev ET:bZ:=top 18
abbrev XZ:List aC:=["book","lines"]
abbrev AH:List aC:=["book","lines"]
theorem Aig:FnScope XZ AH (bY ET):=⟨rfl,rfl,rfl,by decide +kernel,rfl,by decide +kernel,by decide +kernel⟩
abbrev KZ:bZ:=top 19
abbrev Pd:List aC:=["found","line","rows","told","known","row","more"]
abbrev zU:List aC:=["found","line","rows"]
theorem Al9:FnScope Pd zU (bY KZ):=⟨rfl,rfl,rfl,by decide +kernel,rfl,by decide +kernel,by decide +kernel⟩
abbrev JU:bZ:=top 20
abbrev Vo:List aC:=["lines","rows","found","line","own"]
abbrev zG:List aC:=["lines","rows"]
theorem Asy:FnScope Vo zG (bY JU):=⟨rfl,rfl,rfl,by decide +kernel,rfl,by decide +kernel,by decide +kernel⟩
abbrev EB:bZ:=top 22
abbrev VA:List aC:=["book","line"]
abbrev zM:List aC:=["book","line"]
theorem Ans:FnScope VA zM (bY EB):=⟨rfl,rfl,rfl,by decide +kernel,rfl,by decide +kernel,by decide +kernel⟩
abbrev EU:bZ:=top 23
abbrev XX:List aC:=["book","lines"]
abbrev AG:List aC:=["book","lines"]
theorem Aih:FnScope XX AG (bY EU):=⟨rfl,rfl,rfl,by decide +kernel,rfl,by decide +kernel,by decide +kernel⟩
abbrev EV:bZ:=top 24
abbrev YE:List aC:=["book","lines"]
abbrev AI:List aC:=["book","lines"]
theorem Aie:FnScope YE AI (bY EV):=⟨rfl,rfl,rfl,by decide +kernel,rfl,by decide +kernel,by decide +kernel⟩
abbrev DM:bZ:=top 25
abbrev TJ:List aC:=["line","other"]
abbrev yY:List aC:=["line","other"]
theorem Aq2:FnScope TJ yY (bY DM):=⟨rfl,rfl,rfl,by decide +kernel,rfl,by decide +kernel,by decide +kernel⟩
abbrev JM:bZ:=top 26
abbrev Vf:List aC:=["line","row","names"]
abbrev wG:List aC:=["line","row","names"]
theorem Arf:FnScope Vf wG (bY JM):=⟨rfl,rfl,rfl,by decide +kernel,rfl,by decide +kernel,by decide +kernel⟩
abbrev zT:bZ:=top 27
abbrev LQ:List aC:=["lines","kept","rest"]
abbrev zR:List aC:=["lines","kept"]
theorem Ak0:FnScope LQ zR (bY zT):=⟨rfl,rfl,rfl,by decide +kernel,rfl,by decide +kernel,by decide +kernel⟩
abbrev JE:bZ:=top 28
abbrev Wl:List aC:=["line","counts","names","sums","row","number","key"]
abbrev yZ:List aC:=["line","counts","names"]
theorem Aqm:FnScope Wl yZ (bY JE):=⟨rfl,rfl,rfl,by decide +kernel,rfl,by decide +kernel,by decide +kernel⟩
abbrev CP:bZ:=top 29
abbrev ZR:List aC:=["line","counts","names","sums"]
abbrev yU:List aC:=["line","counts","names","sums"]
theorem Aws:FnScope ZR yU (bY CP):=⟨rfl,rfl,rfl,by decide +kernel,rfl,by decide +kernel,by decide +kernel⟩
abbrev AK:bZ:=top 30
abbrev ME:List aC:=["lines","kept","told","ear","parent","names"]
abbrev AJ:List aC:=["lines","kept"]
theorem Agx:FnScope ME AJ (bY AK):=⟨rfl,rfl,rfl,by decide +kernel,rfl,by decide +kernel,by decide +kernel⟩
abbrev MM:bZ:=top 31
abbrev Ia:List aC:=["book","lines","counts","rest","total","known","number","k"]
abbrev yH:List aC:=["book","lines"]
theorem A3d:FnScope Ia yH (bY MM):=⟨rfl,rfl,rfl,by decide +kernel,rfl,by decide +kernel,by decide +kernel⟩
abbrev LK:bZ:=top 33
abbrev Qi:List aC:=["_law_script","_law_k"]
abbrev rD:List aC:=["_law_script","_law_k"]
theorem Akn:FnScope Qi rD (bY LK):=⟨rfl,rfl,rfl,by decide +kernel,rfl,by decide +kernel,by decide +kernel⟩
abbrev LO:bZ:=top 34
abbrev Rb:List aC:=["_law_cell_here","_law_k","_law_size","_law_number"]
abbrev AA:List aC:=["_law_cell_here","_law_k","_law_size"]
theorem Aky:FnScope Rb AA (bY LO):=⟨rfl,rfl,rfl,by decide +kernel,rfl,by decide +kernel,by decide +kernel⟩
abbrev LU:bZ:=top 35
abbrev Ra:List aC:=["_law_script","_law_k","_law_cell_here","_law_whole","_law_at"]
abbrev wQ:List aC:=["_law_script","_law_k"]
theorem Akw:FnScope Ra wQ (bY LU):=⟨rfl,rfl,rfl,by decide +kernel,rfl,by decide +kernel,by decide +kernel⟩
abbrev LL:bZ:=top 36
abbrev Ql:List aC:=["_law_kind","_law_k","_law_count"]
abbrev zY:List aC:=["_law_kind","_law_k","_law_count"]
theorem Ak2:FnScope Ql zY (bY LL):=⟨rfl,rfl,rfl,by decide +kernel,rfl,by decide +kernel,by decide +kernel⟩
abbrev LW:bZ:=top 37
abbrev Rw:List aC:=["_law_script","_law_first","_law_count","_law_lines_here","_law_k","_law_cell_here","_law_some_here","_law_terms","_law_j","_law_more","_law_own"]
abbrev zV:List aC:=["_law_script"]
theorem Ajw:FnScope Rw zV (bY LW):=⟨rfl,rfl,rfl,by decide +kernel,rfl,by decide +kernel,by decide +kernel⟩
abbrev AB:bZ:=top 38
abbrev LH:List aC:=["_law_script","_law_lines_here","_law_base","_law_values","_law_k","_law_book_here","_law_table","_law_terms","_law_row","_law_width","_law_cell_here"]
abbrev zX:List aC:=["_law_script","_law_lines_here"]
theorem Ak1:FnScope LH zX (bY AB):=⟨rfl,rfl,rfl,by decide +kernel,rfl,by decide +kernel,by decide +kernel⟩
abbrev MD:bZ:=top 39
abbrev Sv:List aC:=["_law_book_here","_law_lines_here","_law_found","_law_table","_law_terms","_law_longer","_law_known","_law_row","_law_more","_law_good","_law_term","_law_value"]
abbrev AD:List aC:=["_law_book_here","_law_lines_here"]
theorem Ahj:FnScope Sv AD (bY MD):=⟨rfl,rfl,rfl,by decide +kernel,rfl,by decide +kernel,by decide +kernel⟩
abbrev ER:bZ:=top 40
abbrev XW:List aC:=["_law_book_here","_law_lines_here","_law_kept","_law_found"]
abbrev zW:List aC:=["_law_book_here","_law_lines_here"]
theorem Ajf:FnScope XW zW (bY ER):=⟨rfl,rfl,rfl,by decide +kernel,rfl,by decide +kernel,by decide +kernel⟩
abbrev sU:bZ:=top 41
abbrev Fk:List aC:=["_law_script","_law_lines_here","_law_book_here"]
abbrev PQ:List aC:=["_law_script"]
theorem A8v:FnScope Fk PQ (bY sU):=⟨rfl,rfl,rfl,by decide +kernel,rfl,by decide +kernel,by decide +kernel⟩
structure Blt (mg:aC->Option aE):Prop where
 «isinstance» : mg "isinstance" = none
 «int» : mg "int" = none
 «bool» : mg "bool" = none
 «abs» : mg "abs" = none
 «range» : mg "range" = none
 «len» : mg "len" = none
 «str» : mg "str" = none
 «all» : mg "all" = none
 «any» : mg "any" = none
 «list» : mg "list" = none
 «tuple» : mg "tuple" = none
 «dict» : mg "dict" = none
 «set» : mg "set" = none
 «sorted» : mg "sorted" = none
 «sum» : mg "sum" = none
 «min» : mg "min" = none
 «max» : mg "max" = none
 «enumerate» : mg "enumerate" = none
 «zip» : mg "zip" = none
 «reversed» : mg "reversed" = none
 «ValueError» : mg "ValueError" = none
structure Cst (mg:aC->Option aE):Prop where
 MOST_WAYS : ∃ t,mg "MOST_WAYS" = some (.int 4096 t)
set_option maxHeartbeats 4000000
variable {P:cB}{w:bN}{K:aK}{mg:aC->Option aE}{base:aY}{f:aD}{fd:hE}
def Pb:SF:=(bA (bS 1 1 .s (eC (.dict [])))
 (bA (eE .s (iIt (aB 0)) (gNm 2) (eE .s (iIt (eOp gIx (aB 2) (eC (.int 1)))) (gNm 3) (sIf .s (bOf (eUn (fS "str") (aB 3))) (qP 1 .s (eC (.bool true)) .s (aB 3)) fC)))
 (lE 1 (cW 1 .s (aO HY (aG (aB 1) aM))))))
def pL:List aA->Option aA:=fnD 1 4 Pb
theorem Re (F:Fun K "names_of" "names_of" LA f fd)(B:Blt mg)(C:Cst mg):FnOk P w K mg base CX0 1 f fd wY (spF K 1 pL):=by
 have nd:=Amm.nd
 exact eM F Amm rfl (by decide) fun cdv A outer s H E P0 hr=>by
  have hu:=eK hr
  have hv:=eN hr
  exact(bH (cL (i:=1) 1 .s nd rfl (by first | exact aP rfl | exact aQ rfl) vX)
   (bH (hX fR rfl (eU (aF 0)) (jR (i:=2) nd rfl (by first | exact aP rfl | exact aQ rfl)) (bJ (hX fR rfl (eU (dJ hv (aF 2) bB (fun _ _=>rfl))) (jR (i:=3) nd rfl (by first | exact aP rfl | exact aQ rfl)) (bJ (fT .s (qV (yF (T:="str") rfl B.isinstance rfl B.str Bw (by decide) (aF 3))) (bJ (RB 1 .s .s hv EZ (aF 3))) gM)))))
   (qY 1 (bJ (dR .s (jS (Pq rfl) Rh rfl B.list PyProof.Rows.boot_list (aL (aF 1) aR)))))))
def Ug:SF:=(cW 0 .s (aO kU (aG (eLC [none,some 1] (iIt (aB 0)) (gB 0) dM (kB (aB 1) (aB 0) (aB 0))) aM)))
def oF:List aA->Option aA:=fnD 2 2 Ug
theorem Ol (F:Fun K "put_in" "put_in" DY f fd)(B:Blt mg)(C:Cst mg):FnOk P w K mg base CX0 1 f fd wF (spF K 0 oF):=by
 have nd:=Aq1.nd
 exact eM F Aq1 rfl (by decide) fun cdv A outer s H E P0 hr=>by
  have hu:=eK hr
  have hv:=eN hr
  exact(bJ (dR .s (jS rE rF rfl B.tuple uJ (aL (cU (n:=1) (iO rfl (iC (N:=["term","known"]) (cap:=[none,some 1]) (out:=(bY DY).names) (XN:=SI) rfl rfl (by decide +kernel) rfl) hU (eU (aF 0)) (fun cl C s₀ H₀ ex=>⟨jE (j:=0) (show(["term","known"]:List aC).Nodup by decide +kernel) rfl (aP rfl),jQ,(DD hv (aF 1) (aF 0) (aF 0))⟩))) aR))))
def Kh:SF:=(bA (sIf .s (bOf (eOp gNe (aO cV (aG (aB 1) aM)) (aO cV (aG (eOp gIx (aB 0) (eC (.int 1))) aM)))) (cW 1 .s (eC .none)) fC)
 (bA (bS 3 1 .s (aO FI (aG (aB 2) aM)))
 (bA (eE .s (iZ (aG (eOp gIx (aB 0) (eC (.int 1))) (aG (aB 1) aM))) (nZ 4 5) (bA (sSD 6 3 .s (bOf (eUn (fS "str") (aB 4))) .s (aB 4) .s (aB 5) .s (aB 4))
 (sIf .s (bOf (eOp gNe (aB 5) (aB 6))) (cW 1 .s (eC .none)) fC)))
 (kP 3 1))))
def mY:List aA->Option aA:=fnD 3 7 Kh
theorem Nh (F:Fun K "fits" "fits" HX f fd)(B:Blt mg)(C:Cst mg):FnOk P w K mg base CX0 1 f fd sX (spF K 1 mY):=by
 have nd:=Ay0.nd
 exact eM F Ay0 rfl (by decide) fun cdv A outer s H E P0 hr=>by
  have hu:=eK hr
  have hv:=eN hr
  exact(bH (fT .s (fI (MR hu) MP (fV iD iB rfl B.len iW (aL (aF 1) aR)) (fV iD iB rfl B.len iW (aL (dJ hv (aF 0) bB (fun _ _=>rfl)) aR)) (fE _)) (bJ (dR .s RS)) gM)
   (bH (cL (i:=3) 1 .s nd rfl (by first | exact aP rfl | exact aQ rfl) (jS WV WS rfl B.dict AY (aL (aF 2) aR)))
   (bH (hX fR rfl (MQ rfl B.zip (aL (dJ hv (aF 0) bB (fun _ _=>rfl)) (aL (aF 1) aR))) (qX (i:=4) (j:=5) rfl nd rfl rfl (by first | exact aP rfl | exact aQ rfl) (by first | exact aP rfl | exact aQ rfl)) (bH (Fp 6 3 .s .s .s .s nd (qV (yF (T:="str") rfl B.isinstance rfl B.str Bw (by decide) (aF 4))) (aF 4) (aF 5) (aF 4))
   (bJ (fT .s (fI (MR hu) MP (aF 5) (aF 6) (fE _)) (bJ (dR .s RS)) gM))))
   (bJ (CN 3)))))
def Xk:SF:=(cW 0 .s (kB (aB 0) (eOp gIx (aB 1) (eC (.int 0))) (dP aM)))
def mK:List aA->Option aA:=fnD 2 2 Xk
theorem Ph (F:Fun K "rows_of" "rows_of" KC f fd)(B:Blt mg)(C:Cst mg):FnOk P w K mg base CX0 1 f fd wJ (spF K 0 mK):=by
 have nd:=An2.nd
 exact eM F An2 rfl (by decide) fun cdv A outer s H E P0 hr=>by
  have hu:=eK hr
  have hv:=eN hr
  exact(bJ (dR .s (DD hv (aF 0) (dJ hv (aF 1) bB (fun _ _=>rfl)) (cU (n:=1) (fQ aR)))))
def Yq:SF:=(bA (bS 1 0 .s (eC (.int 1)))
 (bA (eE .s (iIt (aB 0)) (gNm 2) (bS 1 0 .s (eOp jZ (aB 1) (aO uT (aG (eC (.int 1)) (aG (aO cV (aG (aB 2) aM)) aM))))))
 (cW 0 .s (aB 1))))
def tX:List aA->Option aA:=fnD 1 3 Yq
theorem Os (F:Fun K "ways_of" "ways_of" KI f fd)(B:Blt mg)(C:Cst mg):FnOk P w K mg base CX0 1 f fd zL (spF K 0 tX):=by
 have nd:=Aoe.nd
 exact eM F Aoe rfl (by decide) fun cdv A outer s H E P0 hr=>by
  have hu:=eK hr
  have hv:=eN hr
  exact(bH (cL (i:=1) 0 .s nd rfl (by first | exact aP rfl | exact aQ rfl) bB)
   (bH (hX fR rfl (eU (aF 0)) (jR (i:=2) nd rfl (by first | exact aP rfl | exact aQ rfl)) (bJ (cL (i:=1) 0 .s nd rfl (by first | exact aP rfl | exact aQ rfl) (sY (aF 1) (fV (VP rfl) UL rfl B.max PyProof.Rows.boot_max (aL bB (aL (fV iD iB rfl B.len iW (aL (aF 2) aR)) aR)))))))
   (bJ (dR .s (aF 1)))))
def Qy:SF:=(bA (sIf .s (bOf (eOp gLt (aB 1) (aO cV (aG (aB 0) aM)))) (cW 0 .s (eOp gIx (aB 0) (aB 1))) fC)
 (bA (sIf .s (bOf (eOp gEq (aO cV (aG (aB 0) aM)) (eC (.int 0)))) (cW 0 .s (eOp dI (eOp kQ (eOp kQ (aB 1) (aB 1)) (eC (.int 7919))) (eC (.int 31)))) fC)
 (cW 0 .s (eOp dI (eOp kQ (eOp gIx (aB 0) (eOp eA (aB 1) (aO cV (aG (aB 0) aM)))) (eOp dI (aB 1) (eC (.int 2)))) (eOp kQ (eOp kQ (aB 1) (aB 1)) (eC (.int 69621)))))))
def gX:List aA->Option aA:=fnD 2 2 Qy
theorem Ro (F:Fun K "_law_cell" "_law_cell" LK f fd)(B:Blt mg)(C:Cst mg):FnOk P w K mg base CX0 1 f fd rD (spF K 0 gX):=by
 have nd:=Akn.nd
 exact eM F Akn rfl (by decide) fun cdv A outer s H E P0 hr=>by
  have hu:=eK hr
  have hv:=eN hr
  exact(bH (fT .s (fI (Bcr.or KL) IB (aF 1) (fV iD iB rfl B.len iW (aL (aF 0) aR)) (fE _)) (bJ (dR .s (dJ hv (aF 0) (aF 1) (fun _ _=>rfl)))) gM)
   (bH (fT .s (fI (lH hu) mE (fV iD iB rfl B.len iW (aL (aF 0) aR)) bB (fE _)) (bJ (dR .s (fA (tN (tN (aF 1) (aF 1)) bB) bB))) gM)
   (bJ (dR .s (fA (tN (dJ hv (aF 0) (fU (aF 1) (fV iD iB rfl B.len iW (aL (aF 0) aR))) (fun _ _=>rfl)) (fA (aF 1) bB)) (tN (tN (aF 1) (aF 1)) bB))))))
def Qr:SF:=(bA (bS 3 0 .s (eOp jZ (eOp dI (eOp dI (eOp eA (aB 0) (eC (.int 2147483629))) (eOp jZ (eC (.int 5)) (aB 1))) (eC (.int 1))) (eOp dI (eC (.int 48271)) (eOp jZ (aB 1) (aB 1)))))
 (cW 0 .s (eOp eA (eOp eA (eOp jZ (aB 3) (aB 3)) (eC (.int 2147483647))) (aB 2))))
def wR:List aA->Option aA:=fnD 3 4 Qr
theorem Ry (F:Fun K "_law_draw" "_law_draw" LO f fd)(B:Blt mg)(C:Cst mg):FnOk P w K mg base CX0 1 f fd AA (spF K 0 wR):=by
 have nd:=Aky.nd
 exact eM F Aky rfl (by decide) fun cdv A outer s H E P0 hr=>by
  have hu:=eK hr
  have hv:=eN hr
  exact(bH (cL (i:=3) 0 .s nd rfl (by first | exact aP rfl | exact aQ rfl) (sY (fA (fA (fU (aF 0) bB) (sY bB (aF 1))) bB) (fA bB (sY (aF 1) (aF 1)))))
   (bJ (dR .s (fU (fU (sY (aF 3) (aF 3)) bB) (aF 2)))))
def Rf:SF:=(bA (sIf .s (bOf (eOp gEq (aB 0) (eC (.int 1)))) (cW 1 .s (dP (aG (aB 1) (aG (eOp eA (eOp dI (aB 1) (eC (.int 1))) (aB 2)) aM)))) fC)
 (bA (sIf .s (bOf (eOp gEq (aB 0) (eC (.int 2)))) (cW 1 .s (dP (aG (aB 1) (aG (eOp dI (aB 1) (eC (.int 1))) aM)))) fC)
 (bA (sIf .s (bOf (eOp gEq (aB 0) (eC (.int 3)))) (cW 1 .s (dP (aG (eOp dI (aB 1) (eC (.int 1))) (aG (eC (.int 0)) aM)))) fC)
 (bA (sIf .s (bOf (eOp gEq (aB 0) (eC (.int 4)))) (cW 1 .s (dP (aG (eOp eA (aB 1) (eC (.int 3))) (aG (eOp gIx (dP (aG (eOp eA (eOp dI (aB 1) (eC (.int 1))) (eC (.int 3))) (aG (eC (.int 5)) aM))) (eOp kA (aB 1) (eC (.int 3)))) aM)))) fC)
 (bA (sIf .s (bOf (eOp gEq (aB 0) (eC (.int 5)))) (cW 1 .s (aO HZ (aG (eOp dI (aB 1) (eC (.int 1))) aM))) fC)
 (cW 1 .s (dP aM)))))))
def wU:List aA->Option aA:=fnD 3 3 Rf
theorem Rx (F:Fun K "_law_some" "_law_some" LL f fd)(B:Blt mg)(C:Cst mg):FnOk P w K mg base CX0 1 f fd zY (spF K 1 wU):=by
 have nd:=Ak2.nd
 exact eM F Ak2 rfl (by decide) fun cdv A outer s H E P0 hr=>by
  have hu:=eK hr
  have hv:=eN hr
  exact(bH (fT .s (fI (lH hu) mE (aF 0) bB (fE _)) (bJ (dR .s (fQ (aL (aF 1) (aL (fU (fA (aF 1) bB) (aF 2)) aR))))) gM)
   (bH (fT .s (fI (lH hu) mE (aF 0) bB (fE _)) (bJ (dR .s (fQ (aL (aF 1) (aL (fA (aF 1) bB) aR))))) gM)
   (bH (fT .s (fI (lH hu) mE (aF 0) bB (fE _)) (bJ (dR .s (fQ (aL (fA (aF 1) bB) (aL bB aR))))) gM)
   (bH (fT .s (fI (lH hu) mE (aF 0) bB (fE _)) (bJ (dR .s (fQ (aL (fU (aF 1) bB) (aL (dJ hv (cU (n:=1) (fQ (aL (fU (fA (aF 1) bB) bB) (aL bB aR)))) (qZ (aF 1) bB) (fun _ _=>rfl)) aR))))) gM)
   (bH (fT .s (fI (lH hu) mE (aF 0) bB (fE _)) (bJ (dR .s (TM rfl rfl B.list rfl B.range (fA (aF 1) bB)))) gM)
   (bJ (dR .s (fQ aR))))))))
def Sx:SF:=(bA (bS 2 0 .s (dP (aG (eC (.dict [])) aM)))
 (bA (eE .s (iIt (aB 1)) (nZ 3 4) (bA (bS 5 1 .s (dP aM))
 (bA (eE .s (iIt (aB 2)) (gNm 6) (eE .s (iIt (kB (aB 0) (aB 3) (dP aM))) (gNm 7) (bA (bS 8 1 .s (aO FI (aG (aB 6) aM)))
 (bA (bS 9 0 .s (eC (.bool true)))
 (bA (eE .s (iZ (aG (aB 4) (aG (aB 7) aM))) (nZ 10 11) (sIf .s (bOf (eUn (fS "str") (aB 10))) (tJ 9 .s (aB 9) 8 .s (aB 10) .s (aB 11) .s (aB 11)) (bS 9 0 .s (oI (aB 9) (eOp gEq (aB 10) (aB 11))))))
 (lE 8 (sIf .s (bOf (aB 9)) (iJ 5 .s (aB 8)) fC)))))))
 (lE 5 (bS 2 0 .s (aB 5))))))
 (cW 0 .s (aO cV (aG (aB 2) aM)))))
def xE:List aA->Option aA:=fnD 2 12 Sx
theorem Sz (F:Fun K "_law_choices" "_law_choices" MD f fd)(B:Blt mg)(C:Cst mg):FnOk P w K mg base CX0 1 f fd AD (spF K 0 xE):=by
 have nd:=Ahj.nd
 exact eM F Ahj rfl (by decide) fun cdv A outer s H E P0 hr=>by
  have hu:=eK hr
  have hv:=eN hr
  exact(bH (cL (i:=2) 0 .s nd rfl (by first | exact aP rfl | exact aQ rfl) (cU (n:=1) (fQ (aL (cU (n:=1) vX) aR))))
   (bH (hX fR rfl (eU (aF 1)) (qX (i:=3) (j:=4) rfl nd rfl rfl (by first | exact aP rfl | exact aQ rfl) (by first | exact aP rfl | exact aQ rfl)) (bH (cL (i:=5) 1 .s nd rfl (by first | exact aP rfl | exact aQ rfl) (fQ aR))
   (bH (hX fR rfl (eU (aF 2)) (jR (i:=6) nd rfl (by first | exact aP rfl | exact aQ rfl)) (bJ (hX fR rfl (eU (DD hv (aF 0) (aF 3) (cU (n:=1) (fQ aR)))) (jR (i:=7) nd rfl (by first | exact aP rfl | exact aQ rfl)) (bH (cL (i:=8) 1 .s nd rfl (by first | exact aP rfl | exact aQ rfl) (jS WV WS rfl B.dict AY (aL (aF 6) aR)))
   (bH (cL (i:=9) 0 .s nd rfl (by first | exact aP rfl | exact aQ rfl) EZ)
   (bH (hX fR rfl (MQ rfl B.zip (aL (aF 4) (aL (aF 7) aR))) (qX (i:=10) (j:=11) rfl nd rfl rfl (by first | exact aP rfl | exact aQ rfl) (by first | exact aP rfl | exact aQ rfl)) (bJ (fT .s (qV (yF (T:="str") rfl B.isinstance rfl B.str Bw (by decide) (aF 10))) (bJ (Vv 9 8 .s .s .s .s hu nd rfl (by first | exact aP rfl | exact aQ rfl) (aF 9) (aF 10) (aF 11) (aF 11))) (bJ (cL (i:=9) 0 .s nd rfl (by first | exact aP rfl | exact aQ rfl) (IA (aF 9) (HV (CF (lH hu) mE (aF 10) (aF 11) (fE _)))))))))
   (qY 8 (bJ (fT .s (qV (aF 9)) (bJ (wL 5 .s (aF 8))) gM)))))))))
   (qY 5 (bJ (cL (i:=2) 0 .s nd rfl (by first | exact aP rfl | exact aQ rfl) (aF 5)))))))
   (bJ (dR .s (fV iD iB rfl B.len iW (aL (aF 2) aR))))))
def Tn:SF:=(bA (bS 2 0 .s (aO pL (aG (eOp FB (sI (aB 0) oN (oS (aB 1))) (sI (aB 0) (oS (eOp dI (aB 1) (eC (.int 1)))) oN)) aM)))
 (cW 1 .s (eLC [none,some 2] (iIt (aO pL (aG (gA (aG (eOp gIx (aB 0) (aB 1)) aM)) aM))) (gB 0) (bOf (eOp (gIn false) (aB 0) (aB 1))) (aB 0))))
def wA:List aA->Option aA:=fnD 2 3 Tn
theorem Xy (F:Fun K "shared" "shared" DZ f fd)(B:Blt mg)(C:Cst mg)(D_names_of:Def P w K mg base "names_of" 1 wY (spF K 1 pL)):FnOk P w K mg base CX0 2 f fd zH (spF K 1 wA):=by
 have nd:=Ar8.nd
 exact eM F Ar8 rfl (by decide) fun cdv A outer s H E P0 hr=>by
  have hu:=eK hr
  have hv:=eN hr
  exact(bH (cL (i:=2) 0 .s nd rfl (by first | exact aP rfl | exact aQ rfl) (cU (n:=1) (cI D_names_of (hr.mono (by decide)) rfl (aL (Lg (MH (aF 0) vZ (vU (aF 1))) (MH (aF 0) (vU (fA (aF 1) bB)) vZ)) aR))))
   (bJ (dR .s (iO rfl (iC (N:=["name","elsewhere"]) (cap:=[none,some 2]) (out:=(bY DZ).names) (XN:=TH) rfl rfl (by decide +kernel) rfl) hU (eU (cU (n:=1) (cI D_names_of (hr.mono (by decide)) rfl (aL (mH (aL (dJ hv (aF 0) (aF 1) (fun _ _=>rfl)) aR)) aR)))) (fun cl C s₀ H₀ ex=>⟨jE (j:=0) (show(["name","elsewhere"]:List aC).Nodup by decide +kernel) rfl (aP rfl),IR (fI (JX hu) MI (aF 0) (aF 1) (by with_unfolding_all rfl)),(aF 0)⟩)))))
def MB:SF:=(sIf .s (bOf (eOp gGt (aO tX (aG (aB 0) aM)) (eC (.int 4096)))) sNo fC)
def xD:List aA->Option aA:=fnD 1 1 MB
theorem Sl (F:Fun K "refuse_rows" "refuse_rows" LZ f fd)(B:Blt mg)(C:Cst mg)(D_ways_of:Def P w K mg base "ways_of" 1 zL (spF K 0 tX)):FnOk P w K mg base CX0 2 f fd AE (spF K 0 xD):=by
 obtain⟨_,h_MOST_WAYS⟩:=C.MOST_WAYS
 have nd:=Aic.nd
 exact eM F Aic rfl (by decide) fun cdv A outer s H E P0 hr=>by
  have hu:=eK hr
  have hv:=eN hr
  exact(bJ (fT .s (fI FE CD (cI D_ways_of (hr.mono (by decide)) rfl (aL (aF 0) aR)) (Uh (i:=4096) rfl h_MOST_WAYS ⟨_,rfl⟩) (fE _)) (bJ Fq) gM))
def Pj:SF:=(bA (bS 3 1 .s (dP aM))
 (bA (eE .s (iIt (aB 0)) (gNm 4) (eE .s (iKR (aB 2)) (gNm 5) (bA (bS 6 0 .s (aO mY (aG (aB 1) (aG (aB 5) (aG (aB 4) aM)))))
 (sIf .s (bOf (eOp oB (aB 6) (eC .none))) (iJ 3 .s (aB 6)) fC))))
 (kP 3 1)))
def wZ:List aA->Option aA:=fnD 3 7 Pj
theorem Qh (F:Fun K "extended" "extended" KZ f fd)(B:Blt mg)(C:Cst mg)(D_fits:Def P w K mg base "fits" 1 sX (spF K 1 mY)):FnOk P w K mg base CX0 2 f fd zU (spF K 1 wZ):=by
 have nd:=Al9.nd
 exact eM F Al9 rfl (by decide) fun cdv A outer s H E P0 hr=>by
  have hu:=eK hr
  have hv:=eN hr
  exact(bH (cL (i:=3) 1 .s nd rfl (by first | exact aP rfl | exact aQ rfl) (fQ aR))
   (bH (hX fR rfl (eU (aF 0)) (jR (i:=4) nd rfl (by first | exact aP rfl | exact aQ rfl)) (bJ (hX fR rfl (Tt (aF 2)) (jR (i:=5) nd rfl (by first | exact aP rfl | exact aQ rfl)) (bH (cL (i:=6) 0 .s nd rfl (by first | exact aP rfl | exact aQ rfl) (cU (n:=1) (cI D_fits (hr.mono (by decide)) rfl (aL (aF 1) (aL (aF 5) (aL (aF 4) aR))))))
   (bJ (fT .s (fI DJ DX (aF 6) vL (fE _)) (bJ (wL 3 .s (aF 6))) gM))))))
   (bJ (CN 3))))
def Ww:SF:=(cW 1 .s (aO yJ (aG (eLC [none,some 1] (iIt (aO mK (aG (aB 0) (aG (aB 1) aM)))) (gB 0) (bOf (eOp oB (aO mY (aG (aB 1) (aG (aB 0) (aG (eC (.dict [])) aM)))) (eC .none))) (aB 0)) aM)))
def tY:List aA->Option aA:=fnD 2 2 Ww
theorem Pc (F:Fun K "fitting" "fitting" EB f fd)(B:Blt mg)(C:Cst mg)(D_fits:Def P w K mg base "fits" 1 sX (spF K 1 mY))(D_rows_of:Def P w K mg base "rows_of" 1 wJ (spF K 0 mK)):FnOk P w K mg base CX0 2 f fd zM (spF K 1 tY):=by
 have nd:=Ans.nd
 exact eM F Ans rfl (by decide) fun cdv A outer s H E P0 hr=>by
  have hu:=eK hr
  have hv:=eN hr
  exact(bJ (dR .s (fV Rr Qz rfl B.sorted PyProof.Rows.boot_sorted (aL (cU (n:=1) (iO rfl (iC (N:=["row","line"]) (cap:=[none,some 1]) (out:=(bY EB).names) (XN:=VA) rfl rfl (by decide +kernel) rfl) hU (eU (cI D_rows_of (hr.mono (by decide)) rfl (aL (aF 0) (aL (aF 1) aR)))) (fun cl C s₀ H₀ ex=>⟨jE (j:=0) (show(["row","line"]:List aC).Nodup by decide +kernel) rfl (aP rfl),IR (fI DJ DX (cU (n:=1) (cI D_fits (hr.mono (by decide)) rfl (aL (aF 1) (aL (aF 0) (aL (cU (n:=1) vX) aR))))) vL (fE _)),(aF 0)⟩))) aR))))
def Ue:SF:=(cW 1 .s (eLC [none,some 1] (iIt (aO pL (aG (gA (aG (aB 0) aM)) aM))) (gB 0) (bOf (eOp (gIn false) (aB 0) (eOp gIx (aB 1) (eC (.int 1))))) (aB 0)))
def wH:List aA->Option aA:=fnD 2 2 Ue
theorem Yk (F:Fun K "common" "common" DM f fd)(B:Blt mg)(C:Cst mg)(D_names_of:Def P w K mg base "names_of" 1 wY (spF K 1 pL)):FnOk P w K mg base CX0 2 f fd yY (spF K 1 wH):=by
 have nd:=Aq2.nd
 exact eM F Aq2 rfl (by decide) fun cdv A outer s H E P0 hr=>by
  have hu:=eK hr
  have hv:=eN hr
  exact(bJ (dR .s (iO rfl (iC (N:=["name","other"]) (cap:=[none,some 1]) (out:=(bY DM).names) (XN:=TJ) rfl rfl (by decide +kernel) rfl) hU (eU (cU (n:=1) (cI D_names_of (hr.mono (by decide)) rfl (aL (mH (aL (aF 0) aR)) aR)))) (fun cl C s₀ H₀ ex=>⟨jE (j:=0) (show(["name","other"]:List aC).Nodup by decide +kernel) rfl (aP rfl),IR (fI (JX hu) MI (aF 0) (dJ hv (aF 1) bB (fun _ _=>rfl)) (by with_unfolding_all rfl)),(aF 0)⟩))))
def Va:SF:=(cW 0 .s (aO oF (aG (aB 2) (aG (aO mY (aG (aB 0) (aG (aB 1) (aG (eC (.dict [])) aM)))) aM))))
def pK:List aA->Option aA:=fnD 3 3 Va
theorem Oe (F:Fun K "key_of" "key_of" JM f fd)(B:Blt mg)(C:Cst mg)(D_put_in:Def P w K mg base "put_in" 1 wF (spF K 0 oF))(D_fits:Def P w K mg base "fits" 1 sX (spF K 1 mY)):FnOk P w K mg base CX0 2 f fd wG (spF K 0 pK):=by
 have nd:=Arf.nd
 exact eM F Arf rfl (by decide) fun cdv A outer s H E P0 hr=>by
  have hu:=eK hr
  have hv:=eN hr
  exact(bJ (dR .s (cI D_put_in (hr.mono (by decide)) rfl (aL (aF 2) (aL (cU (n:=1) (cI D_fits (hr.mono (by decide)) rfl (aL (aF 0) (aL (aF 1) (aL (cU (n:=1) vX) aR))))) aR)))))
def Qe:SF:=(bA (bS 2 0 .s (aO gX (aG (aB 0) (aG (eC (.int 1)) aM))))
 (bA (bS 3 0 .s (eC (.str "cabbagefield")))
 (bA (sIf .s (bOf (eOp gEq (eOp eA (aB 2) (eC (.int 2))) (eC (.int 0)))) (cW 0 .s (eSl (aB 3) oN (oS (eOp dI (aB 1) (eC (.int 1)))))) fC)
 (bA (bS 4 0 .s (eOp eA (eOp kA (aB 2) (eC (.int 2))) (eC (.int 12))))
 (cW 0 .s (eOp dI (eOp dI (eSl (aB 3) oN (oS (aB 4))) (eOp gIx (eC (.str "cdefghijkl")) (aB 1))) (eSl (aB 3) (oS (eOp dI (aB 4) (eC (.int 1)))) oN)))))))
def oH:List aA->Option aA:=fnD 2 5 Qe
theorem Rn (F:Fun K "_law_name" "_law_name" LU f fd)(B:Blt mg)(C:Cst mg)(D__law_cell:Def P w K mg base "_law_cell" 1 rD (spF K 0 gX)):FnOk P w K mg base CX0 2 f fd wQ (spF K 0 oH):=by
 have nd:=Akw.nd
 exact eM F Akw rfl (by decide) fun cdv A outer s H E P0 hr=>by
  have hu:=eK hr
  have hv:=eN hr
  exact(bH (cL (i:=2) 0 .s nd rfl (by first | exact aP rfl | exact aQ rfl) (cI D__law_cell (hr.mono (by decide)) rfl (aL (aF 0) (aL bB aR))))
   (bH (cL (i:=3) 0 .s nd rfl (by first | exact aP rfl | exact aQ rfl) mG)
   (bH (fT .s (fI (lH hu) mE (fU (aF 2) bB) bB (fE _)) (bJ (dR .s (HL (aF 3) vZ (vU (fA (aF 1) bB))))) gM)
   (bH (cL (i:=4) 0 .s nd rfl (by first | exact aP rfl | exact aQ rfl) (fU (qZ (aF 2) bB) bB))
   (bJ (dR .s (fA (fA (HL (aF 3) vZ (vU (aF 4))) (dJ hv mG (aF 1) (fun _ _=>rfl))) (HL (aF 3) (vU (fA (aF 4) bB)) vZ))))))))
end Aw
namespace Aw
open PySem L2
set_option maxHeartbeats 4000000
variable {P:cB}{w:bN}{K:aK}{mg:aC->Option aE}{base:aY}{f:aD}{fd:hE}
def Qp:SF:=(bA (bS 3 0 .s (aO wA (aG (aO kU (aG (eLC [none,some 0] (iIt (aB 1)) (gB 0) dM (eOp gIx (aB 1) (aB 0))) aM)) (aG (eOp IV (aB 1) (aB 2)) aM))))
 (bA (eE .s (iIt (aB 1)) (gNm 4) (sIf .s (lX (bOf (eOp gNe (aB 4) (aB 2))) (bOf (aO yC (aG (eLC [none,some 0,some 4] (iIt (aB 3)) (gB 0) dM (eOp (gIn false) (aB 0) (eOp gIx (eOp gIx (aB 1) (aB 2)) (eC (.int 1))))) aM)))) (cW 0 .s (aB 4)) fC))
 (cW 0 .s (eC .none))))
def wX:List aA->Option aA:=fnD 3 5 Qp
theorem Ri (F:Fun K "parent_of" "parent_of" AC f fd)(B:Blt mg)(C:Cst mg)(D_shared:Def P w K mg base "shared" 2 zH (spF K 1 wA)):FnOk P w K mg base CX0 3 f fd zQ (spF K 0 wX):=by
 have nd:=Akq.nd
 exact eM F Akq rfl (by decide) fun cdv A outer s H E P0 hr=>by
  have hu:=eK hr
  have hv:=eN hr
  exact(bH (cL (i:=3) 0 .s nd rfl (by first | exact aP rfl | exact aQ rfl) (cU (n:=1) (cI D_shared (hr.mono (by decide)) rfl (aL (jS rE rF rfl B.tuple uJ (aL (cU (n:=1) (iO rfl (iC (N:=["j","lines"]) (cap:=[none,some 0]) (out:=(bY AC).names) (XN:=LI) rfl rfl (by decide +kernel) rfl) hU (eU (aF 1)) (fun cl C s₀ H₀ ex=>⟨jE (j:=0) (show(["j","lines"]:List aC).Nodup by decide +kernel) rfl (aP rfl),jQ,(dJ hv (aF 1) (aF 0) (fun _ _=>rfl))⟩))) aR)) (aL (Yg (aF 1) (aF 2)) aR)))))
   (bH (hX fR rfl (eU (aF 1)) (jR (i:=4) nd rfl (by first | exact aP rfl | exact aQ rfl)) (bJ (fT .s (HI (YQ (fI (MR hu) MP (aF 4) (aF 2) (fE _)) (ZS (qV (fV (Og rfl) Xw rfl B.all boot_all (aL (cU (n:=1) (iO rfl (iC (N:=["name","lines","j"]) (cap:=[none,some 0,some 4]) (out:=(bY AC).names) (XN:=LI) rfl rfl (by decide +kernel) rfl) hU (eU (aF 3)) (fun cl C s₀ H₀ ex=>⟨jE (j:=0) (show(["name","lines","j"]:List aC).Nodup by decide +kernel) rfl (aP rfl),jQ,(CF (JX hu) MI (aF 0) (dJ hv (dJ hv (aF 1) (aF 2) (fun _ _=>rfl)) bB (fun _ _=>rfl)) (by with_unfolding_all rfl))⟩))) aR)))))) (bJ (dR .s (aF 4))) gM)))
   (bJ (dR .s vL))))
def LY:SF:=(qO .s (aO xD (aG (eLC [none,some 0] (iIt (aB 1)) (gB 0) dM (aO mK (aG (aB 1) (aG (aB 0) aM)))) aM)))
def xC:List aA->Option aA:=fnD 2 2 LY
theorem Su (F:Fun K "refuse_ways" "refuse_ways" ET f fd)(B:Blt mg)(C:Cst mg)(D_rows_of:Def P w K mg base "rows_of" 1 wJ (spF K 0 mK))(D_refuse_rows:Def P w K mg base "refuse_rows" 2 AE (spF K 0 xD)):FnOk P w K mg base CX0 3 f fd AH (spF K 0 xC):=by
 have nd:=Aig.nd
 exact eM F Aig rfl (by decide) fun cdv A outer s H E P0 hr=>by
  have hu:=eK hr
  have hv:=eN hr
  exact(bJ (JB .s (cI D_refuse_rows (hr.mono (by decide)) rfl (aL (cU (n:=1) (iO rfl (iC (N:=["line","book"]) (cap:=[none,some 0]) (out:=(bY ET).names) (XN:=XZ) rfl rfl (by decide +kernel) rfl) hU (eU (aF 1)) (fun cl C s₀ H₀ ex=>⟨jE (j:=0) (show(["line","book"]:List aC).Nodup by decide +kernel) rfl (aP rfl),jQ,(cI D_rows_of (hr.mono (by decide)) rfl (aL (aF 1) (aL (aF 0) aR)))⟩))) aR))))
def Up:SF:=(bA (bS 2 0 .s (dP (aG (eC (.dict [])) aM)))
 (bA (eE .s (iZ (aG (aB 0) (aG (aB 1) aM))) (nZ 3 4) (bS 2 0 .s (aO wZ (aG (aB 2) (aG (aB 3) (aG (aB 4) aM))))))
 (cW 0 .s (aB 2))))
def wD:List aA->Option aA:=fnD 2 5 Up
theorem Xj (F:Fun K "walked" "walked" JU f fd)(B:Blt mg)(C:Cst mg)(D_extended:Def P w K mg base "extended" 2 zU (spF K 1 wZ)):FnOk P w K mg base CX0 3 f fd zG (spF K 0 wD):=by
 have nd:=Asy.nd
 exact eM F Asy rfl (by decide) fun cdv A outer s H E P0 hr=>by
  have hu:=eK hr
  have hv:=eN hr
  exact(bH (cL (i:=2) 0 .s nd rfl (by first | exact aP rfl | exact aQ rfl) (cU (n:=1) (fQ (aL (cU (n:=1) vX) aR))))
   (bH (hX fR rfl (MQ rfl B.zip (aL (aF 0) (aL (aF 1) aR))) (qX (i:=3) (j:=4) rfl nd rfl rfl (by first | exact aP rfl | exact aQ rfl) (by first | exact aP rfl | exact aQ rfl)) (bJ (cL (i:=2) 0 .s nd rfl (by first | exact aP rfl | exact aQ rfl) (cU (n:=1) (cI D_extended (hr.mono (by decide)) rfl (aL (aF 2) (aL (aF 3) (aL (aF 4) aR))))))))
   (bJ (dR .s (aF 2)))))
def Sd:SF:=(cW 1 .s (eLC [none,some 0] (iIt (aB 1)) (gB 0) dM (aO tY (aG (aB 1) (aG (aB 0) aM)))))
def uB:List aA->Option aA:=fnD 2 2 Sd
theorem So (F:Fun K "all_fitting" "all_fitting" EU f fd)(B:Blt mg)(C:Cst mg)(D_fitting:Def P w K mg base "fitting" 2 zM (spF K 1 tY)):FnOk P w K mg base CX0 3 f fd AG (spF K 1 uB):=by
 have nd:=Aih.nd
 exact eM F Aih rfl (by decide) fun cdv A outer s H E P0 hr=>by
  have hu:=eK hr
  have hv:=eN hr
  exact(bJ (dR .s (iO rfl (iC (N:=["line","book"]) (cap:=[none,some 0]) (out:=(bY EU).names) (XN:=XX) rfl rfl (by decide +kernel) rfl) hU (eU (aF 1)) (fun cl C s₀ H₀ ex=>⟨jE (j:=0) (show(["line","book"]:List aC).Nodup by decide +kernel) rfl (aP rfl),jQ,(cU (n:=1) (cI D_fitting (hr.mono (by decide)) rfl (aL (aF 1) (aL (aF 0) aR))))⟩))))
def Tj:SF:=(bA (bS 3 9 .s (eC (.dict [(.none,.none)])))
 (bA (eE .s (iDR (aB 1)) (nZ 4 5) (bA (bS 6 0 .s (aO pK (aG (aB 0) (aG (aB 4) (aG (aB 2) aM)))))
 (FK 3 .a (eOp dI (uZ (aB 3) (aB 6) (eC (.int 0))) (aB 5)) .s (aB 6))))
 (lE 3 (cW 0 .s (aB 3)))))
def wC:List aA->Option aA:=fnD 3 7 Tj
theorem Xs (F:Fun K "summed" "summed" JE f fd)(B:Blt mg)(C:Cst mg)(D_key_of:Def P w K mg base "key_of" 2 wG (spF K 0 pK)):FnOk P w K mg base CX0 3 f fd yZ (spF K 0 wC):=by
 have nd:=Aqm.nd
 exact eM F Aqm rfl (by decide) fun cdv A outer s H E P0 hr=>by
  have hu:=eK hr
  have hv:=eN hr
  exact(bH (cL (i:=3) 9 .s nd rfl (by first | exact aP rfl | exact aQ rfl) Uz)
   (bH (hX fR rfl (VW (aF 1)) (qX (i:=4) (j:=5) rfl nd rfl rfl (by first | exact aP rfl | exact aQ rfl) (by first | exact aP rfl | exact aQ rfl)) (bH (cL (i:=6) 0 .s nd rfl (by first | exact aP rfl | exact aQ rfl) (cI D_key_of (hr.mono (by decide)) rfl (aL (aF 0) (aL (aF 4) (aL (aF 2) aR)))))
   (bJ (Np 3 .a .s hv (fA (Am hv (aF 3) (aF 6) bB) (aF 5)) (aF 6)))))
   (qY 3 (bJ (dR .s (aF 3))))))
def Kr:SF:=(cW 0 .s (aO vY (aG (eLC [none,none,some 3,some 0,some 2] (iDR (aB 1)) (gB2 0 1) dM (gA (aG (aB 0) (aG (eOp kQ (aB 1) (uZ (aB 2) (aO pK (aG (aB 3) (aG (aB 0) (aG (aB 4) aM)))) (eC (.int 0)))) aM)))) aM)))
def vT:List aA->Option aA:=fnD 4 4 Kr
theorem Wb (F:Fun K "times" "times" CP f fd)(B:Blt mg)(C:Cst mg)(D_key_of:Def P w K mg base "key_of" 2 wG (spF K 0 pK)):FnOk P w K mg base CX0 3 f fd yU (spF K 0 vT):=by
 have nd:=Aws.nd
 exact eM F Aws rfl (by decide) fun cdv A outer s H E P0 hr=>by
  have hu:=eK hr
  have hv:=eN hr
  exact(bJ (dR .s (jS (MC hu rfl) LV rfl B.dict AY (aL (cU (n:=1) (iO rfl (iC (N:=["row","number","sums","line","names"]) (cap:=[none,none,some 3,some 0,some 2]) (out:=(bY CP).names) (XN:=ZR) rfl rfl (by decide +kernel) rfl) YK (VW (aF 1)) (fun cl C s₀ H₀ ex=>⟨SC (i:=0) (j:=1) rfl (show(["row","number","sums","line","names"]:List aC).Nodup by decide +kernel) rfl rfl (aP rfl) (aP rfl),jQ,(mH (aL (aF 0) (aL (tN (aF 1) (Am hv (aF 2) (cI D_key_of (hr.mono (by decide)) rfl (aL (aF 3) (aL (aF 0) (aL (aF 4) aR)))) bB)) aR)))⟩))) aR))))
def Rp:SF:=(bA (bS 1 0 .s (aO gX (aG (aB 0) (aG (eC (.int 0)) aM))))
 (bA (bS 2 0 .s (eOp eA (eOp kA (aB 1) (eC (.int 6))) (eC (.int 5))))
 (bA (bS 3 1 .s (dP aM))
 (bA (eE .s (iR1 (aG (aB 2) aM)) (gNm 4) (bA (bS 5 0 .s (aO gX (aG (aB 0) (aG (eOp dI (eC (.int 3)) (aB 4)) aM))))
 (bA (bS 6 0 .s (aO wU (aG (eOp eA (aB 1) (eC (.int 6))) (aG (aB 4) (aG (aB 2) aM)))))
 (bA (bS 7 1 .s (dP aM))
 (bA (eE .s (iR1 (aG (aO uT (aG (aO cV (aG (aB 6) aM)) (aG (eOp dI (eC (.int 1)) (eOp eA (aB 5) (eC (.int 4)))) aM))) aM)) (gNm 8) (bA (bS 9 0 .s (aO gX (aG (aB 0) (aG (eOp dI (eOp dI (eC (.int 7)) (eOp jZ (eC (.int 4)) (aB 4))) (aB 8)) aM))))
 (bA (bS 10 0 .s (eOp HB (aB 6) (dP (aG (eOp dI (eC (.int 6)) (aB 4)) aM))))
 (bA (sIf .s (bOf (eOp gEq (eOp eA (aB 1) (eC (.int 6))) (eC (.int 0)))) (bS 10 0 .s (dP (aG (eC (.int 0)) (aG (eC (.int 1)) (aG (eC (.int 2)) (aG (eC (.int 3)) aM)))))) fC)
 (sIf .s (bOf (eOp gEq (eOp eA (aB 9) (eC (.int 4))) (eC (.int 0)))) (iJ 7 .s (eOp dI (eOp eA (aO gX (aG (aB 0) (aG (eC (.int 2)) aM))) (eOp rL (eC (.int 10)) (eC (.int 60)))) (eOp eA (eOp kA (aB 9) (eC (.int 4))) (eC (.int 2))))) (iJ 7 .s (aO oH (aG (aB 0) (aG (eOp gIx (aB 10) (eOp eA (eOp kA (aB 9) (eC (.int 4))) (aO cV (aG (aB 10) aM)))) aM)))))))))
 (bA (eE .s (iR1 (aG (aO cV (aG (aB 6) aM)) aM)) (gNm 8) (oA 7 .s (aO oH (aG (aB 0) (aG (eOp gIx (aB 6) (aB 8)) aM))) .a (eOp eA (eOp dI (eOp kA (aB 5) (eC (.int 4))) (aB 8)) (aO cV (aG (aB 7) aM)))))
 (lE 7 (iJ 3 .s (gA (aG (eOp gIx (dP (aG (eC (.str "p")) (aG (eC (.str "pp")) (aG (eC (.str "ppp")) (aG (eC (.str "q")) aM))))) (eOp tD (aO cV (aG (aB 7) aM)) (eC (.int 1)))) (aG (aO kU (aG (aB 7) aM)) aM)))))))))))
 (lE 3 (cW 0 .s (aO kU (aG (aB 3) aM))))))))
def xB:List aA->Option aA:=fnD 1 11 Rp
theorem Sh (F:Fun K "_law_lines" "_law_lines" LW f fd)(B:Blt mg)(C:Cst mg)(D__law_cell:Def P w K mg base "_law_cell" 1 rD (spF K 0 gX))(D__law_some:Def P w K mg base "_law_some" 1 zY (spF K 1 wU))(D__law_name:Def P w K mg base "_law_name" 2 wQ (spF K 0 oH)):FnOk P w K mg base CX0 3 f fd zV (spF K 0 xB):=by
 have nd:=Ajw.nd
 exact eM F Ajw rfl (by decide) fun cdv A outer s H E P0 hr=>by
  have hu:=eK hr
  have hv:=eN hr
  exact(bH (cL (i:=1) 0 .s nd rfl (by first | exact aP rfl | exact aQ rfl) (cI D__law_cell (hr.mono (by decide)) rfl (aL (aF 0) (aL bB aR))))
   (bH (cL (i:=2) 0 .s nd rfl (by first | exact aP rfl | exact aQ rfl) (fU (qZ (aF 1) bB) bB))
   (bH (cL (i:=3) 1 .s nd rfl (by first | exact aP rfl | exact aQ rfl) (fQ aR))
   (bH (yX .s fR rfl (wI rfl B.range (aL (aF 2) aR)) (jR (i:=4) nd rfl (by first | exact aP rfl | exact aQ rfl)) (bH (cL (i:=5) 0 .s nd rfl (by first | exact aP rfl | exact aQ rfl) (cI D__law_cell (hr.mono (by decide)) rfl (aL (aF 0) (aL (fA bB (aF 4)) aR))))
   (bH (cL (i:=6) 0 .s nd rfl (by first | exact aP rfl | exact aQ rfl) (cU (n:=1) (cI D__law_some (hr.mono (by decide)) rfl (aL (fU (aF 1) bB) (aL (aF 4) (aL (aF 2) aR))))))
   (bH (cL (i:=7) 1 .s nd rfl (by first | exact aP rfl | exact aQ rfl) (fQ aR))
   (bH (yX .s fR rfl (wI rfl B.range (aL (fV (VP rfl) UL rfl B.max PyProof.Rows.boot_max (aL (fV iD iB rfl B.len iW (aL (aF 6) aR)) (aL (fA bB (fU (aF 5) bB)) aR))) aR)) (jR (i:=8) nd rfl (by first | exact aP rfl | exact aQ rfl)) (bH (cL (i:=9) 0 .s nd rfl (by first | exact aP rfl | exact aQ rfl) (cI D__law_cell (hr.mono (by decide)) rfl (aL (aF 0) (aL (fA (fA bB (sY bB (aF 4))) (aF 8)) aR))))
   (bH (cL (i:=10) 0 .s nd rfl (by first | exact aP rfl | exact aQ rfl) (cU (n:=1) (Jm (aF 6) (cU (n:=1) (fQ (aL (fA bB (aF 4)) aR))))))
   (bH (fT .s (fI (lH hu) mE (fU (aF 1) bB) bB (fE _)) (bJ (cL (i:=10) 0 .s nd rfl (by first | exact aP rfl | exact aQ rfl) (cU (n:=1) (fQ (aL bB (aL bB (aL bB (aL bB aR)))))))) gM)
   (bJ (fT .s (fI (lH hu) mE (fU (aF 9) bB) bB (fE _)) (bJ (wL 7 .s (fA (fU (cI D__law_cell (hr.mono (by decide)) rfl (aL (aF 0) (aL bB aR))) (YO bB bB)) (fU (qZ (aF 9) bB) bB)))) (bJ (wL 7 .s (cI D__law_name (hr.mono (by decide)) rfl (aL (aF 0) (aL (dJ hv (aF 10) (fU (qZ (aF 9) bB) (fV iD iB rfl B.len iW (aL (aF 10) aR))) (fun _ _=>rfl)) aR)))))))))))
   (bH (yX .s fR rfl (wI rfl B.range (aL (fV iD iB rfl B.len iW (aL (aF 6) aR)) aR)) (jR (i:=8) nd rfl (by first | exact aP rfl | exact aQ rfl)) (bJ (ZT 7 .s .a (cI D__law_name (hr.mono (by decide)) rfl (aL (aF 0) (aL (dJ hv (aF 6) (aF 8) (fun _ _=>rfl)) aR))) (fU (fA (qZ (aF 5) bB) (aF 8)) (fV iD iB rfl B.len iW (aL (aF 7) aR))))))
   (qY 7 (bJ (wL 3 .s (mH (aL (dJ hv (cU (n:=1) (fQ (aL mG (aL mG (aL mG (aL mG aR)))))) (ZI (fV iD iB rfl B.len iW (aL (aF 7) aR)) bB) (fun _ _=>rfl)) (aL (jS rE rF rfl B.tuple uJ (aL (aF 7) aR)) aR))))))))))))
   (qY 3 (bJ (dR .s (jS rE rF rfl B.tuple uJ (aL (aF 3) aR)))))))))
def Qv:SF:=(bA (bS 2 0 .s (eOp eA (aO gX (aG (aB 0) (aG (eC (.int 2)) aM))) (eOp rL (eC (.int 10)) (eC (.int 60)))))
 (bA (bS 3 1 .s (eC (.dict [])))
 (bA (eE .s (iR1 (aG (eC (.int 10)) aM)) (gNm 4) (qP 3 .s (eOp dI (aB 2) (aO wR (aG (aO gX (aG (aB 0) (aG (eC (.int 23)) aM))) (aG (aB 4) (aG (eC (.int 2)) aM))))) .s (aO oH (aG (aB 0) (aG (aB 4) aM)))))
 (lE 3 (bA (bS 5 2 .s (eC (.dict [])))
 (bA (eE .s (iIt (aB 1)) (nZ 6 7) (bA (bS 8 0 .s (aO kU (aG (eLC [none,some 3] (iIt (aB 7)) (gB 0) dM (kB (aB 1) (aB 0) (aB 0))) aM)))
 (tH 5 .s (aB 8) .s (aB 6) .a (bOf (eOp gLt (aO cV (aG (eOp gIx (aB 5) (aB 6)) aM)) (eC (.int 6)))) (vD 5 .s (aB 6) .s (aB 8)))))
 (bA (eE .s (iIt (dP (aG (gA (aG (eC (.str "p")) (aG (eC (.int 1)) aM))) (aG (gA (aG (eC (.str "pp")) (aG (eC (.int 2)) aM))) (aG (gA (aG (eC (.str "ppp")) (aG (eC (.int 3)) aM))) (aG (gA (aG (eC (.str "q")) (aG (eC (.int 4)) aM))) aM)))))) (nZ 6 9) (eE .s (iR1 (aG (eOp eA (eOp kA (aO gX (aG (aB 0) (aG (eC (.int 24)) aM))) (aB 9)) (eC (.int 9))) aM)) (gNm 4) (bA (bS 10 0 .s (aO gX (aG (aB 0) (aG (eOp dI (eOp dI (eC (.int 25)) (eOp jZ (eC (.int 8)) (eOp tD (aB 9) (eC (.int 1))))) (aB 4)) aM))))
 (bA (bS 8 0 .s (aO kU (aG (eLC [none,some 2,some 10] (iR1 (aG (aB 9) aM)) (gB 0) dM (eOp dI (aB 1) (eOp eA (eOp kA (aB 2) (eOp gIx (dP (aG (eC (.int 1)) (aG (eC (.int 2)) (aG (eC (.int 4)) (aG (eC (.int 8)) aM))))) (aB 0))) (eC (.int 2))))) aM)))
 (tH 5 .s (aB 8) .s (aB 6) .a (bOf (eOp gLt (aO cV (aG (eOp gIx (aB 5) (aB 6)) aM)) (eC (.int 6)))) (vD 5 .s (aB 6) .s (aB 8)))))))
 (bA (sIf .s (bOf (eOp gEq (eOp eA (aO gX (aG (aB 0) (aG (eC (.int 24)) aM))) (eC (.int 11))) (eC (.int 0)))) (sOr (tP 5 .s (dP aM) .s (eC (.str "pp"))) (yM 5 .s (dP aM) .s (eC (.str "pp")))) fC)
 (kP 5 2)))))))))
def wW:List aA->Option aA:=fnD 2 11 Qv
theorem Rq (F:Fun K "_law_book" "_law_book" AB f fd)(B:Blt mg)(C:Cst mg)(D__law_cell:Def P w K mg base "_law_cell" 1 rD (spF K 0 gX))(D__law_draw:Def P w K mg base "_law_draw" 1 AA (spF K 0 wR))(D__law_name:Def P w K mg base "_law_name" 2 wQ (spF K 0 oH)):FnOk P w K mg base CX0 3 f fd zX (spF K 2 wW):=by
 have nd:=Ak1.nd
 exact eM F Ak1 rfl (by decide) fun cdv A outer s H E P0 hr=>by
  have hu:=eK hr
  have hv:=eN hr
  refine bH ?_ ?_
  refine cL (i:=2) 0 .s ?_ ?_ ?_ ?_ ?_ ?_
  exact nd
  rfl
  first | exact aP rfl | exact aQ rfl
  refine fU ?_ ?_
  refine cI D__law_cell (hr.mono (by decide)) rfl ?_
  refine aL ?_ ?_ ?_
  exact(aF 0)
  refine aL ?_ ?_ ?_
  exact bB
  exact aR
  rfl
  rfl
  exact(YO bB bB)
  rfl
  first | exact aP rfl | exact aQ rfl | assumption
  refine bH ?_ ?_
  exact(cL (i:=3) 1 .s nd rfl (by first | exact aP rfl | exact aQ rfl) vX)
  refine bH ?_ ?_
  refine yX .s fR rfl ?_ ?_ ?_
  refine wI rfl B.range ?_
  refine aL ?_ ?_ ?_
  exact bB
  exact aR
  rfl
  exact(jR (i:=4) nd rfl (by first | exact aP rfl | exact aQ rfl))
  refine bJ ?_
  refine RB 3 .s .s hv ?_ ?_
  refine fA ?_ ?_
  exact(aF 2)
  refine cI D__law_draw (hr.mono (by decide)) rfl ?_
  refine aL ?_ ?_ ?_
  refine cI D__law_cell (hr.mono (by decide)) rfl ?_
  refine aL ?_ ?_ ?_
  exact(aF 0)
  refine aL ?_ ?_ ?_
  exact bB
  exact aR
  rfl
  rfl
  refine aL ?_ ?_ ?_
  exact(aF 4)
  refine aL ?_ ?_ ?_
  exact bB
  exact aR
  rfl
  rfl
  rfl
  refine cI D__law_name (hr.mono (by decide)) rfl ?_
  refine aL ?_ ?_ ?_
  exact(aF 0)
  refine aL ?_ ?_ ?_
  exact(aF 4)
  exact aR
  rfl
  rfl
  refine qY 3 ?_
  refine bH ?_ ?_
  exact(cL (i:=5) 2 .s nd rfl (by first | exact aP rfl | exact aQ rfl) Th)
  refine bH ?_ ?_
  refine hX ?_ ?_ ?_ ?_ ?_ ?_
  exact fR
  rfl
  refine eU ?_
  exact(aF 1)
  exact(qX (i:=6) (j:=7) rfl nd rfl rfl (by first | exact aP rfl | exact aQ rfl) (by first | exact aP rfl | exact aQ rfl))
  refine bH ?_ ?_
  refine cL (i:=8) 0 .s ?_ ?_ ?_ ?_ ?_ ?_
  exact nd
  rfl
  first | exact aP rfl | exact aQ rfl
  refine jS rE rF rfl B.tuple uJ ?_
  refine aL ?_ ?_ ?_
  refine cU (n:=1) ?_
  refine iO rfl (iC (N:=["_law_term","_law_values"]) (cap:=[none,some 3]) (out:=(bY AB).names) (XN:=LH) rfl rfl (by decide +kernel) rfl) hU ?_ (fun cl C s₀ H₀ ex=>⟨jE (j:=0) (show(["_law_term","_law_values"]:List aC).Nodup by decide +kernel) rfl (aP rfl),jQ,(DD hv (aF 1) (aF 0) (aF 0))⟩)
  refine eU ?_
  exact(aF 7)
  exact aR
  rfl
  rfl
  first | exact aP rfl | exact aQ rfl | assumption
  refine bJ ?_
  refine SU 5 .s .s .a hu ?_ ?_ ?_ ?_
  exact(aF 8)
  exact(aF 6)
  refine fI (Bcr.or KL) IB ?_ bB (fE _)
  refine fV iD iB rfl B.len iW ?_
  refine aL ?_ ?_ ?_
  refine dJ hv ?_ ?_ (fun _ _=>rfl)
  exact(aF 5)
  exact(aF 6)
  exact aR
  rfl
  refine bJ ?_
  refine Av 5 .s .s hv ?_ ?_
  exact(aF 6)
  exact(aF 8)
  intro _; rfl
  refine bH ?_ ?_
  refine hX ?_ ?_ ?_ ?_ ?_ ?_
  exact fR
  rfl
  refine eU ?_
  refine cU (n:=1) ?_
  refine fQ ?_
  refine aL ?_ ?_ ?_
  refine mH ?_
  refine aL ?_ ?_ ?_
  exact mG
  refine aL ?_ ?_ ?_
  exact bB
  exact aR
  rfl
  rfl
  refine aL ?_ ?_ ?_
  refine mH ?_
  refine aL ?_ ?_ ?_
  exact mG
  refine aL ?_ ?_ ?_
  exact bB
  exact aR
  rfl
  rfl
  refine aL ?_ ?_ ?_
  refine mH ?_
  refine aL ?_ ?_ ?_
  exact mG
  refine aL ?_ ?_ ?_
  exact bB
  exact aR
  rfl
  rfl
  refine aL ?_ ?_ ?_
  refine mH ?_
  refine aL ?_ ?_ ?_
  exact mG
  refine aL ?_ ?_ ?_
  exact bB
  exact aR
  rfl
  rfl
  exact aR
  rfl
  rfl
  rfl
  rfl
  exact(qX (i:=6) (j:=9) rfl nd rfl rfl (by first | exact aP rfl | exact aQ rfl) (by first | exact aP rfl | exact aQ rfl))
  refine bJ ?_
  refine yX .s fR rfl ?_ ?_ ?_
  refine wI rfl B.range ?_
  refine aL ?_ ?_ ?_
  refine fU ?_ bB
  refine qZ ?_ ?_
  refine cI D__law_cell (hr.mono (by decide)) rfl ?_
  refine aL ?_ ?_ ?_
  exact(aF 0)
  refine aL ?_ ?_ ?_
  exact bB
  exact aR
  rfl
  rfl
  exact(aF 9)
  exact aR
  rfl
  exact(jR (i:=4) nd rfl (by first | exact aP rfl | exact aQ rfl))
  refine bH ?_ ?_
  refine cL (i:=10) 0 .s ?_ ?_ ?_ ?_ ?_ ?_
  exact nd
  rfl
  first | exact aP rfl | exact aQ rfl
  refine cI D__law_cell (hr.mono (by decide)) rfl ?_
  refine aL ?_ ?_ ?_
  exact(aF 0)
  refine aL ?_ ?_ ?_
  refine fA ?_ ?_
  refine fA bB ?_
  refine sY bB ?_
  refine ZI ?_ bB
  exact(aF 9)
  exact(aF 4)
  exact aR
  rfl
  rfl
  rfl
  first | exact aP rfl | exact aQ rfl | assumption
  refine bH ?_ ?_
  refine cL (i:=8) 0 .s ?_ ?_ ?_ ?_ ?_ ?_
  exact nd
  rfl
  first | exact aP rfl | exact aQ rfl
  refine jS rE rF rfl B.tuple uJ ?_
  refine aL ?_ ?_ ?_
  refine cU (n:=1) ?_
  refine iO rfl (iC (N:=["_law_at","_law_base","_law_cell_here"]) (cap:=[none,some 2,some 10]) (out:=(bY AB).names) (XN:=LH) rfl rfl (by decide +kernel) rfl) hU ?_ (fun cl C s₀ H₀ ex=>⟨jE (j:=0) (show(["_law_at","_law_base","_law_cell_here"]:List aC).Nodup by decide +kernel) rfl (aP rfl),jQ,(fA (aF 1) (fU (qZ (aF 2) (dJ hv (cU (n:=1) (fQ (aL bB (aL bB (aL bB (aL bB aR)))))) (aF 0) (fun _ _=>rfl))) bB))⟩)
  refine Ie ?_
  refine wI rfl B.range ?_
  refine aL ?_ ?_ ?_
  exact(aF 9)
  exact aR
  rfl
  exact aR
  rfl
  rfl
  first | exact aP rfl | exact aQ rfl | assumption
  refine bJ ?_
  refine SU 5 .s .s .a hu ?_ ?_ ?_ ?_
  exact(aF 8)
  exact(aF 6)
  refine fI (Bcr.or KL) IB ?_ bB (fE _)
  refine fV iD iB rfl B.len iW ?_
  refine aL ?_ ?_ ?_
  refine dJ hv ?_ ?_ (fun _ _=>rfl)
  exact(aF 5)
  exact(aF 6)
  exact aR
  rfl
  refine bJ ?_
  refine Av 5 .s .s hv ?_ ?_
  exact(aF 6)
  exact(aF 8)
  intro _; rfl
  refine bH ?_ ?_
  refine fT .s ?_ ?_ gM
  refine fI (lH hu) mE ?_ bB (fE _)
  refine fU ?_ bB
  refine cI D__law_cell (hr.mono (by decide)) rfl ?_
  refine aL ?_ ?_ ?_
  exact(aF 0)
  refine aL ?_ ?_ ?_
  exact bB
  exact aR
  rfl
  rfl
  refine bJ ?_
  refine Fy ?_ ?_
  refine Xm 5 .s .s hv ?_ mG
  exact(fQ aR)
  refine Ti 5 .s .s hv ?_ mG
  exact(fQ aR)
  refine bJ ?_
  exact(CN 5)
def Qs:SF:=(bA (eE .s (iIt (aB 1)) (gNm 2) (bA (bS 3 0 .s (aO wX (aG (aB 0) (aG (aB 1) (aG (aB 2) aM)))))
 (sIf .s (bOf (eOp oB (aB 3) (eC .none))) (cW 0 .s (gA (aG (aB 2) (aG (aB 3) aM)))) fC)))
 (cW 0 .s (eC .none)))
def mL:List aA->Option aA:=fnD 2 4 Qs
theorem Rl (F:Fun K "first_ear" "first_ear" LN f fd)(B:Blt mg)(C:Cst mg)(D_parent_of:Def P w K mg base "parent_of" 3 zQ (spF K 0 wX)):FnOk P w K mg base CX0 4 f fd zZ (spF K 0 mL):=by
 have nd:=Akl.nd
 exact eM F Akl rfl (by decide) fun cdv A outer s H E P0 hr=>by
  have hu:=eK hr
  have hv:=eN hr
  exact(bH (hX fR rfl (eU (aF 1)) (jR (i:=2) nd rfl (by first | exact aP rfl | exact aQ rfl)) (bH (cL (i:=3) 0 .s nd rfl (by first | exact aP rfl | exact aQ rfl) (cI D_parent_of (hr.mono (by decide)) rfl (aL (aF 0) (aL (aF 1) (aL (aF 2) aR)))))
   (bJ (fT .s (fI DJ DX (aF 3) vL (fE _)) (bJ (dR .s (mH (aL (aF 2) (aL (aF 3) aR))))) gM))))
   (bJ (dR .s vL)))
def Ic:SF:=(bA (bS 1 1 .s (dP aM))
 (bA (bS 2 1 .s (aO HZ (aG (aO cV (aG (aB 0) aM)) aM)))
 (bA (bS 3 0 .a (aO mL (aG (aB 0) (aG (aB 2) aM))))
 (bA (whD .s (bOf (eOp oB (aB 3) (eC .none))) (bA (iJ 1 .s (aB 3))
 (bA (pP 2 .s (eOp gIx (aB 3) (eC (.int 0))))
 (bS 3 0 .a (aO mL (aG (aB 0) (aG (aB 2) aM)))))) 100)
 (YR 1 2)))))
def kT:List aA->Option aA:=fnD 1 4 Ic
theorem Kk (F:Fun K "ears" "ears" MN f fd)(B:Blt mg)(C:Cst mg)(D_first_ear:Def P w K mg base "first_ear" 4 zZ (spF K 0 mL)):FnOk P w K mg base CX0 5 f fd qR (spF K 2 kT):=by
 have nd:=Az6.nd
 exact eM F Az6 rfl (by decide) fun cdv A outer s H E P0 hr=>by
  have hu:=eK hr
  have hv:=eN hr
  exact(bH (cL (i:=1) 1 .s nd rfl (by first | exact aP rfl | exact aQ rfl) (fQ aR))
   (bH (cL (i:=2) 1 .s nd rfl (by first | exact aP rfl | exact aQ rfl) (TM rfl rfl B.list rfl B.range (fV iD iB rfl B.len iW (aL (aF 0) aR))))
   (bH (cL (i:=3) 0 .a nd rfl (by first | exact aP rfl | exact aQ rfl) (cI D_first_ear (hr.mono (by decide)) rfl (aL (aF 0) (aL (aF 2) aR))))
   (bH (Um .s 100 fR (fI DJ DX (aF 3) vL (fE _)) (bH (wL 1 .s (aF 3))
   (bH (Yf 2 .s (dJ hv (aF 3) bB (fun _ _=>rfl)))
   (bJ (cL (i:=3) 0 .a nd rfl (by first | exact aP rfl | exact aQ rfl) (cI D_first_ear (hr.mono (by decide)) rfl (aL (aF 0) (aL (aF 2) aR))))))))
   (bJ (Uu 1 2 (by decide)))))))
def Hg:SF:=(bA (bS 1 1 .s (sH 1 (aO kT (aG (aB 0) aM))))
 (YY .a (bOf (eOp gGt (aO cV (aG (aB 1) aM)) (eC (.int 1)))) 1 (dP aM)))
def qU:List aA->Option aA:=fnD 1 2 Hg
theorem Lc (F:Fun K "ring" "ring" MJ f fd)(B:Blt mg)(C:Cst mg)(D_ears:Def P w K mg base "ears" 5 qR (spF K 2 kT)):FnOk P w K mg base CX0 6 f fd yK (spF K 1 qU):=by
 have nd:=Azm.nd
 exact eM F Azm rfl (by decide) fun cdv A outer s H E P0 hr=>by
  have hu:=eK hr
  have hv:=eN hr
  exact(bH (cL (i:=1) 1 .s nd rfl (by first | exact aP rfl | exact aQ rfl) (DH (cI D_ears (hr.mono (by decide)) rfl (aL (aF 0) aR))))
   (bJ (Uy .a 1 (fI FE CD (fV iD iB rfl B.len iW (aL (aF 1) aR)) bB (fE _)) (fQ aR))))
def Qj:SF:=(bA (bS 2 0 .s (sH 1 (aO kT (aG (aB 0) aM))))
 (cW 0 .s (aO wD (aG (aO kU (aG (eLC [none,some 0] (iIt (aB 2)) (gB 0) dM (eOp gIx (aB 1) (aB 0))) aM)) (aG (eLC [none,some 1] (iIt (aB 2)) (gB 0) dM (eOp gIx (aB 1) (aB 0))) aM)))))
def wV:List aA->Option aA:=fnD 2 3 Qj
theorem Rt (F:Fun K "walk_rest" "walk_rest" zT f fd)(B:Blt mg)(C:Cst mg)(D_walked:Def P w K mg base "walked" 3 zG (spF K 0 wD))(D_ears:Def P w K mg base "ears" 5 qR (spF K 2 kT)):FnOk P w K mg base CX0 6 f fd zR (spF K 0 wV):=by
 have nd:=Ak0.nd
 exact eM F Ak0 rfl (by decide) fun cdv A outer s H E P0 hr=>by
  have hu:=eK hr
  have hv:=eN hr
  exact(bH (cL (i:=2) 0 .s nd rfl (by first | exact aP rfl | exact aQ rfl) (cU (n:=1) (DH (cI D_ears (hr.mono (by decide)) rfl (aL (aF 0) aR)))))
   (bJ (dR .s (cI D_walked (hr.mono (by decide)) rfl (aL (jS rE rF rfl B.tuple uJ (aL (cU (n:=1) (iO rfl (iC (N:=["k","lines"]) (cap:=[none,some 0]) (out:=(bY zT).names) (XN:=LQ) rfl rfl (by decide +kernel) rfl) hU (eU (aF 2)) (fun cl C s₀ H₀ ex=>⟨jE (j:=0) (show(["k","lines"]:List aC).Nodup by decide +kernel) rfl (aP rfl),jQ,(dJ hv (aF 1) (aF 0) (fun _ _=>rfl))⟩))) aR)) (aL (cU (n:=1) (iO rfl (iC (N:=["k","kept"]) (cap:=[none,some 1]) (out:=(bY zT).names) (XN:=LQ) rfl rfl (by decide +kernel) rfl) hU (eU (aF 2)) (fun cl C s₀ H₀ ex=>⟨jE (j:=0) (show(["k","kept"]:List aC).Nodup by decide +kernel) rfl (aP rfl),jQ,(dJ hv (aF 1) (aF 0) (fun _ _=>rfl))⟩))) aR))))))
def Ss:SF:=(bA (bS 2 1 .s (eLC [none] (iIt (aB 1)) (gB 0) dM (aO vY (aG (eLC [none] (iIt (aB 0)) (gB 0) dM (gA (aG (aB 0) (aG (eC (.int 1)) aM)))) aM))))
 (bA (eE .s (iIt (sH 0 (aO kT (aG (aB 0) aM)))) (nZ 3 4) (bA (bS 5 0 .s (aO wH (aG (eOp gIx (aB 0) (aB 3)) (aG (eOp gIx (aB 0) (aB 4)) aM))))
 (oA 2 .a (aO vT (aG (eOp gIx (aB 0) (aB 4)) (aG (eOp gIx (aB 2) (aB 4)) (aG (aB 5) (aG (aO wC (aG (eOp gIx (aB 0) (aB 3)) (aG (eOp gIx (aB 2) (aB 3)) (aG (aB 5) aM)))) aM))))) .s (aB 4))))
 (kP 2 1)))
def xF:List aA->Option aA:=fnD 2 6 Ss
theorem Ta (F:Fun K "count_parents" "count_parents" AK f fd)(B:Blt mg)(C:Cst mg)(D_common:Def P w K mg base "common" 2 yY (spF K 1 wH))(D_summed:Def P w K mg base "summed" 3 yZ (spF K 0 wC))(D_times:Def P w K mg base "times" 3 yU (spF K 0 vT))(D_ears:Def P w K mg base "ears" 5 qR (spF K 2 kT)):FnOk P w K mg base CX0 6 f fd AJ (spF K 1 xF):=by
 have nd:=Agx.nd
 exact eM F Agx rfl (by decide) fun cdv A outer s H E P0 hr=>by
  have hu:=eK hr
  have hv:=eN hr
  exact(bH (by first | exact(Wg (i:=2) .s rfl nd rfl (by first | exact aP rfl | exact aQ rfl) (iC (N:=["rows"]) (cap:=[none]) (out:=(bY AK).names) (XN:=ME) rfl rfl (by decide +kernel) rfl) hU (eU (aF 1)) (fun cl C s₀ H₀ ex=>⟨jE (j:=0) (show(["rows"]:List aC).Nodup by decide +kernel) rfl (aP rfl),jQ,(jS (MC hu rfl) LV rfl B.dict AY (aL (cU (n:=1) (iO rfl (iC (N:=["row"]) (cap:=[none]) rfl rfl rfl rfl) hU (eU (aF 0)) (fun cl C s₀ H₀ ex=>⟨jE (j:=0) (show(["row"]:List aC).Nodup by decide +kernel) rfl (aP rfl),jQ,(mH (aL (aF 0) (aL bB aR)))⟩))) aR))⟩)) | exact(cL (i:=2) 1 .s nd rfl (by first | exact aP rfl | exact aQ rfl) (iO rfl (iC (N:=["rows"]) (cap:=[none]) (out:=(bY AK).names) (XN:=ME) rfl rfl (by decide +kernel) rfl) hU (eU (aF 1)) (fun cl C s₀ H₀ ex=>⟨jE (j:=0) (show(["rows"]:List aC).Nodup by decide +kernel) rfl (aP rfl),jQ,(jS (MC hu rfl) LV rfl B.dict AY (aL (cU (n:=1) (iO rfl (iC (N:=["row"]) (cap:=[none]) rfl rfl rfl rfl) hU (eU (aF 0)) (fun cl C s₀ H₀ ex=>⟨jE (j:=0) (show(["row"]:List aC).Nodup by decide +kernel) rfl (aP rfl),jQ,(mH (aL (aF 0) (aL bB aR)))⟩))) aR))⟩))))
   (bH (hX fR rfl (eU (cU (n:=1) (DH (cI D_ears (hr.mono (by decide)) rfl (aL (aF 0) aR))))) (qX (i:=3) (j:=4) rfl nd rfl rfl (by first | exact aP rfl | exact aQ rfl) (by first | exact aP rfl | exact aQ rfl)) (bH (cL (i:=5) 0 .s nd rfl (by first | exact aP rfl | exact aQ rfl) (cU (n:=1) (cI D_common (hr.mono (by decide)) rfl (aL (dJ hv (aF 0) (aF 3) (fun _ _=>rfl)) (aL (dJ hv (aF 0) (aF 4) (fun _ _=>rfl)) aR)))))
   (bJ (ZT 2 .a .s (cI D_times (hr.mono (by decide)) rfl (aL (dJ hv (aF 0) (aF 4) (fun _ _=>rfl)) (aL (dJ hv (aF 2) (aF 4) (fun _ _=>rfl)) (aL (aF 5) (aL (cI D_summed (hr.mono (by decide)) rfl (aL (dJ hv (aF 0) (aF 3) (fun _ _=>rfl)) (aL (dJ hv (aF 2) (aF 3) (fun _ _=>rfl)) (aL (aF 5) aR)))) aR))))) (aF 4)))))
   (bJ (CN 2))))
def MA:SF:=(qO .s (aO xC (aG (aB 0) (aG (aO kU (aG (eLC [none,some 1] (iIt (aO qU (aG (aB 1) aM))) (gB 0) dM (eOp gIx (aB 1) (aB 0))) aM)) aM))))
def rJ:List aA->Option aA:=fnD 2 2 MA
theorem Sy (F:Fun K "refuse_ring" "refuse_ring" EV f fd)(B:Blt mg)(C:Cst mg)(D_refuse_ways:Def P w K mg base "refuse_ways" 3 AH (spF K 0 xC))(D_ring:Def P w K mg base "ring" 6 yK (spF K 1 qU)):FnOk P w K mg base CX0 7 f fd AI (spF K 0 rJ):=by
 have nd:=Aie.nd
 exact eM F Aie rfl (by decide) fun cdv A outer s H E P0 hr=>by
  have hu:=eK hr
  have hv:=eN hr
  exact(bJ (JB .s (cI D_refuse_ways (hr.mono (by decide)) rfl (aL (aF 0) (aL (jS rE rF rfl B.tuple uJ (aL (cU (n:=1) (iO rfl (iC (N:=["k","lines"]) (cap:=[none,some 1]) (out:=(bY EV).names) (XN:=YE) rfl rfl (by decide +kernel) rfl) hU (eU (cU (n:=1) (cI D_ring (hr.mono (by decide)) rfl (aL (aF 1) aR)))) (fun cl C s₀ H₀ ex=>⟨jE (j:=0) (show(["k","lines"]:List aC).Nodup by decide +kernel) rfl (aP rfl),jQ,(dJ hv (aF 1) (aF 0) (fun _ _=>rfl))⟩))) aR)) aR)))))
def Gx:SF:=(bA (qO .s (aO rJ (aG (aB 0) (aG (aB 1) aM))))
 (bA (bS 2 0 .s (aO xF (aG (aB 1) (aG (aO uB (aG (aB 0) (aG (aB 1) aM))) aM))))
 (bA (bS 3 0 .s (sH 1 (aO kT (aG (aB 1) aM))))
 (bA (bS 4 0 .s (eC (.int 0)))
 (bA (eE .s (iIt (aO wV (aG (aB 1) (aG (aB 2) aM)))) (gNm 5) (bA (bS 6 0 .s (eC (.int 1)))
 (bA (eE .s (iIt (aB 3)) (gNm 7) (bS 6 0 .s (eOp kQ (aB 6) (eOp BX (eOp gIx (aB 2) (aB 7)) (aO oF (aG (eOp gIx (eOp gIx (aB 1) (aB 7)) (eC (.int 1))) (aG (aB 5) aM)))))))
 (bS 4 0 .s (eOp dI (aB 4) (aB 6))))))
 (cW 0 .s (aB 4)))))))
def sZ:List aA->Option aA:=fnD 2 8 Gx
theorem Jw (F:Fun K "many" "many" MM f fd)(B:Blt mg)(C:Cst mg)(D_put_in:Def P w K mg base "put_in" 1 wF (spF K 0 oF))(D_all_fitting:Def P w K mg base "all_fitting" 3 AG (spF K 1 uB))(D_ears:Def P w K mg base "ears" 5 qR (spF K 2 kT))(D_walk_rest:Def P w K mg base "walk_rest" 6 zR (spF K 0 wV))(D_count_parents:Def P w K mg base "count_parents" 6 AJ (spF K 1 xF))(D_refuse_ring:Def P w K mg base "refuse_ring" 7 AI (spF K 0 rJ)):FnOk P w K mg base CX0 8 f fd yH (spF K 0 sZ):=by
 have nd:=A3d.nd
 exact eM F A3d rfl (by decide) fun cdv A outer s H E P0 hr=>by
  have hu:=eK hr
  have hv:=eN hr
  exact(bH (JB .s (cI D_refuse_ring (hr.mono (by decide)) rfl (aL (aF 0) (aL (aF 1) aR))))
   (bH (cL (i:=2) 0 .s nd rfl (by first | exact aP rfl | exact aQ rfl) (cU (n:=1) (cI D_count_parents (hr.mono (by decide)) rfl (aL (aF 1) (aL (cU (n:=1) (cI D_all_fitting (hr.mono (by decide)) rfl (aL (aF 0) (aL (aF 1) aR)))) aR)))))
   (bH (cL (i:=3) 0 .s nd rfl (by first | exact aP rfl | exact aQ rfl) (cU (n:=1) (DH (cI D_ears (hr.mono (by decide)) rfl (aL (aF 1) aR)))))
   (bH (cL (i:=4) 0 .s nd rfl (by first | exact aP rfl | exact aQ rfl) bB)
   (bH (hX fR rfl (eU (cI D_walk_rest (hr.mono (by decide)) rfl (aL (aF 1) (aL (aF 2) aR)))) (jR (i:=5) nd rfl (by first | exact aP rfl | exact aQ rfl)) (bH (cL (i:=6) 0 .s nd rfl (by first | exact aP rfl | exact aQ rfl) bB)
   (bH (hX fR rfl (eU (aF 3)) (jR (i:=7) nd rfl (by first | exact aP rfl | exact aQ rfl)) (bJ (cL (i:=6) 0 .s nd rfl (by first | exact aP rfl | exact aQ rfl) (tN (aF 6) (Iw hv (dJ hv (aF 2) (aF 7) (fun _ _=>rfl)) (cI D_put_in (hr.mono (by decide)) rfl (aL (dJ hv (dJ hv (aF 1) (aF 7) (fun _ _=>rfl)) bB (fun _ _=>rfl)) (aL (aF 5) aR))) (fun _ _=>rfl))))))
   (bJ (cL (i:=4) 0 .s nd rfl (by first | exact aP rfl | exact aQ rfl) (fA (aF 4) (aF 6)))))))
   (bJ (dR .s (aF 4))))))))
def Rm:SF:=(bA (bS 2 0 .s (aO CH (aG (eLC [none,none] (iDI (aB 0)) (gB2 0 1) dM (gA (aG (aB 0) (aG (aO sR (aG (aB 1) aM)) aM)))) aM)))
 (bA (bS 3 0 .s (aO sZ (aG (aB 0) (aG (aB 1) aM))))
 (bA (sIf .s (bOr (oK (bOf (eUn (fS "int") (aB 3)))) (bOf (eUn (fS "bool") (aB 3)))) (cW 0 .s (eC (.bool false))) fC)
 (cW 0 .s (oI (eOp gEq (aB 3) (aO xE (aG (aB 2) (aG (aB 1) aM)))) (eOp (uP false) (aB 0) (aB 2)))))))
def pM:List aA->Option aA:=fnD 2 4 Rm
theorem Se (F:Fun K "_law_right" "_law_right" ER f fd)(B:Blt mg)(C:Cst mg)(D__law_choices:Def P w K mg base "_law_choices" 1 AD (spF K 0 xE))(D_many:Def P w K mg base "many" 8 yH (spF K 0 sZ)):FnOk P w K mg base CX0 9 f fd zW (spF K 0 pM):=by
 have nd:=Ajf.nd
 exact eM F Ajf rfl (by decide) fun cdv A outer s H E P0 hr=>by
  have hu:=eK hr
  have hv:=eN hr
  exact(bH (cL (i:=2) 0 .s nd rfl (by first | exact aP rfl | exact aQ rfl) (cU (n:=1) (jS (Rc rfl) Qa rfl B.dict AY (aL (cU (n:=1) (iO rfl (iC (N:=["_law_table","_law_rows"]) (cap:=[none,none]) (out:=(bY ER).names) (XN:=XW) rfl rfl (by decide +kernel) rfl) YK (Tp (aF 0)) (fun cl C s₀ H₀ ex=>⟨SC (i:=0) (j:=1) rfl (show(["_law_table","_law_rows"]:List aC).Nodup by decide +kernel) rfl rfl (aP rfl) (aP rfl),jQ,(mH (aL (aF 0) (aL (cU (n:=1) (jS (Rj rfl) Pp rfl B.list PyProof.Rows.boot_list (aL (aF 1) aR))) aR)))⟩))) aR))))
   (bH (cL (i:=3) 0 .s nd rfl (by first | exact aP rfl | exact aQ rfl) (cI D_many (hr.mono (by decide)) rfl (aL (aF 0) (aL (aF 1) aR))))
   (bH (fT .s (HI (Ei (ZD (qV (yF (T:="int") rfl B.isinstance rfl B.int PyProof.Rows.boot_int (by decide) (aF 3)))) (Iu (qV (yF (T:="bool") rfl B.isinstance rfl B.bool PyProof.Rows.boot_bool (by decide) (aF 3)))))) (bJ (dR .s EZ)) gM)
   (bJ (dR .s (IA (CF (lH hu) mE (aF 3) (cI D__law_choices (hr.mono (by decide)) rfl (aL (aF 2) (aL (aF 1) aR))) (fE _)) (HV (CF (Il hu) Mk (aF 0) (aF 2) (fE _)))))))))
end Aw
namespace Aw
open PySem L2
set_option maxHeartbeats 4000000
variable {P:cB}{w:bN}{K:aK}{mg:aC->Option aE}{base:aY}{f:aD}{fd:hE}
def Eu:SF:=(bA (bS 1 0 .s (aO xB (aG (aB 0) aM)))
 (bA (bS 2 2 .s (aO wW (aG (aB 0) (aG (aB 1) aM))))
 (bA (sIf .a (oK (bOf (aO pM (aG (aB 2) (aG (aB 1) aM))))) (cW 0 .s (eC (.bool false))) fC)
 (bA (sIf .a (lX (bOf (eOp gGt (aO cV (aG (aB 1) aM)) (eC (.int 0)))) (bOf (eOp gGt (aO cV (aG (eOp gIx (aB 2) (eOp gIx (eOp gIx (aB 1) (eUn pO (eC (.int 1)))) (eC (.int 0)))) aM)) (eC (.int 0))))) (EX 2 .s (eOp gIx (eOp gIx (aB 1) (eUn pO (eC (.int 1)))) (eC (.int 0))) .a (eOp eA (aO gX (aG (aB 0) (aG (eC (.int 2)) aM))) (aO cV (aG (eOp gIx (aB 2) (eOp gIx (eOp gIx (aB 1) (eUn pO (eC (.int 1)))) (eC (.int 0)))) aM)))) fC)
 (lE 2 (cW 0 .s (oI (aO pM (aG (aB 2) (aG (aB 1) aM))) (aO pM (aG (aB 2) (aG (sI (aB 1) (oS (eC (.int 1))) oN) aM))))))))))
def FH:List aA->Option aA:=fnD 1 3 Eu
theorem Kc (F:Fun K "law" "law" sU f fd)(B:Blt mg)(C:Cst mg)(D__law_cell:Def P w K mg base "_law_cell" 1 rD (spF K 0 gX))(D__law_lines:Def P w K mg base "_law_lines" 3 zV (spF K 0 xB))(D__law_book:Def P w K mg base "_law_book" 3 zX (spF K 2 wW))(D__law_right:Def P w K mg base "_law_right" 9 zW (spF K 0 pM)):FnOk P w K mg base CX0 10 f fd PQ (spF K 0 FH):=by
 have nd:=A8v.nd
 exact eM F A8v rfl (by decide) fun cdv A outer s H E P0 hr=>by
  have hu:=eK hr
  have hv:=eN hr
  exact(bH (cL (i:=1) 0 .s nd rfl (by first | exact aP rfl | exact aQ rfl) (cI D__law_lines (hr.mono (by decide)) rfl (aL (aF 0) aR)))
   (bH (cL (i:=2) 2 .s nd rfl (by first | exact aP rfl | exact aQ rfl) (cI D__law_book (hr.mono (by decide)) rfl (aL (aF 0) (aL (aF 1) aR))))
   (bH (fT .a (ZD (qV (cI D__law_right (hr.mono (by decide)) rfl (aL (aF 2) (aL (aF 1) aR))))) (bJ (dR .s EZ)) gM)
   (bH (fT .a (HI (YQ (fI FE CD (fV iD iB rfl B.len iW (aL (aF 1) aR)) bB (fE _)) (ZS (fI FE CD (fV iD iB rfl B.len iW (aL (dJ hv (aF 2) (dJ hv (dJ hv (aF 1) (MG bB) (fun _ _=>rfl)) bB (fun _ _=>rfl)) (fun _ _=>rfl)) aR)) bB (fE _))))) (bJ (Li 2 .s .a hv (dJ hv (dJ hv (aF 1) (MG bB) (fun _ _=>rfl)) bB (fun _ _=>rfl)) (fU (cI D__law_cell (hr.mono (by decide)) rfl (aL (aF 0) (aL bB aR))) (fV iD iB rfl B.len iW (aL (dJ hv (aF 2) (dJ hv (dJ hv (aF 1) (MG bB) (fun _ _=>rfl)) bB (fun _ _=>rfl)) (fun _ _=>rfl)) aR))))) gM)
   (qY 2 (bJ (dR .s (IA (cI D__law_right (hr.mono (by decide)) rfl (aL (aF 2) (aL (aF 1) aR))) (HV (cI D__law_right (hr.mono (by decide)) rfl (aL (aF 2) (aL (MH (aF 1) (vU bB) vZ) aR))))))))))))
end Aw
namespace L2
open PySem PySem.Spec PyProof.Rows
variable {F G:SF}{T:aA->aX->Option aX}{ds:List aA}{ρ:aX}{f:EF}{d:aA}{fi:AF}{n i:Nat}
theorem Vl(P:Nat->aX->Prop)(h0:P 0 ρ)
  (step : ∀ i d ρ,ds[i]?=some d->P i ρ -> ∃ ρ1 ρ2,T d ρ=some ρ1/\(F ρ1=some (.nx ρ2) \/ F ρ1=some (.ct ρ2))/\P (i+1) ρ2) : ∃ ρ',jI F T ds ρ=some (.nx ρ')/\P ds.length ρ':=by
 have go : ∀ (rest:List aA) (i:Nat) (ρ:aX),ds.drop i=rest->i+rest.length=ds.length->P i ρ -> ∃ ρ',jI F T rest ρ=some (.nx ρ')/\P ds.length ρ':=by
  intro rest
  induction rest with
  | nil=>
   intro i ρ _ hl p
   simp at hl
   subst hl
   exact⟨ρ,rfl,p⟩
  | cons d r ih=>
   intro i ρ hd hl p
   have hi:ds[i]?=some d:=by
    have:=congrArg (·[0]?) hd
    simpa using this
   obtain⟨ρ1,ρ2,e1,e2,p2⟩:=step i d ρ hi p
   have hd2:ds.drop (i+1)=r:=by
    have:=congrArg List.tail hd
    simpa using this
   obtain⟨ρ',e3,p3⟩:=ih (i+1) ρ2 hd2 (by simp at hl; omega) p2
   refine⟨ρ',?_,p3⟩
   show((T d ρ).bind fun ρ1=>(F ρ1).bind fun o=>match o with
    | .nx ρ'=>jI F T r ρ'
    | .ct ρ'=>jI F T r ρ'
    | .bk ρ'=>some (.nx ρ')
    | .rt d=>some (.rt d))=some (.nx ρ')
   rw[e1]
   rcases e2 with e2 | e2
   ·simp only[bE,e2]; exact e3
   ·simp only[bE,e2]; exact e3
 exact go ds 0 ρ (by simp) (by simp) h0
theorem RO {T:aA->List (Option aA)->Option (List (Option aA))}{t:BF}{ρ:List (Option aA)}(g:aA->aA) : ∀ (ds:List aA),(∀ d∈ds,∃ ρ1,T d ρ=some ρ1/\t ρ1=some true/\f ρ1=some (g d))->lcD T t f ρ ds=some (ds.map g)
 | [],_=>rfl
 | d::r,h=>by
  obtain⟨ρ1,e1,e2,e3⟩:=h d bO
  have e4:=RO g r fun d' m=>h d' (bT _ m)
  show((T d ρ).bind fun ρ1=>(t ρ1).bind fun c=>if c=true then(f ρ1).bind fun y=>(lcD T t f ρ r).bind fun ys=>some (y::ys) else lcD T t f ρ r)=some (g d::r.map g)
  simp[e1,e2,e3,e4]
theorem Jf{ρ':aX}(h:F ρ=some (.nx ρ')):bA F G ρ=G ρ':=by
 unfold bA
 rw[h]
 rfl
theorem Ht(h:F ρ=some (.rt d)):bA F G ρ=some (.rt d):=by
 unfold bA
 rw[h]
 rfl
theorem IY {m:Md}{o:Out}(h:aV m fi ρ=some ds)(h2:jI F T ds ρ=some o):eE m fi T F ρ=some o:=by
 unfold eE
 rw[h]
 exact h2
theorem Fu {np:Nat}{body:SF}(hl:ds.length=np)(h:body (ds.map (fun d=>some (0,d))++BH (n - np) none)=some (.rt d)):fnD np n body ds=some d:=by
 unfold fnD
 rw[if_pos hl,h]
 rfl
theorem Ga{k:Nat}(h:k≤ds.length):cutD ds none (some (k:Int))=ds.take k:=by
 unfold cutD
 rw[HT.Avd,HT.Azv]
 simp[Nat.min_eq_left h]
theorem nC(h:n≤100000):n≤sizeLine:=dS h (by decide)
theorem tT(h:n≤100000):n<sizeLine:=BE h (by decide)
def letter (c:Nat):Bool:=decide (97≤c)&&decide (c≤122)
def figure (c:Nat):Bool:=decide (48≤c)&&decide (c≤57)
def Ho (c:Nat):Bool:=letter c||figure c
def Er (cs:List Nat):Prop:=∃ c r,cs=c::r/\letter c=true/\(∀ x∈cs,Ho x=true)/\cs.length≤12
def nameS (z:aC):Prop:=Er z.cps.toList
theorem jN (a:Int){b:Int}(h:0<b):0≤a%b/\a%b<b:=⟨Int.emod_nonneg _ (by omega),Int.emod_lt_of_pos _ h⟩
def Goes (F:SF)(ρ:aX)(P:Out->Prop):Prop:=∃ o,F ρ=some o/\P o
variable {P:Out->Prop}{m:Md}
theorem Goes.mono {P':Out->Prop}(h:Goes F ρ P)(k : ∀ o,P o->P' o):Goes F ρ P':=by
 obtain⟨o,e,p⟩:=h
 exact⟨o,e,k o p⟩
theorem gK {ρ':aX}(h:F ρ=some (.nx ρ'))(k:Goes G ρ' P):Goes (bA F G) ρ P:=by
 obtain⟨o,e,p⟩:=k
 exact⟨o,by rw[Jf h]; exact e,p⟩
theorem gD (I:aX->Prop)(h:Goes F ρ fun o=>∃ ρ',o = .nx ρ'/\I ρ')(k : ∀ ρ',I ρ'->Goes G ρ' P):Goes (bA F G) ρ P:=by
 obtain⟨o,e,ρ',rfl,i⟩:=h
 exact gK e (k ρ' i)
theorem JA(h:F ρ=some (.rt d))(k:P (.rt d)):Goes (bA F G) ρ P:=⟨_,Ht h,k⟩
theorem QG {t:BF}{b:Bool}(h:bV m t ρ=some b)(k:Goes (if b=true then F else G) ρ P):Goes (sIf m t F G) ρ P:=by
 obtain⟨o,e,p⟩:=k
 refine⟨o,?_,p⟩
 show((bV m t ρ).bind fun b=>if b=true then F ρ else G ρ)=some o
 rw[h]
 cases b
 ·exact e
 ·exact e
theorem gL {t:BF}(h:bV m t ρ=some true)(k:Goes F ρ P):Goes (sIf m t F G) ρ P:=QG h k
theorem kS {t:BF}(h:bV m t ρ=some false)(k:Goes G ρ P):Goes (sIf m t F G) ρ P:=QG h k
theorem mI (k:P (.nx ρ)):Goes fC ρ P:=⟨_,rfl,k⟩
theorem mC {t:BF}(h:bV m t ρ=some false):sIf m t F fC ρ=some (.nx ρ):=by
 unfold sIf
 rw[h]
 rfl
theorem pI (h:Goes F ρ fun o=>∃ d,o = .rt d/\P o):Goes (bA F G) ρ P:=by
 obtain⟨o,e,d,rfl,p⟩:=h
 exact JA e p
theorem dG(h:f (vS ρ)=some d)(k:P (.rt d)):Goes (cW n .s f) ρ P:=⟨_,by
 unfold cW eV
 simp only[h,bE],k⟩
theorem MO(h:eV n m f ρ=some d)(hl:i<ρ.length)(k:P (.nx (ρ.set i (some (n,d))))):Goes (bS i n m f) ρ P:=
 ⟨_,by unfold bS; rw[h]; simp only[bE,if_pos hl],k⟩
theorem tO(h:f (vS ρ)=some d)(hl:i<ρ.length)(k:P (.nx (ρ.set i (some (n,d))))):Goes (bS i n .s f) ρ P:=MO h hl k
theorem qT(h:Goes F (frz i ρ) P):Goes (lE i F) ρ P:=h
theorem Jh(h:n≤1000000):GU 0 (n:Int)=some ((cF n).map fun(k:Nat)=>aU k):=by
 unfold GU
 rw[if_pos (by omega)]
 simp
theorem vN {fa:AF}{ρ:List (Option aA)}(h:fa ρ=some [.int n])(hn:n≤1000000):iR1 fa ρ=some ((cF n).map fun(k:Nat)=>aU k):=by
 have e:=Jh hn
 generalize some ((cF n).map fun(k:Nat)=>aU k)=y at e ⊢
 rw[← e]
 unfold iR1
 rw[h,bE]
theorem avS(h:fi (vS ρ)=some ds):aV .s fi ρ=some ds:=h
theorem ZM(I:Nat->aX->Prop)(h:aV m fi ρ=some ds)(h0:I 0 ρ)
  (step : ∀ i d ρ,ds[i]?=some d->I i ρ -> ∃ ρ1,T d ρ=some ρ1/\Goes F ρ1 fun o=>∃ ρ2,(o = .nx ρ2 \/ o = .ct ρ2)/\I (i+1) ρ2) (k : ∀ ρ',I ds.length ρ'->P (.nx ρ')):Goes (eE m fi T F) ρ P:=by
 obtain⟨ρ',e,i⟩:=Vl (F:=F) (T:=T) I h0 fun i d ρ hd p=>by
  obtain⟨ρ1,e1,o,e2,ρ2,e3,p2⟩:=step i d ρ hd p
  refine⟨ρ1,ρ2,e1,?_,p2⟩
  rcases e3 with rfl | rfl
  ·exact .inl e2
  ·exact .inr e2
 exact⟨_,IY h e,k ρ' i⟩
theorem yP(I:Nat->aX->Prop)(h:aV m fi ρ=some ((cF n).map fun(k:Nat)=>aU k))(h0:I 0 ρ)
  (step : ∀ (i:Nat) ρ,i<n->I i ρ -> ∃ ρ1,T (.int i) ρ=some ρ1/\Goes F ρ1 fun o=>∃ ρ2,(o = .nx ρ2 \/ o = .ct ρ2)/\I (i+1) ρ2) (k : ∀ ρ',I n ρ'->P (.nx ρ')):Goes (eE m fi T F) ρ P:=by
 refine ZM I h h0 (fun i d ρ hd p=>?_) (by simpa using k)
 have hlt:i<n:=by
  have:=(dD.mp hd).1
  simpa using this
 rw[eQ,GA hlt] at hd
 have:aU (i:Int)=d:=by simpa using hd
 subst this
 exact step i ρ hlt p
theorem eR {np:Nat}{body:SF}{Q:aA->Prop}(hl:ds.length=np)(h:Goes body (ds.map (fun d=>some (0,d))++BH (n - np) none) fun o=>∃ d,o = .rt d/\Q d) : ∃ d,fnD np n body ds=some d/\Q d:=by
 obtain⟨o,e,d,rfl,q⟩:=h
 exact⟨d,Fu hl e,q⟩
theorem ZC {cap:List (Option Nat)}{T:aA->List (Option aA)->Option (List (Option aA))}{t:BF}{ρ:List (Option aA)}(g:aA->aA)(h1:fi ρ=some ds)(h2:ds.length≤100000)
  (h : ∀ d∈ds,∃ ρ1,T d (lD cap ρ)=some ρ1/\t ρ1=some true/\f ρ1=some (g d)):eLC cap fi T t f ρ=some (.list (ds.map g)):=by
 unfold eLC
 rw[h1,bE,RO g ds h,bE,if_pos (nC h2)]
end L2
namespace L2
open PySem PySem.Spec PyProof.Rows
variable {f:EF}{ds:List aA}{d:aA}{kds:List (aA×aA)}
variable {F G:SF}{ρ:aX}{P:Out->Prop}{m:Md}
theorem gP{ρ:List (Option aA)}(h:f ρ=some (.list ds)):iIt f ρ=some ds:=by
 unfold iIt
 rw[h]
 rfl
theorem tQ{ρ:List (Option aA)}(h:f ρ=some (.tuple ds)):iIt f ρ=some ds:=by
 unfold iIt
 rw[h]
 rfl
theorem bD {fa:AF}{g:List aA->Option aA}{ρ:List (Option aA)}(h:fa ρ=some ds)(h2:g ds=some d):aO g fa ρ=some d:=by
 unfold aO
 rw[h]
 exact h2
theorem aZ {fa fb:EF}{g:aA->aA->Option aA}{ρ:List (Option aA)}{a b:aA}(h:fa ρ=some a)(h2:fb ρ=some b)(h3:g a b=some d):eOp g fa fb ρ=some d:=by
 unfold eOp
 rw[h,h2]
 exact h3
theorem yR {i:Nat}(h:f (vS ρ)=some d)(hg:getL i ρ=some ds)(hl:ds.length<100000)(k:P (.nx (ρ.set i (some (1,.list (ds++[d])))))):Goes (iJ i .s f) ρ P:=⟨_,by
 unfold iJ eV
 simp only[h,bE,hg,if_pos (tT (qC hl))],k⟩
theorem RL {i:Nat}{g:EF}{kd:aA}{key:aI}(h:f (vS ρ)=some d)(hg:nL i ρ=some kds)(hk:g (vS ρ)=some kd)(ha:bP kd=some key)(hl:kds.length<100000)(k:P (.nx (ρ.set i (some (1,.dict (putD kds key d)))))):Goes (qP i .s f .s g) ρ P:=⟨_,by
 unfold qP eV
 simp only[h,bE,hg,hk,ha,if_pos (tT (qC hl))],k⟩
def Ew (d:aA):Prop:=(∃ z,d = .str z/\nameS z) \/ ∃ i,d = .int i
theorem DK : ∀ {ts:List aA},(∀ t∈ts,bQ t=true)->bU ts=true
 | [],_=>by simp[bU]
 | t::r,h=>by
  simp only[bU,xX]
  exact⟨h t bO,DK fun x m=>h x (bT _ m)⟩
theorem EE {n:Nat} : ∀ {ts:List aA},(∀ t∈ts,t.depth≤n)->dA ts≤n
 | [],_=>by simp[dA]
 | t::r,h=>by
  simp only[dA]
  exact Nat.max_le.mpr ⟨h t bO,EE fun x m=>h x (bT _ m)⟩
theorem zP : ∀ {ts:List aA},(∀ t∈ts,noDict t=true)->noDicts ts=true
 | [],_=>by simp[noDicts]
 | t::r,h=>by
  simp only[noDicts,xX]
  exact⟨h t bO,zP fun x m=>h x (bT _ m)⟩
structure Kn (kds:List (aA×aA)):Prop where
 fit : ∀ kd∈kds,(∃ z,kd.1 = .str z)/\Ew kd.2
 once:(kds.map (·.1)).Nodup
theorem Kn.int(h:Kn kds)(i:Int):bW kds (.inl i)=none:=by
 have:(kds.find? fun kd=>decide (bP kd.1=some (.inl i)))=none:=by
  rw[GD]
  intro kd m
  obtain⟨⟨z,e⟩,_⟩:=h.fit kd m
  simp[e,bP]
 unfold bW
 rw[this]
 rfl
theorem CA(h : ∀ kd∈kds,kd.1 ≠ .none):plK kds=true:=by
 cases kds with
 | nil=>rfl
 | cons p r=>
  obtain⟨k,d⟩:=p
  have:=h (k,d) bO
  cases k <;> first | rfl | exact absurd rfl this
theorem As : ∀ {kss:List (List aA)},(∀ k∈kss,bU k=true/\dA k≤6)->oJ (kss.map dZ)=some kss
 | [],_=>rfl
 | k::r,h=>by
  show(if bU k=true/\dA k≤6 then(oJ (r.map dZ)).bind fun kss=>some (k::kss) else none)=_
  rw[if_pos (h k bO),As fun x m=>h x (bT _ m)]
  rfl
end L2
namespace L2
open PySem PySem.Spec PyProof.Rows
variable {f:EF}{i n:Nat}{d:aA}
variable {F G:SF}{ρ:aX}{P:Out->Prop}{m:Md}
theorem jO {α β:Type}{fi:AF}{T:aA->aX->Option aX}{xs:List α}{q:α->aA}(g:β->α->β)(I:Nat->β->aX->Prop){b0:β}(h:aV m fi ρ=some (xs.map q))(h0:I 0 b0 ρ)
  (step : ∀ i x b ρ,xs[i]?=some x->I i b ρ -> ∃ ρ1,T (q x) ρ=some ρ1/\Goes F ρ1 fun o=>∃ ρ2,(o = .nx ρ2 \/ o = .ct ρ2)/\I (i+1) (g b x) ρ2) (k : ∀ ρ',I xs.length (xs.foldl g b0) ρ'->P (.nx ρ')):Goes (eE m fi T F) ρ P:=by
 refine ZM (fun i ρ=>I i ((xs.take i).foldl g b0) ρ) h h0 (fun i d ρ hd p=>?_) (fun ρ' p=>k ρ' (by simpa using p))
 rw[eQ] at hd
 obtain⟨x,hx,rfl⟩:=nP.mp hd
 obtain⟨ρ1,e1,g1⟩:=step i x _ ρ hx p
 refine⟨ρ1,e1,g1.mono fun o ⟨ρ2,e,q⟩=>⟨ρ2,e,?_⟩⟩
 have:xs.take (i+1)=xs.take i++[x]:=by rw[FW,hx]; rfl
 rw[this,Cg]
 exact q
def aft (F:SF)(T:aA->aX->Option aX)(ds:List aA):Out->Option Out
 | .nx ρ=>jI F T ds ρ
 | .ct ρ=>jI F T ds ρ
 | .bk ρ=>some (.nx ρ)
 | .rt d=>some (.rt d)
theorem RZ {T:aA->List (Option aA)->Option (List (Option aA))}{t:BF}{ρ:List (Option aA)}{α:Type}{q:α->aA}(p:α->Bool)(g:α->aA) : ∀ (xs:List α),
  (∀ x∈xs,∃ ρ1,T (q x) ρ=some ρ1/\t ρ1=some (p x)/\(p x=true->f ρ1=some (g x)))->lcD T t f ρ (xs.map q)=some ((xs.filter p).map g)
 | [],_=>rfl
 | x::xs,h=>by
  obtain⟨ρ1,e1,e2,e3⟩:=h x bO
  have ih:=RZ p g xs fun y m=>h y (bT _ m)
  show((T (q x) ρ).bind fun ρ1=>(t ρ1).bind fun c=>if c=true then(f ρ1).bind fun y=>(lcD T t f ρ (xs.map q)).bind fun ys=>some (y::ys) else lcD T t f ρ (xs.map q))=_
  rw[e1,bE,e2,bE,ih]
  cases hp:p x with
  | true=>rw[if_pos rfl,e3 hp,List.filter_cons_of_pos hp]; rfl
  | false=>rw[if_neg (by simp),List.filter_cons_of_neg (by simp[hp])]
theorem jP {cap:List (Option Nat)}{fi:AF}{T:aA->List (Option aA)->Option (List (Option aA))}{t:BF}{ρ:List (Option aA)}{α:Type}{xs:List α}{q:α->aA}(p:α->Bool)(g:α->aA)(h1:fi ρ=some (xs.map q))(h2:xs.length≤100000)
  (h : ∀ x∈xs,∃ ρ1,T (q x) (lD cap ρ)=some ρ1/\t ρ1=some (p x)/\(p x=true->f ρ1=some (g x))):eLC cap fi T t f ρ=some (.list ((xs.filter p).map g)):=by
 unfold eLC
 rw[h1,bE,RZ p g xs h,bE,if_pos (nC (by simpa using h2))]
theorem ZF(h:eV n m f ρ=some d)(hl:i<ρ.length):bS i n m f ρ=some (.nx (ρ.set i (some (n,d)))):=by
 obtain⟨o,e,q⟩:=MO (P:=fun o=>o = .nx (ρ.set i (some (n,d)))) h hl rfl
 rw[e,q]
theorem cR(h:f (vS ρ)=some d)(hl:i<ρ.length)(k:Goes G (ρ.set i (some (n,d))) P):Goes (bA (bS i n .s f) G) ρ P:=gK (ZF h hl) k
theorem My(h:f (vA ρ)=some d)(hf:gC n d=true)(hl:i<ρ.length)(k:Goes G (ρ.set i (some (n,d))) P):Goes (bA (bS i n .a f) G) ρ P:=
 gK (ZF (m:=.a) (by show((f (vA ρ)).bind fun d=>if (gC n d||(uQ ρ&&decide (n<9)&&iM n d)||(rN ρ&&decide (n=0)&&ftD d))=true then some d else none)=_; rw[h,bE,hf,GL,GL,if_pos rfl]) hl) k
theorem vG {fa:EF}{g:aA->Option aA}{ρ:List (Option aA)}{a:aA}(h:fa ρ=some a)(h3:g a=some d):eUn g fa ρ=some d:=by
 unfold eUn
 rw[h]
 exact h3
theorem bL{g:AF}{ρ:List (Option aA)}{ds:List aA}(h:f ρ=some d)(h2:g ρ=some ds):aG f g ρ=some (d::ds):=by
 unfold aG
 rw[h,h2]
 rfl
end L2
namespace L2
def jH {α:Type}[DecidableEq α](acc:List α)(z:α):List α:=if z∈acc then acc else acc++[z]
def sW {α:Type}[DecidableEq α](zs:List α):List α:=zs.foldl jH []
section
variable {α:Type}[DecidableEq α]
theorem Av5 {acc:List α}{z x:α}:x∈jH acc z↔x∈acc \/ x=z:=by
 unfold jH
 split
 ·rename_i h
  exact⟨.inl,fun q=>q.elim id fun e=>e ▸ h⟩
 ·simp
theorem VI {x:α} : ∀ (zs acc:List α),x∈zs.foldl jH acc↔x∈acc \/ x∈zs
 | [],acc=>by simp
 | z::zs,acc=>by
  rw[oV,VI zs,Av5]
  simp only[cY]
  constructor
  ·rintro((h | h) | h)
   ·exact .inl h
   ·exact .inr (.inl h)
   ·exact .inr (.inr h)
  ·rintro(h | h | h)
   ·exact .inl (.inl h)
   ·exact .inl (.inr h)
   ·exact .inr h
theorem Xo {x:α}{zs:List α}:x∈sW zs↔x∈zs:=by
 unfold sW
 rw[VI]
 simp
theorem UF (acc:List α)(z:α):(jH acc z).length≤acc.length+1:=by
 unfold jH
 split <;> simp
theorem ED : ∀ (zs acc:List α),(zs.foldl jH acc).length≤acc.length+zs.length
 | [],acc=>by simp
 | z::zs,acc=>by
  have h1:=ED zs (jH acc z)
  have h2:=UF acc z
  rw[oV,fN]
  omega
end
open PySem PySem.Spec PyProof.Rows
structure KnR (R:aA->Prop)(kds:List (aA×aA)):Prop where
 fit : ∀ kd∈kds,(∃ z,kd.1 = .str z)/\R kd.2
 once:(kds.map (·.1)).Nodup
variable {R:aA->Prop}{kds:List (aA×aA)}
theorem KnR.look (h:KnR R kds) : ∀ kd∈kds,∃ z,kd.1 = .str z/\bW kds (.inr z)=some kd.2:=by
 obtain⟨hf,ho⟩:=h
 induction kds with
 | nil=>intro _ m; simp at m
 | cons a r ih=>
  rw[dH,jW] at ho
  intro kd m
  obtain⟨z,ez⟩:=(hf kd m).1
  refine⟨z,ez,?_⟩
  rcases cY.mp m with rfl | m
  ·simp[bW,fZ,ez,bP]
  ·obtain⟨z',e1,e2⟩:=ih (fun x m=>hf x (bT _ m)) ho.2 kd m
   obtain rfl:z'=z:=by
    have q:=e1.symm.trans ez
    injection q
   have hne : ¬ bP a.1=some (.inr z'):=fun q=>ho.1 (dC.mpr ⟨kd,m,by rw[e1]; exact(uA q).symm⟩)
   have e3:bW (a::r) (.inr z')=bW r (.inr z'):=by simp[bW,fZ,hne]
   rw[e3]
   exact e2
theorem KnR.hit (h:KnR R kds)(hs : ∀ d,R d->cJ d d=true) : ∀ {r:List (aA×aA)},(∀ kd∈r,kd∈kds)->rK kds r=true
 | [],_=>rfl
 | (k,d)::r,hr=>by
  have m:=hr (k,d) bO
  obtain⟨z,e,q⟩:=h.look (k,d) m
  have e':k = .str z:=e
  have q':bW kds (.inr z)=some d:=q
  subst e'
  simp only[rK,bP,bE,q',hs d (h.fit (cM z,d) m).2,xW]
  exact h.hit hs fun kd mm=>hr kd (bT _ mm)
theorem KnR.pl (h:KnR R kds):plK kds=true:=CA fun kd m=>by
 obtain⟨⟨z,e⟩,_⟩:=h.fit kd m
 rw[e]
 exact fun q=>nomatch q
theorem KnR.eqK (h:KnR R kds)(hs : ∀ d,R d->cJ d d=true)(ho : ∀ d,R d->dE d=true)(neg:Bool):uP neg (.dict kds) (.dict kds)=some (.bool (neg != true)):=by
 have h1:valsOk kds=true:=fH.mpr fun kd m=>ho _ (h.fit kd m).2
 have h2:=h.hit hs (r:=kds) fun _ m=>m
 simp[uP,h1,BZ,h2,h.pl]
def bF (r:List Int):aA:=.tuple (r.map aU)
def bX (rs:List (List Int)):aA:=.list (rs.map bF)
theorem JK (r:List Int):bQ (bF r)=true:=by
 show bU (r.map aU)=true
 refine DK fun t m=>?_
 obtain⟨i,_,rfl⟩:=dC.mp m
 rfl
theorem RQ (rs:List (List Int)):bU (rs.map bF)=true:=DK fun t m=>by
 obtain⟨r,_,rfl⟩:=dC.mp m
 exact JK r
theorem Od (rs:List (List Int)):cJ (bX rs) (bX rs)=true:=by
 have:=zK _ _ (RQ rs) (RQ rs)
 simp[bX,cJ,this]
theorem ML {n j:Nat}(h:j<n):ixN n (j:Int)=some j:=by
 unfold ixN
 rw[if_pos (by omega),if_pos (by omega)]
 simp
theorem CM {fd fk fx:EF}{ρ:List (Option aA)}{kds:List (aA×aA)}{kd x:aA}{key:aI}(h1:fd ρ=some (.dict kds))(h2:fk ρ=some kd)(ha:bP kd=some key)(h3:fx ρ=some x)(hp:plK kds=true:=by first | assumption | rfl | simp):kB fd fk fx ρ=some ((bW kds key).getD x):=by
 unfold kB
 rw[h1,bE,h2,bE,h3,bE]
 show(if plK kds=true then(bP kd).bind fun k=>some ((bW kds k).getD x) else none)=_
 rw[if_pos hp,ha]
 rfl
end L2
namespace L2
open PySem PySem.Spec PyProof.Rows
variable {F G:SF}{ρ:aX}{P:Out->Prop}{m:Md}
def fD {α β:Type}(g:β->α->Option β):β->List α->Option β
 | b,[]=>some b
 | b,x::xs=>(g b x).bind fun b'=>fD g b' xs
def BW {β:Type}(I:β->aX->Prop)(r:aA)(t:Option β)(o:Out):Prop:=match t with
 | none=>o = .rt r
 | some b=>∃ ρ2,o = .nx ρ2/\I b ρ2
def AN {β:Type}(I:β->aX->Prop)(r:aA)(t:Option β)(o:Out):Prop:=match t with
 | none=>o = .rt r
 | some b=>∃ ρ2,(o = .nx ρ2 \/ o = .ct ρ2)/\I b ρ2
theorem XD {α β:Type}(g:β->α->Option β)(x:α) : ∀ (xs:List α) (b:β),fD g b (xs++[x])=(fD g b xs).bind fun b'=>g b' x
 | [],b=>by
  show((g b x).bind fun b'=>some b')=g b x
  cases g b x <;> rfl
 | y::ys,b=>by
  show((g b y).bind fun b'=>fD g b' (ys++[x]))=((g b y).bind fun b'=>fD g b' ys).bind _
  cases g b y with
  | none=>rfl
  | some b'=>exact XD g x ys b'
theorem YX {T:aA->aX->Option aX}{α β:Type}{q:α->aA}(g:β->α->Option β)(I:β->aX->Prop)(r:aA){all:List α}{b0:β}
  (step : ∀ pre x post b ρ,all=pre++x::post->fD g b0 pre=some b->I b ρ -> ∃ ρ1,T (q x) ρ=some ρ1/\Goes F ρ1 (AN I r (g b x))) : ∀ {xs pre:List α} {b:β} {ρ:aX},all=pre++xs->fD g b0 pre=some b->I b ρ -> ∃ o,jI F T (xs.map q) ρ=some o/\BW I r (fD g b xs) o
 | [],pre,b,ρ,_,_,h0=>⟨_,rfl,ρ,rfl,h0⟩
 | x::xs,pre,b,ρ,ha,hb,h0=>by
  obtain⟨ρ1,e1,o,e2,h⟩:=step pre x xs b ρ ha hb h0
  have e:jI F T ((x::xs).map q) ρ=aft F T (xs.map q) o:=by
   show((T (q x) ρ).bind fun ρ1=>(F ρ1).bind fun o=>_)=_
   rw[e1,bE,e2,bE]
   cases o <;> rfl
  rw[e]
  show ∃ o',aft F T (xs.map q) o=some o'/\BW I r ((g b x).bind fun b'=>fD g b' xs) o'
  cases hg:g b x with
  | none=>
   rw[hg] at h
   have h:o = .rt r:=h
   subst h
   exact⟨_,rfl,rfl⟩
  | some b'=>
   rw[hg] at h
   obtain⟨ρ2,ho,i2⟩:=h
   obtain⟨o',e',h'⟩:=YX g I r step (pre:=pre++[x]) (xs:=xs) (by simpa using ha) (by rw[XD,hb]; exact hg) i2
   rcases ho with rfl | rfl
   ·exact⟨o',e',h'⟩
   ·exact⟨o',e',h'⟩
theorem Mx {α β:Type}{fi:AF}{T:aA->aX->Option aX}{xs:List α}{q:α->aA}{b0:β}(g:β->α->Option β)(I:β->aX->Prop)(r:aA)(h:aV m fi ρ=some (xs.map q))(h0:I b0 ρ)
  (step : ∀ pre x post b ρ,xs=pre++x::post->fD g b0 pre=some b->I b ρ -> ∃ ρ1,T (q x) ρ=some ρ1/\Goes F ρ1 (AN I r (g b x))):Goes (eE m fi T F) ρ (BW I r (fD g b0 xs)):=by
 obtain⟨o,e,h'⟩:=YX g I r step (xs:=xs) (pre:=[]) (by simp) rfl h0
 exact⟨o,IY h e,h'⟩
theorem Ml {β:Type}(I:β->aX->Prop)(r:aA)(t:Option β)(h:Goes F ρ (BW I r t))(k1:t=none->P (.rt r))(k2 : ∀ b,t=some b -> ∀ ρ',I b ρ'->Goes G ρ' P):Goes (bA F G) ρ P:=by
 obtain⟨o,e,h⟩:=h
 cases t with
 | none=>
  have h:o = .rt r:=h
  subst h
  exact JA e (k1 rfl)
 | some b=>
  obtain⟨ρ2,rfl,i2⟩:=h
  exact gK e (k2 b rfl ρ2 i2)
def dN (p:aC×Int):aA×aA:=(.str p.1,.int p.2)
def DN (kn:List (aC×Int)):List (aA×aA):=kn.map dN
def cH (kn:List (aC×Int))(z:aC):Option Int:=(kn.find? fun p=>decide (p.1=z)).map (·.2)
theorem yQ (kn:List (aC×Int))(z:aC):bW (DN kn) (.inr z)=(cH kn z).map aU:=by
 unfold bW cH DN
 induction kn with
 | nil=>rfl
 | cons p r ih=>
  rw[dH,fZ,fZ]
  have e:bP (dN p).1=some (.inr p.1):=rfl
  rw[e]
  by_cases h:p.1=z
  ·simp[h,dN]
  ·have h' : ¬ (some (fW p.1:aI)=some (fW z)):=fun q=>h (by injection q with q; injection q)
   rw[decide_eq_false h',decide_eq_false h]
   exact ih
theorem Tq (kn:List (aC×Int))(i:Int):bW (DN kn) (.inl i)=none:=by
 unfold bW DN
 have:((kn.map dN).find? fun kd=>decide (bP kd.1=some (.inl i)))=none:=by
  rw[GD]
  intro kd m
  obtain⟨p,_,rfl⟩:=dC.mp m
  simp[dN,bP]
 rw[this]
 rfl
theorem IS {kn:List (aC×Int)}{z:aC}(h:cH kn z=none)(v:Int):putD (DN kn) (.inr z) (.int v)=DN (kn++[(z,v)]):=by
 unfold putD DN
 have hn : ¬ ((kn.map dN).any fun kd=>decide (bP kd.1=some (.inr z)))=true:=fun q=>by
  obtain⟨kd,m,e⟩:=GF.mp q
  obtain⟨p,mp,rfl⟩:=dC.mp m
  have e':p.1=z:=by
   have:=of_decide_eq_true e
   have:some (fW p.1:aI)=some (fW z):=this
   injection this with this
   injection this
  unfold cH at h
  have h2:=NM.mp h
  have:=GD.mp h2 p mp
  exact this (decide_eq_true e')
 rw[if_neg hn,kN]
 rfl
theorem zN {kn:List (aC×Int)}{z:aC}(h:cH kn z=none)(v:Int)(y:aC):cH (kn++[(z,v)]) y=if y=z then some v else cH kn y:=by
 unfold cH at *
 rw[List.find?_append]
 by_cases e:y=z
 ·subst e
  rw[if_pos rfl,NM.mp h]
  simp
 ·rw[if_neg e]
  have e' : ¬ z=y:=fun q=>e q.symm
  cases q:kn.find? fun p=>decide (p.1=y) with
  | none=>simp[e']
  | some p=>rfl
def eP (kn:List (aC×Int))(p:aI×Int):Option (List (aC×Int)):=match p.1 with
 | .inl i=>if p.2=i then some kn else none
 | .inr z=>match cH kn z with
  | some u=>if p.2=u then some kn else none
  | none=>some (kn++[(z,p.2)])
theorem wO : ∀ {ps:List (aI×Int)} {kn kn':List (aC×Int)},fD eP kn ps=some kn' ->
  (∀ z u,cH kn z=some u->cH kn' z=some u)/\(∀ p∈ps,(∀ i,p.1 = .inl i->p.2=i) /\ ∀ z,p.1 = .inr z->cH kn' z=some p.2)/\(∀ z u,cH kn' z=some u->cH kn z=some u \/ ∃ p∈ps,p.1 = .inr z)
 | [],kn,kn',h=>by
  cases h
  exact⟨fun _ _ e=>e,fun _ m=>by simp at m,fun _ _ e=>.inl e⟩
 | (.inl i,v)::ps,kn,kn',h=>by
  obtain⟨k1,e1,e2⟩:=XBs (show((eP kn (.inl i,v)).bind fun b'=>fD eP b' ps)=some kn' from h)
  have e1:(if v=i then some kn else none)=some k1:=e1
  obtain⟨hv,rfl⟩:=cN e1
  obtain⟨a,b,c⟩:=wO e2
  refine⟨a,fun p m=>?_,fun z u e=>(c z u e).imp id fun⟨p,m,q⟩=>⟨p,bT _ m,q⟩⟩
  rcases cY.mp m with rfl | m
  ·exact⟨fun i' q=>(by cases q; exact hv),fun z q=>(by cases q)⟩
  ·exact b p m
 | (.inr z,v)::ps,kn,kn',h=>by
  obtain⟨k1,e1,e2⟩:=XBs (show((eP kn (.inr z,v)).bind fun b'=>fD eP b' ps)=some kn' from h)
  obtain⟨a,b,c⟩:=wO e2
  cases hl:cH kn z with
  | some u=>
   have e1:(match cH kn z with | some u=>if v=u then some kn else none | none=>some (kn++[(z,v)]))=some k1:=e1
   rw[hl] at e1
   obtain⟨hv,rfl⟩:=cN e1
   refine⟨a,fun p m=>?_,fun z' u' e=>(c z' u' e).imp id fun⟨p,m,q⟩=>⟨p,bT _ m,q⟩⟩
   rcases cY.mp m with rfl | m
   ·exact⟨fun i' q=>(by cases q),fun z' q=>(by cases q; rw[a z u hl,hv])⟩
   ·exact b p m
  | none=>
   have e1:(match cH kn z with | some u=>if v=u then some kn else none | none=>some (kn++[(z,v)]))=some k1:=e1
   rw[hl] at e1
   cases e1
   refine⟨fun y u e=>a y u (by rw[zN hl,if_neg fun q=>by rw[q,hl] at e; cases e]; exact e),fun p m=>?_,fun y u e=>?_⟩
   ·rcases cY.mp m with rfl | m
    ·exact⟨fun i' q=>(by cases q),fun z' q=>(by cases q; exact a z v (by rw[zN hl,if_pos rfl]))⟩
    ·exact b p m
   ·rcases c y u e with q | ⟨p,m,q⟩
    ·rw[zN hl] at q
     by_cases hy:y=z
     ·exact .inr ⟨_,bO,by rw[hy]⟩
     ·rw[if_neg hy] at q
      exact .inl q
    ·exact .inr ⟨p,bT _ m,q⟩
theorem zF : ∀ {ps:List (aI×Int)} {kn:List (aC×Int)},(∀ p∈ps,∀ i,p.1 = .inl i->p.2=i)->(∀ p∈ps,∀ z u,p.1 = .inr z->cH kn z=some u->p.2=u)->(∀ p∈ps,∀ p'∈ps,∀ z,p.1 = .inr z->p'.1 = .inr z->p.2=p'.2) -> ∃ kn',fD eP kn ps=some kn'
 | [],kn,_,_,_=>⟨kn,rfl⟩
 | (.inl i,v)::ps,kn,h1,h2,h3=>by
  have hv:v=i:=h1 _ bO i rfl
  obtain⟨kn',e⟩:=zF (kn:=kn) (fun p m=>h1 p (bT _ m)) (fun p m=>h2 p (bT _ m)) (fun p m p' m'=>h3 p (bT _ m) p' (bT _ m'))
  refine⟨kn',?_⟩
  show((if v=i then some kn else none).bind fun b'=>fD eP b' ps)=some kn'
  rw[if_pos hv]
  exact e
 | (.inr z,v)::ps,kn,h1,h2,h3=>by
  cases hl:cH kn z with
  | some u=>
   have hv:v=u:=h2 _ bO z u rfl hl
   obtain⟨kn',e⟩:=zF (kn:=kn) (fun p m=>h1 p (bT _ m)) (fun p m=>h2 p (bT _ m)) (fun p m p' m'=>h3 p (bT _ m) p' (bT _ m'))
   refine⟨kn',?_⟩
   show((match cH kn z with | some u=>if v=u then some kn else none | none=>some (kn++[(z,v)])).bind fun b'=>fD eP b' ps)=some kn'
   rw[hl]
   show((if v=u then some kn else none).bind fun b'=>fD eP b' ps)=some kn'
   rw[if_pos hv]
   exact e
  | none=>
   obtain⟨kn',e⟩:=zF (kn:=kn++[(z,v)]) (fun p m=>h1 p (bT _ m)) (fun p m y u q e=>by
    rw[zN hl] at e
    by_cases hy:y=z
    ·rw[if_pos hy] at e
     cases e
     exact h3 p (bT _ m) _ bO z (by rw[q,hy]) rfl
    ·rw[if_neg hy] at e
     exact h2 p (bT _ m) y u q e) (fun p m p' m'=>h3 p (bT _ m) p' (bT _ m'))
   refine⟨kn',?_⟩
   show((match cH kn z with | some u=>if v=u then some kn else none | none=>some (kn++[(z,v)])).bind fun b'=>fD eP b' ps)=some kn'
   rw[hl]
   exact e
end L2
namespace Aw
open PySem L2
variable {n i:Nat}{y x:Bool}{z:aC}{f:EF}{ρ:List (Option aA)}{F:SF}{fa:AF}{R:List (List Int)}
abbrev s0 (d:aA):L2.Slot:=some (0,d)
abbrev lI (ms:List Int):aA:=.list (ms.map aU)
def Ak7 (n:Nat)(z:aC):Prop:=cQ (.str z)=true/\z.length≤n
theorem Ak7.cat {m:Nat}{y:aC}(h:Ak7 n y)(h2:Ak7 m z):Ak7 (n+m) (y++z):=⟨XH h.1 h2.1,by
 have:(y++z).length=y.length+z.length:=by
  show(y.cps++z.cps).size=_
  rw[Array.size_append]; rfl
 have:=h.2
 have:=h2.2
 omega⟩
theorem Ak7.cut(h:Ak7 n z)(lo hi:Option Int):Ak7 n (iX z lo hi):=⟨UD lo hi h.1,dS (UI z lo hi) h.2⟩
theorem SD {m:Nat}{y:aC}(h:Ak7 n y)(h2:Ak7 m z)(hs:n+m≤100000):dI (.str y) (.str z)=some (.str (y++z)):=by
 show(if y.length+z.length≤sizeLine then some (cM (y++z)) else none)=_
 rw[if_pos (nC (by have:=h.2; have:=h2.2; omega))]
theorem IL(h:Ak7 n z)(hn:n≤100000){lo hi:OF}{l u:Option Int}(e1:f ρ=some (.str z))(e2:lo ρ=some l)(e3:hi ρ=some u):eSl f lo hi ρ=some (.str (iX z l u)):=by
 unfold eSl
 rw[e1,bE,e2,bE,e3,bE]
 show(if z.length≤sizeLine then some (cM (iX z l u)) else none)=_
 rw[if_pos (nC (dS h.2 hn))]
theorem qW (a b:Int):gEq (.int a) (.int b)=some (.bool (decide (a=b))):=by
 show some (lA (cJ (.int a) (.int b)))=_
 congr 2
theorem RM {α:Type}{q:α->aA}{xs:List α}{j:Nat}{x:α}(h:xs[j]?=some x):gIx (.list (xs.map q)) (.int j)=some (q x):=CO (by rw[eQ,h]; rfl)
abbrev tK (ks:List aI):aA:=.tuple (ks.map kD)
abbrev tI (row:List Int):aA:=.tuple (row.map aU)
def uV:Option (List (aC×Int))->aA
 | none=>.none
 | some kn=>.dict (DN kn)
def HN (p:aI×Int):aA:=pairD (kD p.1) (.int p.2)
theorem TV (ks:List aI)(row:List Int):xN pairD (ks.map kD) (row.map aU)=(ks.zip row).map HN:=by
 rw[List.zipWith_map,List.zip,List.map_zipWith]
 rfl
theorem CS (k:aI):fS "str" (kD k)=some (.bool (match k with | .inr _=>true | .inl _=>false)):=by
 cases k <;> simp[fS,lG,isK,kD]
theorem ne_int (a b:Int):gNe (.int a) (.int b)=some (.bool (decide (a≠b))):=by
 have:cJ (.int a) (.int b)=decide (a=b):=by
  rw[show cJ (.int a) (.int b)=(a == b) by simp[cJ],pA]
  simp
 simp[gNe,dE,noDict,mO,this]
def dF (ks:List aI)(row:List Int)(kn:List (aC×Int)):Option (List (aC×Int)):=if row.length=ks.length then fD eP kn (ks.zip row) else none
theorem CQ (ds:List aA):cV [.tuple ds]=some (.int ds.length):=by simp[cV]
theorem Jb {ks:List aI}{row:List Int}{g:EF}(h1:f ρ=some (tI row))(h2:g ρ=some (tK ks)) :
  eOp gNe (aO cV (aG f aM)) (aO cV (aG g aM)) ρ=some (.bool (decide (row.length≠ks.length))):=by
 refine aZ (a:=.int row.length) (b:=.int ks.length) (bD (bL h1 rfl) (by rw[CQ,cZ])) (bD (bL h2 rfl) (by rw[CQ,cZ])) ?_
 rw[ne_int]
 congr 2
 rw[pA]
 simp
 omega
theorem fO{b:Bool}(h:f ρ=some (.bool b)):bOf f ρ=some b:=by
 unfold bOf
 rw[h]
 rfl
theorem Xh (L:L2.Slot)(R K:L2.Slot)(kn:List (aC×Int))(hkn:kn.length≤1000)(p:aI×Int)(x6:L2.Slot) :
  Goes (bA (sSD 6 3 .s (bOf (eUn (fS "str") (aB 4))) .s (aB 4) .s (aB 5) .s (aB 4)) (sIf .s (bOf (eOp gNe (aB 5) (aB 6))) (cW 1 .s (eC .none)) fC)) [L,R,K,some (1,.dict (DN kn)),some (0,kD p.1),some (0,.int p.2),x6]
   (AN (fun kn' ρ'=>∃ x4 x5 x6:L2.Slot,ρ'=[L,R,K,some (1,.dict (DN kn')),x4,x5,x6]) .none (eP kn p)):=by
 have lz:(DN kn).length<sizeLine:=tT (by simp[DN]; omega)
 obtain⟨t,v⟩:=p
 cases t with
 | inl i=>
  have e1:sSD 6 3 .s (bOf (eUn (fS "str") (aB 4))) .s (aB 4) .s (aB 5) .s (aB 4) [L,R,K,some (1,.dict (DN kn)),some (0,.int i),some (0,.int v),x6]=some (.nx [L,R,K,some (1,.dict (DN kn)),some (0,.int i),some (0,.int v),some (0,.int i)]):=by
   have b:bV .s (bOf (eUn (fS "str") (aB 4))) [L,R,K,some (1,.dict (DN kn)),some (0,.int i),some (0,.int v),x6]=some false:=fO (vG (a:=.int i) rfl (CS (.inl i)))
   unfold sSD
   rw[b,bE,if_neg jG]
   rfl
  refine gK e1 ?_
  have e2:bV .s (bOf (eOp gNe (aB 5) (aB 6))) [L,R,K,some (1,.dict (DN kn)),some (0,.int i),some (0,.int v),some (0,.int i)]=some (decide (v≠i)):=fO (aZ (a:=.int v) (b:=.int i) rfl rfl (ne_int v i))
  by_cases h:v=i
  ·refine kS (e2.trans (by simp[h])) (mI ?_)
   show AN _ _ (if v=i then some kn else none) _
   rw[if_pos h]
   exact⟨_,.inl rfl,_,_,_,rfl⟩
  ·refine gL (e2.trans (by simp[h])) (dG (d:=.none) rfl ?_)
   show AN _ _ (if v=i then some kn else none) _
   rw[if_neg h]
   rfl
 | inr z=>
  have b:bV .s (bOf (eUn (fS "str") (aB 4))) [L,R,K,some (1,.dict (DN kn)),some (0,.str z),some (0,.int v),x6]=some true:=fO (vG (a:=.str z) rfl (CS (.inr z)))
  cases hl:cH kn z with
  | some u=>
   have e1:sSD 6 3 .s (bOf (eUn (fS "str") (aB 4))) .s (aB 4) .s (aB 5) .s (aB 4) [L,R,K,some (1,.dict (DN kn)),some (0,.str z),some (0,.int v),x6]=some (.nx [L,R,K,some (1,.dict (DN kn)),some (0,.str z),some (0,.int v),some (0,.int u)]):=by
    unfold sSD
    rw[b,bE,if_pos rfl]
    show(if 6<7/\(DN kn).length<sizeLine then some (Out.nx (match bW (DN kn) (.inr z) with
     | some u=>[L,R,K,some (1,.dict (DN kn)),some (0,.str z),some (0,.int v),some (0,u)]
     | none=>[L,R,K,some (1,.dict (putD (DN kn) (.inr z) (.int v))),some (0,.str z),some (0,.int v),some (0,.int v)])) else none)=_
    rw[if_pos ⟨by omega,lz⟩,yQ,hl]
    rfl
   refine gK e1 ?_
   have e2:bV .s (bOf (eOp gNe (aB 5) (aB 6))) [L,R,K,some (1,.dict (DN kn)),some (0,.str z),some (0,.int v),some (0,.int u)]=some (decide (v≠u)):=fO (aZ (a:=.int v) (b:=.int u) rfl rfl (ne_int v u))
   have ef:eP kn (.inr z,v)=if v=u then some kn else none:=by
    show(match cH kn z with | some u=>if v=u then some kn else none | none=>some (kn++[(z,v)]))=_
    rw[hl]
   rw[ef]
   by_cases h:v=u
   ·refine kS (e2.trans (by simp[h])) (mI ?_)
    rw[if_pos h]
    exact⟨_,.inl rfl,_,_,_,rfl⟩
   ·refine gL (e2.trans (by simp[h])) (dG (d:=.none) rfl ?_)
    rw[if_neg h]
    rfl
  | none=>
   have e1:sSD 6 3 .s (bOf (eUn (fS "str") (aB 4))) .s (aB 4) .s (aB 5) .s (aB 4) [L,R,K,some (1,.dict (DN kn)),some (0,.str z),some (0,.int v),x6]=some (.nx [L,R,K,some (1,.dict (DN (kn++[(z,v)]))),some (0,.str z),some (0,.int v),some (0,.int v)]):=by
    unfold sSD
    rw[b,bE,if_pos rfl]
    show(if 6<7/\(DN kn).length<sizeLine then some (Out.nx (match bW (DN kn) (.inr z) with
     | some u=>[L,R,K,some (1,.dict (DN kn)),some (0,.str z),some (0,.int v),some (0,u)]
     | none=>[L,R,K,some (1,.dict (putD (DN kn) (.inr z) (.int v))),some (0,.str z),some (0,.int v),some (0,.int v)])) else none)=_
    rw[if_pos ⟨by omega,lz⟩,yQ,hl,IS hl]
    rfl
   refine gK e1 ?_
   have e2:bV .s (bOf (eOp gNe (aB 5) (aB 6))) [L,R,K,some (1,.dict (DN (kn++[(z,v)]))),some (0,.str z),some (0,.int v),some (0,.int v)]=some (decide (v≠v)):=fO (aZ (a:=.int v) (b:=.int v) rfl rfl (ne_int v v))
   have ef:eP kn (.inr z,v)=some (kn++[(z,v)]):=by
    show(match cH kn z with | some u=>if v=u then some kn else none | none=>some (kn++[(z,v)]))=_
    rw[hl]
   rw[ef]
   exact kS (e2.trans (by simp)) (mI ⟨_,.inl rfl,_,_,_,rfl⟩)
theorem DV : ∀ {ps:List (aI×Int)} {kn kn':List (aC×Int)},fD eP kn ps=some kn'->kn'.length≤kn.length+ps.length
 | [],kn,kn',h=>by cases h; simp
 | p::ps,kn,kn',h=>by
  obtain⟨k1,e1,e2⟩:=XBs (show((eP kn p).bind fun b'=>fD eP b' ps)=some kn' from h)
  have h1:=DV e2
  have h2:k1.length≤kn.length+1:=by
   unfold eP at e1
   split at e1
   ·obtain⟨_,rfl⟩:=cN e1; omega
   ·split at e1
    ·obtain⟨_,rfl⟩:=cN e1; omega
    ·cases e1; simp
  rw[fN]
  omega
theorem plN (kn:List (aC×Int)):plK (DN kn)=true:=CA fun kd m=>by
 obtain⟨p,_,rfl⟩:=dC.mp m
 exact fun q=>nomatch q
theorem ZQ {c:Prop}[Decidable c]{α:Type}{a:Option α}{b:α}(h:(if c then a else none)=some b):c/\a=some b:=by
 by_cases q:c
 ·rw[if_pos q] at h; exact⟨q,h⟩
 ·rw[if_neg q] at h; cases h
def putN (kn:List (aC×Int))(z:aC)(v:Int):List (aC×Int):=if (cH kn z).isSome=true then kn.map fun p=>if p.1=z then(p.1,v) else p else kn++[(z,v)]
theorem Jq (kn:List (aC×Int))(z:aC)(v:Int):putD (DN kn) (.inr z) (.int v)=DN (putN kn z v):=by
 unfold putN
 cases h:cH kn z with
 | none=>exact IS h v
 | some u=>
  rw[if_pos (show(some u).isSome=true from rfl)]
  unfold putD DN
  have hy:((kn.map dN).any fun kd=>decide (bP kd.1=some (.inr z)))=true:=by
   unfold cH at h
   obtain⟨p,e,_⟩:=nP.mp h
   refine GF.mpr ⟨dN p,dC.mpr ⟨p,NV e,rfl⟩,?_⟩
   have:p.1=z:=by simpa using Ck e
   show decide (some (fW p.1:aI)=some (fW z))=true
   rw[this]
   simp
  rw[if_pos hy,fM,fM]
  refine rT fun p _=>?_
  show(if some (fW p.1:aI)=some (fW z) then((dN p).1,aU v) else dN p)=dN (if p.1=z then(p.1,v) else p)
  by_cases e:p.1=z
  ·rw[if_pos (by rw[e]),if_pos e]; rfl
  ·rw[if_neg (fun q=>e (by injection q with q; injection q)),if_neg e]
theorem On (kn:List (aC×Int))(z y:aC)(v:Int):cH (putN kn z v) y=if y=z then some v else cH kn y:=by
 unfold putN
 cases h:cH kn z with
 | none=>rw[if_neg (by simp)]; exact zN h v y
 | some u=>
  rw[if_pos (show(some u).isSome=true from rfl)]
  induction kn with
  | nil=>cases h
  | cons p r ih=>
   unfold cH at h ⊢
   rw[dH,fZ,fZ]
   rw[fZ] at h
   have key:((if p.1=z then(p.1,v) else p).1:aC)=p.1:=by split <;> rfl
   by_cases hp:p.1=z
   ·rw[if_pos hp]
    by_cases hy:y=z
    ·have:p.1=y:=by rw[hp,hy]
     simp[this,hy]
    ·have n1 : ¬ p.1=y:=fun q=>hy (by rw[← q,hp])
     rw[decide_eq_false n1,if_neg hy]
     show(((r.map fun p=>if p.1=z then(p.1,v) else p).find? fun p=>decide (p.1=y)).map (·.2))=_
     have gen : ∀ r:List (aC×Int),(((r.map fun p=>if p.1=z then(p.1,v) else p).find? fun p=>decide (p.1=y)).map (·.2))=(r.find? fun p=>decide (p.1=y)).map (·.2):=fun r=>by
      induction r with
      | nil=>rfl
      | cons q t ih=>
       rw[dH,fZ,fZ]
       by_cases hq:q.1=z
       ·rw[if_pos hq]
        have n2 : ¬ q.1=y:=fun e=>hy (by rw[← e,hq])
        rw[decide_eq_false n2]
        exact ih
       ·rw[if_neg hq]
        cases decide (q.1=y) with
        | true=>rfl
        | false=>exact ih
     exact gen r
   ·rw[if_neg hp]
    rw[decide_eq_false hp] at h
    by_cases hy:p.1=y
    ·have n3 : ¬ y=z:=fun q=>hp (by rw[hy,q])
     simp[hy,n3]
    ·rw[decide_eq_false hy]
     exact ih h
def HE (I:aX->Prop)(t:Option aA)(o:Out):Prop:=match t with
 | some r=>o = .rt r
 | none=>∃ ρ2,o = .nx ρ2/\I ρ2
def QF (I:aX->Prop)(t:Option aA)(o:Out):Prop:=match t with
 | some r=>o = .rt r
 | none=>∃ ρ2,(o = .nx ρ2 \/ o = .ct ρ2)/\I ρ2
theorem QN{T:aA->aX->Option aX}{α:Type}{q:α->aA}(I:aX->Prop)(g:α->Option aA) : ∀ {xs:List α} {ρ:aX},I ρ ->
  (∀ x∈xs,∀ ρ,I ρ -> ∃ ρ1,T (q x) ρ=some ρ1/\Goes F ρ1 (QF I (g x))) -> ∃ o,jI F T (xs.map q) ρ=some o/\HE I (xs.findSome? g) o
 | [],ρ,h0,_=>⟨_,rfl,ρ,rfl,h0⟩
 | x::xs,ρ,h0,step=>by
  obtain⟨ρ1,e1,o,e2,h⟩:=step x bO ρ h0
  have e:jI F T ((x::xs).map q) ρ=aft F T (xs.map q) o:=by
   show((T (q x) ρ).bind fun ρ1=>(F ρ1).bind fun o=>_)=_
   rw[e1,bE,e2,bE]
   cases o <;> rfl
  rw[e,GC]
  cases hg:g x with
  | some r=>
   rw[hg] at h
   have h:o = .rt r:=h
   subst h
   exact⟨_,rfl,rfl⟩
  | none=>
   rw[hg] at h
   obtain⟨ρ2,ho,i2⟩:=h
   obtain⟨o',e',h'⟩:=QN I g i2 fun y m=>step y (bT _ m)
   rcases ho with rfl | rfl
   ·exact⟨o',e',h'⟩
   ·exact⟨o',e',h'⟩
theorem Ag {m:Md}{ρ:aX}{α:Type}{fi:AF}{T:aA->aX->Option aX}{xs:List α}{q:α->aA}(I:aX->Prop)(g:α->Option aA)(h:aV m fi ρ=some (xs.map q))(h0:I ρ)
  (step : ∀ x∈xs,∀ ρ,I ρ -> ∃ ρ1,T (q x) ρ=some ρ1/\Goes F ρ1 (QF I (g x))):Goes (eE m fi T F) ρ (HE I (xs.findSome? g)):=by
 obtain⟨o,e,h'⟩:=QN I g h0 step
 exact⟨o,IY h e,h'⟩
theorem ZV {G:SF}{ρ:aX}{P:Out->Prop}(I:aX->Prop)(t:Option aA)(h:Goes F ρ (HE I t))(k1 : ∀ r,t=some r->P (.rt r))(k2:t=none -> ∀ ρ',I ρ'->Goes G ρ' P):Goes (bA F G) ρ P:=by
 obtain⟨o,e,h⟩:=h
 cases t with
 | some r=>
  have h:o = .rt r:=h
  subst h
  exact JA e (k1 r rfl)
 | none=>
  obtain⟨ρ2,rfl,i2⟩:=h
  exact gK e (k2 rfl ρ2 i2)
theorem YG {α β:Type}{f g:α->Option β} : ∀ {xs:List α},(∀ x∈xs,f x=g x)->xs.findSome? f=xs.findSome? g
 | [],_=>rfl
 | x::xs,h=>by
  rw[GC,GC,h x bO,YG fun y m=>h y (bT _ m)]
theorem getD_some {α:Type}{xs:List α}(d0:α)(h:i<xs.length):xs[i]?=some (xs.getD i d0):=by
 rw[qH,jX h]
 rfl
theorem getD_mem {α:Type}{xs:List α}(d0:α)(h:i<xs.length):xs.getD i d0∈xs:=fL (getD_some d0 h)
theorem IG {a b:EF}(h:a ρ=some (.bool x))(h2:x=true->b ρ=some (.bool y)):oI a b ρ=some (.bool (x&&y)):=by
 unfold oI
 cases x with
 | true=>rw[h,bE,show asB (.bool true)=some true from rfl,bE,if_pos rfl,h2 rfl]; rfl
 | false=>rw[h,bE,show asB (.bool false)=some false from rfl,bE,if_neg (by simp)]; rfl
theorem qQ{ds:List aA}(h:fa ρ=some ds)(hl:ds.length≤1000:=by simp):gA fa ρ=some (.tuple ds):=by
 unfold gA
 rw[h,bE,if_pos (nC (by omega))]
theorem tL{ds:List aA}(h:fa ρ=some ds)(hl:ds.length≤1000:=by simp):dP fa ρ=some (.list ds):=by
 unfold dP
 rw[h,bE,if_pos (nC (by omega))]
abbrev Ln:=aC×List aI
def bC (l:Ln):aA:=.tuple [.str l.1,.tuple (l.2.map kD)]
abbrev lnD:Ln:=("",[])
theorem Qc (xs:List aI):noDicts (xs.map kD)=true:=zP fun t m=>by
 obtain⟨x,_,rfl⟩:=dC.mp m
 cases x <;> rfl
def asI:aA->Int
 | .int i=>i
 | _=>0
theorem vW (r:List Int):(r.map aU).map asI=r:=by
 rw[fM]
 have:(asI∘aU)=id:=rfl
 rw[this,List.map_id]
theorem nE (r:List Int):bU (r.map aU)=true:=DK fun t m=>by
 obtain⟨i,_,rfl⟩:=dC.mp m
 rfl
theorem wK (r:List Int):dA (r.map aU)≤1:=EE fun t m=>by
 obtain⟨i,_,rfl⟩:=dC.mp m
 simp[mO]
theorem TN (r:List Int):dE (bF r)=true:=by
 have h1:noDicts (r.map aU)=true:=zP fun t m=>by
  obtain⟨i,_,rfl⟩:=dC.mp m
  rfl
 have h2:dA (r.map aU)≤1:=EE fun t m=>by
  obtain⟨i,_,rfl⟩:=dC.mp m
  simp[mO]
 simp[dE,bF,noDict,h1,mO]
 omega
theorem Lz {a b:List Int}(h:bF a=bF b):a=b:=by
 have h:=NK h
 exact(vW a).symm.trans ((congrArg (List.map asI) h).trans (vW b))
theorem IU (a b:List Int):cJ (bF a) (bF b)=decide (a=b):=by
 rw[JT _ _ (JK a) (JK b),decide_eq_decide]
 exact⟨Lz,fun e=>by rw[e]⟩
def srt (R:List (List Int)):List (List Int):=(oC (R.map fun r=>r.map aU)).map fun k=>k.map asI
theorem DL (R:List (List Int)):(srt R).Perm R:=by
 have h:=(EK (R.map fun r=>r.map aU)).map fun k=>k.map asI
 rw[fM] at h
 have e:(R.map ((fun k=>k.map asI)∘fun r=>r.map aU))=R:=by
  have:((fun k=>k.map asI)∘fun r=>r.map aU)=(id:List Int->List Int):=by funext r; exact vW r
  rw[this,List.map_id]
 rw[e] at h
 exact h
theorem Jr{r:List Int}:r∈srt R↔r∈R:=(DL R).mem_iff
theorem Mi (R:List (List Int)):(srt R).length=R.length:=(DL R).length_eq
theorem Xu (R:List (List Int)):oJ (R.map bF)=some (R.map fun r=>r.map aU):=by
 have:=As (kss:=R.map fun r=>r.map aU) fun k m=>by
  obtain⟨r,_,rfl⟩:=dC.mp m
  have:=wK r
  exact⟨nE r,by omega⟩
 rw[fM] at this
 exact this
theorem VC : ∀ (a b:List Int),a.length=b.length->hV (a.map aU) (b.map aU)=true
 | [],[],_=>rfl
 | x::a,y::b,h=>VC a b (by simpa using h)
 | [],_::_,h=>by simp at h
 | _::_,[],h=>by simp at h
theorem Kl(hn:1≤n)(hw : ∀ r∈R,r.length=n)(hl:R.length<64):yJ [bX R]=some (bX (srt R)):=by
 show((oJ (R.map bF)).bind fun kss=>if okT kss=true/\kss.length<64 then some (rR ((oC kss).map dZ)) else none)=_
 rw[Xu,bE]
 have ok:okT (R.map fun r=>r.map aU)=true:=by
  unfold okT
  rw[Cz]
  refine .inr (iH.mpr ⟨fH.mpr fun k mk=>fH.mpr fun k' mk'=>?_,fH.mpr fun k mk=>?_⟩)
  ·obtain⟨a,ma,rfl⟩:=dC.mp mk
   obtain⟨b,mb,rfl⟩:=dC.mp mk'
   exact VC a b ((hw a ma).trans (hw b mb).symm)
  ·obtain⟨a,ma,rfl⟩:=dC.mp mk
   have:=hw a ma
   cases a with
   | nil=>simp at this; omega
   | cons x r=>rfl
 rw[if_pos ⟨ok,by rw[cZ]; exact hl⟩]
 unfold bX srt
 rw[fM]
 congr 2
 refine rT fun k mk=>?_
 obtain⟨a,_,rfl⟩:=dC.mp ((EK _).mem_iff.mp mk)
 show _=dZ (((a.map aU).map asI).map aU)
 rw[vW]
structure Bk (kds:List (aA×aA))(B:aC->List (List Int))(wd:aC->Nat):Prop where
 pl:plK kds=true
 at_ : ∀ t,(bW kds (.inr t)).getD (.list [])=bX (B t)
 few : ∀ t,(B t).length<64
 pos : ∀ t,1≤wd t
 wid : ∀ t,∀ r∈B t,r.length=wd t
theorem Bk.get {kds:List (aA×aA)}{B:aC->List (List Int)}{wd:aC->Nat}(b:Bk kds B wd){fd fk:EF}{t:aC}(h1:fd ρ=some (.dict kds))(h2:fk ρ=some (.str t)):kB fd fk (dP aM) ρ=some (bX (B t)):=by
 rw[CM h1 h2 (key:=.inr t) rfl (x:=.list []) rfl b.pl,b.at_]
theorem iP (c:Int)(n:Nat)(h:0<n):eA (.int c) (.int n)=some (.int (c%n)):=by
 show(if 0<(n:Int) then some (aU (c%(n:Int))) else none)=_
 rw[if_pos (by omega)]
theorem sS (c:Int)(n:Nat)(h:0<n)(h2:n<1000:=by omega):kA (.int c) (.int n)=some (.int (c / n)):=by
 show(if 0<(n:Int)/\(n:Int)<1073741824 then some (aU (c / (n:Int))) else none)=_
 rw[if_pos (by omega)]
theorem vC {a b:Int}(h:a.natAbs<2 ^ 64):jZ (.int a) (.int b)=some (.int (a*b)):=by
 show(if (a.natAbs<2 ^ 64 \/ b.natAbs<2 ^ 64) \/ (a.natAbs<2 ^ 1000/\b.natAbs<2 ^ 1000) then some (aU (a*b)) else none)=_
 rw[if_pos (.inl (.inl h))]
theorem mul_r {a b:Int}(h:b.natAbs<2 ^ 64):jZ (.int a) (.int b)=some (.int (a*b)):=by
 show(if (a.natAbs<2 ^ 64 \/ b.natAbs<2 ^ 64) \/ (a.natAbs<2 ^ 1000/\b.natAbs<2 ^ 1000) then some (aU (a*b)) else none)=_
 rw[if_pos (.inl (.inr h))]
theorem Js {k:Nat}(h:k≤100):rL (.int 10) (.int k)=some (.int (10 ^ k)):=by
 show(if 0≤(k:Int)/\(k:Int)≤1000000/\(10:Int).natAbs<2 ^ 64 then some (aU (10 ^ (k:Int).toNat)) else none)=_
 rw[if_pos ⟨by omega,by omega,by decide⟩]
 rfl
theorem Aj {a b:BF}(h:a ρ=some x)(h2:x=true->b ρ=some y):lX a b ρ=some (x&&y):=by
 unfold lX
 rw[h]
 cases x with
 | true=>exact h2 rfl
 | false=>rfl
theorem Jo {a b:BF}(h:a ρ=some x)(h2:x=false->b ρ=some y):bOr a b ρ=some (x||y):=by
 unfold bOr
 rw[h]
 cases x with
 | true=>rfl
 | false=>exact h2 rfl
theorem RN(h:f ρ=some (.bool x)):oK (bOf f) ρ=some (!x):=by
 unfold oK
 rw[fO h]
 rfl
theorem Wi (r:List Int):dB (bF r)=true:=by
 show mX (r.map aU)=true
 rw[XG,fH]
 intro d m
 obtain⟨i,_,rfl⟩:=dC.mp m
 rfl
theorem XS (R:List (List Int)):noDicts (R.map bF)=true:=zP fun t m=>by
 obtain⟨r,_,rfl⟩:=dC.mp m
 have:=TN r
 unfold dE at this
 exact(iH.mp this).1
theorem QA{x y:aA}{xs ys:List aA}(h:fa ρ=some [x,y])(hx:pG x=some xs)(hy:pG y=some ys):iZ fa ρ=some (xN pairD xs ys):=by
 unfold iZ
 rw[h]
 show((pG x).bind fun xs=>(pG y).bind fun ys=>some (xN pairD xs ys))=_
 rw[hx,hy]
 rfl
abbrev Tb:=aC×List (List Int)
def kdL (L:List Tb):List (aA×aA):=L.map fun p=>(cM p.1,bX p.2)
theorem JC {ρ:aX}{P:Out->Prop}{d:aA}(h:ρ[i]?=some (some (n,d)))(k:P (.rt d)):Goes (kP i n) ρ P:=⟨_,by
 unfold kP
 rw[h]
 show(if n=n then some (Out.rt d) else none)=_
 rw[if_pos rfl],k⟩
theorem Ub (a:List Int):(bF a).depth≤2:=by
 have:=wK a
 show dA (a.map aU)+1≤2
 omega
theorem Lu (R:List (List Int)):dE (bX R)=true:=by
 have h2:dA (R.map bF)≤2:=EE fun t m=>by
  obtain⟨r,_,rfl⟩:=dC.mp m
  exact Ub r
 unfold dE
 show(noDicts (R.map bF)&&decide (dA (R.map bF)+1≤60))=true
 rw[XS,decide_eq_true (by omega)]
 rfl
def atL (L:List Tb)(t:aC):List (List Int):=((L.find? fun p=>decide (p.1=t)).map (·.2)).getD []
theorem zI (t:aC) : ∀ L:List Tb,bW (kdL L) (.inr t)=(L.find? fun p=>decide (p.1=t)).map fun p=>bX p.2
 | []=>rfl
 | p::L=>by
  show bW ((.str p.1,bX p.2)::kdL L) (.inr t)=_
  rw[EI,fZ]
  by_cases h:p.1=t
  ·rw[if_pos (by rw[h]; rfl),decide_eq_true h]; rfl
  ·rw[if_neg (fun e=>h (by injection e with e; injection e)),decide_eq_false h,zI t L]
theorem Ip (L:List Tb)(t:aC):(bW (kdL L) (.inr t)).getD (.list [])=bX (atL L t):=by
 rw[zI]
 unfold atL
 cases L.find? fun p=>decide (p.1=t) <;> rfl
theorem ZA (L:List Tb):plK (kdL L)=true:=CA fun kd m=>by
 obtain⟨p,_,rfl⟩:=dC.mp m
 exact fun q=>nomatch q
theorem Kp {L:List Tb}{t:aC}{r:List Int}(h:r∈atL L t) : ∃ p∈L,p.1=t/\p.2=atL L t:=by
 unfold atL at h ⊢
 cases e:L.find? fun p=>decide (p.1=t) with
 | none=>rw[e] at h; simp at h
 | some p=>
  have h2:=Ck (p:=fun(p:Tb)=>decide (p.1=t)) e
  exact⟨p,NV e,by simpa using h2,rfl⟩
theorem Gc {L:List Tb}(nd:(L.map (·.1)).Nodup):KnR (fun d=>∃ T:List (List Int),d=bX T) (kdL L):=by
 refine⟨fun kd m=>?_,?_⟩
 ·obtain⟨p,_,rfl⟩:=dC.mp m
  exact⟨⟨_,rfl⟩,_,rfl⟩
 ·unfold kdL
  rw[fM,show((fun x=>x.1)∘fun(p:Tb)=>(cM p.1,bX p.2))=cM∘(·.1) from rfl,← fM]
  exact(NU.mpr (nd.imp fun h e=>h (by injection e)))
def iY:List Tb->aC->List (List Int)->List Tb
 | [],_,_=>[]
 | p::L,t,R=>if p.1=t then(p.1,R)::L else p::iY L t R
theorem DC (t:aC)(R:List (List Int)) : ∀ L:List Tb,iI (kdL L) (.inr t) (bX R)=kdL (iY L t R)
 | []=>rfl
 | p::L=>by
  show(if bP (.str p.1)=some (.inr t) then(cM p.1,bX R)::kdL L else(cM p.1,bX p.2)::iI (kdL L) (.inr t) (bX R))=kdL (if p.1=t then(p.1,R)::L else p::iY L t R)
  by_cases h:p.1=t
  ·rw[if_pos (by rw[h]; rfl),if_pos h]; rfl
  ·rw[if_neg (fun e=>h (by injection e with e; injection e)),if_neg h,DC t R L]; rfl
theorem wB (t:aC)(R:List (List Int)) : ∀ L:List Tb,(iY L t R).map (·.1)=L.map (·.1)
 | []=>rfl
 | p::L=>by
  show(if p.1=t then(p.1,R)::L else p::iY L t R).map (·.1)=_
  by_cases h:p.1=t
  ·rw[if_pos h]; rfl
  ·rw[if_neg h,dH,wB t R L]; rfl
theorem CU {t:aC} : ∀ {L:List Tb} {p:Tb},p∈iY L t R->p∈L \/ (p.1=t/\p.2=R)
 | [],p,m=>by simp[iY] at m
 | q::L,p,m=>by
  have m:p∈(if q.1=t then(q.1,R)::L else q::iY L t R):=m
  by_cases h:q.1=t
  ·rw[if_pos h] at m
   rcases cY.mp m with rfl | m
   ·exact .inr ⟨h,rfl⟩
   ·exact .inl (bT _ m)
  ·rw[if_neg h] at m
   rcases cY.mp m with rfl | m
   ·exact .inl bO
   ·exact(CU m).imp (bT _) id
theorem find_key {L:List Tb}{t:aC}(h:t∈L.map (·.1)) : ∃ p,(L.find? fun p=>decide (p.1=t))=some p:=by
 cases e:L.find? fun p=>decide (p.1=t) with
 | some p=>exact⟨p,rfl⟩
 | none=>
  obtain⟨p,mp,ep⟩:=dC.mp h
  have:=GD.mp e p mp
  simp[ep] at this
theorem XA {L:List Tb}{t:aC}(h:t∉L.map (·.1)):(L.find? fun p=>decide (p.1=t))=none:=GD.mpr fun p m=>by
 simp only[decide_eq_true_eq]
 exact fun e=>h (dC.mpr ⟨p,m,e⟩)
theorem tW {L:List Tb}{t:aC}(h:t∈L.map (·.1)):bW (kdL L) (.inr t)=some (bX (atL L t)):=by
 obtain⟨p,e⟩:=find_key h
 rw[zI]
 unfold atL
 rw[e]
 rfl
theorem VZ {α β:Type}(f:α->β) : ∀ (xs:List α) (n:Nat),(xs.map f).eraseIdx n=(xs.eraseIdx n).map f
 | [],n=>by simp
 | x::xs,0=>rfl
 | x::xs,n+1=>by
  rw[dH,rV,rV,dH,VZ f xs n]
end Aw
namespace L2
open PySem PySem.Spec PyProof.Rows
variable {l:List aI}{v u:aC->Int}{e p k M n:Nat}{r:List Int}{zs:List aC}{L:List Nat}{ls:Nat->List aI}
def tv (v:aC->Int):aI->Int
 | .inl i=>i
 | .inr z=>v z
section
abbrev De:=Nat->List Int->Prop
def uW (ls:Nat->List aI)(S:Nat->Prop)(e p:Nat):Prop:=S e/\S p/\e≠p /\ ∀ z,(.inr z:aI)∈ls e -> ∀ k,S k->k≠e->(.inr z:aI)∈ls k->(.inr z:aI)∈ls p
def less (S:Nat->Prop)(e:Nat):Nat->Prop:=fun k=>S k/\k≠e
theorem UB(h:l.map (tv v)=l.map (tv u)){z:aC}(m:(.inr z:aI)∈l):v z=u z:=List.map_inj_left.mp h _ m
theorem CW(h : ∀ z,(.inr z:aI)∈l->v z=u z):l.map (tv v)=l.map (tv u):=rT fun k m=>by
 cases k with
 | inl i=>rfl
 | inr z=>exact h z m
open Classical in
theorem glue {S:Nat->Prop}(E:uW ls S e p)(hp : ∀ z,(.inr z:aI)∈ls e->(.inr z:aI)∈ls p->v z=u z) : ∃ v2:aC->Int,(∀ k,less S e k->(ls k).map (tv v2)=(ls k).map (tv v))/\(ls e).map (tv v2)=(ls e).map (tv u):=by
 refine⟨fun z=>if (.inr z:aI)∈ls e then u z else v z,fun k hk=>CW fun z mz=>?_,CW fun z mz=>if_pos mz⟩
 show(if (.inr z:aI)∈ls e then u z else v z)=v z
 by_cases m:(.inr z:aI)∈ls e
 ·rw[if_pos m]
  exact(hp z m (E.2.2.2 z m k hk.1 hk.2 mz)).symm
 ·rw[if_neg m]
def yG (ls:Nat->List aI):(Nat->Prop)->List (Nat×Nat)->(Nat->Prop)->Prop
 | S,[],R=>∀ k,S k↔R k
 | S,q::es,R=>uW ls S q.1 q.2/\yG ls (less S q.1) es R
theorem JI {R:Nat->Prop} : ∀ {es:List (Nat×Nat)} {S:Nat->Prop},yG ls S es R->(∀ k,R k->S k) /\ ∀ q∈es,S q.1/\S q.2
 | [],S,h=>⟨fun k r=>(h k).mpr r,fun q m=>by simp at m⟩
 | q::es,S,h=>by
  obtain⟨a,b⟩:=JI h.2
  refine⟨fun k r=>(a k r).1,fun x m=>?_⟩
  rcases cY.mp m with rfl | m
  ·exact⟨h.1.1,h.1.2.1⟩
  ·exact⟨(b x m).1.1,(b x m).2.1⟩
end
open PySem PySem.Spec PyProof.Rows Aw
theorem rG{p:aI×Int}(m:p∈l.zip (l.map (tv v))):p.1∈l/\p.2=tv v p.1:=by
 obtain⟨j,hj,rfl⟩:=xR m
 rw[xQ,cZ,Nat.min_self] at hj
 rw[OA,OB]
 exact⟨qG _,rfl⟩
theorem Qw{k:aI}(m:k∈l):(k,tv v k)∈l.zip (l.map (tv v)):=by
 obtain⟨j,hj,rfl⟩:=xR m
 have h:j<(l.zip (l.map (tv v))).length:=by rw[xQ,cZ,Nat.min_self]; exact hj
 have:=qG h
 rwa [OA,OB] at this
theorem ID (l:List aI)(v:aC->Int) : ∃ kn,dF l (l.map (tv v)) []=some kn /\ ∀ z,(.inr z:aI)∈l->cH kn z=some (v z):=by
 obtain⟨kn,e⟩:=zF (ps:=l.zip (l.map (tv v))) (kn:=[]) (fun p m i q=>by rw[(rG m).2,q]; rfl) (fun p _ z u _ e=>by cases e) (fun p m p' m' z q q'=>by rw[(rG m).2,(rG m').2,q,q'])
 refine⟨kn,?_,fun z m=>?_⟩
 ·unfold dF
  rw[if_pos (by rw[cZ])]
  exact e
 ·exact((wO e).2.1 _ (Qw (v:=v) m)).2 z rfl
theorem A0d:(∃ kn,dF l r []=some kn) ↔ ∃ v,r=l.map (tv v):=by
 constructor
 ·rintro⟨kn,h⟩
  unfold dF at h
  by_cases hl:r.length=l.length
  ·rw[if_pos hl] at h
   obtain⟨_,b,_⟩:=wO h
   refine⟨fun z=>(cH kn z).getD 0,Cn (by rw[cZ]; exact hl) fun j h1 h2=>?_⟩
   rw[OB]
   have hj:j<l.length:=by omega
   have hz:j<(l.zip r).length:=by rw[xQ]; omega
   have:=b (l.zip r)[j] (qG hz)
   rw[OA] at this
   cases hk:l[j] with
   | inl i=>exact this.1 i hk
   | inr z=>
    have e:=this.2 z hk
    show r[j]=(cH kn z).getD 0
    rw[e]
    rfl
  ·rw[if_neg hl] at h
   cases h
 ·rintro⟨v,rfl⟩
  obtain⟨kn,e,_⟩:=ID l v
  exact⟨kn,e⟩
def eJ (l:List aI)(zs:List aC)(r:List Int):List Int:=zs.map fun z=>((dF l r []).bind fun kn=>cH kn z).getD 0
theorem IQ(h : ∀ z∈zs,(.inr z:aI)∈l)(v:aC->Int):eJ l zs (l.map (tv v))=zs.map v:=rT fun z m=>by
 obtain⟨kn,e,hl⟩:=ID l v
 rw[e]
 show(cH kn z).getD 0=v z
 rw[hl z (h z m)]
 rfl
abbrev nY:=List (List (List Int))
def tb (t:nY):De:=fun k r=>r∈t.getD k []
def GY (ls:Nat->List aI)(t:nY):Prop:=∀ k r,r∈t.getD k [] -> ∃ v,r=(ls k).map (tv v)
section
variable {cm:Nat->Nat->List aC}
def Cm (ls:Nat->List aI)(cm:Nat->Nat->List aC):Prop:=∀ a b z,z∈cm a b↔(.inr z:aI)∈ls a/\(.inr z:aI)∈ls b
end
def cK {α:Type}(xs:List α)(f:α->Nat):Nat:=xs.foldr (fun x a=>f x+a) 0
def jM {α:Type}(xs:List α)(f:α->Nat):Nat:=xs.foldr (fun x a=>f x*a) 1
section
variable {α β:Type}{xs ys:List α}{f g:α->Nat}
theorem fK (x:α)(xs:List α)(f:α->Nat):cK (x::xs) f=f x+cK xs f:=rfl
theorem xA (x:α)(xs:List α)(f:α->Nat):jM (x::xs) f=f x*jM xs f:=rfl
theorem nF : ∀ {xs:List α},(∀ x∈xs,f x=g x)->cK xs f=cK xs g
 | [],_=>rfl
 | x::xs,h=>by rw[fK,fK,h x bO,nF fun y m=>h y (bT _ m)]
theorem EO : ∀ {xs:List α},(∀ x∈xs,f x=g x)->jM xs f=jM xs g
 | [],_=>rfl
 | x::xs,h=>by rw[xA,xA,h x bO,EO fun y m=>h y (bT _ m)]
theorem EG : ∀ {xs:List α},(∀ x∈xs,f x=0)->cK xs f=0
 | [],_=>rfl
 | x::xs,h=>by rw[fK,h x bO,EG fun y m=>h y (bT _ m)]
theorem UH (a:Nat) : ∀ xs:List α,cK xs (fun x=>a*f x)=a*cK xs f
 | []=>rfl
 | x::xs=>by rw[fK,fK,UH a xs,Nat.mul_add]
theorem UJ : ∀ xs:List α,cK xs (fun x=>f x+g x)=cK xs f+cK xs g
 | []=>rfl
 | x::xs=>by rw[fK,fK,fK,UJ xs]; omega
theorem VE (h:α->β->Nat)(ys:List β) : ∀ xs:List α,cK xs (fun x=>cK ys (h x))=cK ys fun y=>cK xs fun x=>h x y
 | []=>(EG fun _ _=>rfl).symm
 | x::xs=>by
  rw[fK,VE h ys xs,← UJ]
  rfl
theorem Yc (p:xs.Perm ys):cK xs f=cK ys f:=by
 induction p with
 | nil=>rfl
 | cons x _ ih=>rw[fK,fK,ih]
 | swap x y l=>rw[fK,fK,fK,fK]; omega
 | trans _ _ a b=>rw[a,b]
theorem RW : ∀ xs ys:List α,cK (xs++ys) f=cK xs f+cK ys f
 | [],ys=>(NO _).symm
 | x::xs,ys=>by rw[rW,fK,fK,RW xs ys,BG]
theorem VN (h:β->List α) : ∀ zs:List β,cK (zs.flatMap h) f=cK zs fun z=>cK (h z) f
 | []=>rfl
 | z::zs=>by rw[Cj,RW,VN h zs]; rfl
theorem IF (h:β->Option α) : ∀ zs:List β,cK (zs.filterMap h) f=cK zs fun z=>match h z with | some x=>f x | none=>0
 | []=>rfl
 | z::zs=>by
  rw[fK,GE]
  cases e:h z with
  | none=>rw[IF h zs]; simp
  | some x=>rw[fK,IF h zs]
theorem JP : ∀ xs:List α,cK xs (fun _=>1)=xs.length
 | []=>rfl
 | x::xs=>by rw[fK,JP xs,fN]; omega
theorem VM : ∀ xs:List α,jM xs (fun _=>1)=1
 | []=>rfl
 | x::xs=>by rw[xA,VM xs]
theorem ZU {m:Nat} : ∀ {xs:List α},(∀ x∈xs,f x≤m)->cK xs f≤xs.length*m
 | [],_=>fG _
 | x::xs,h=>by
  have:=ZU fun y m=>h y (bT _ m)
  have:=h x bO
  rw[fK,fN,Nat.succ_mul]
  omega
theorem SK {x:α} : ∀ {xs:List α},x∈xs->f x≤cK xs f
 | y::xs,m=>by
  rw[fK]
  rcases cY.mp m with rfl | m
  ·omega
  ·have:=SK m
   omega
variable [BEq α][LawfulBEq α]
theorem EM {e:α} : ∀ {xs:List α},e∈xs->jM xs f=f e*jM (xs.erase e) f
 | x::xs,m=>by
  by_cases q:x=e
  ·subst q
   rw[Co]
   rfl
  ·have m':e∈xs:=(cY.mp m).resolve_left fun z=>q z.symm
   rw[OE (by simpa using q),xA,xA,EM m',Nat.mul_left_comm]
theorem EJ {e:α} : ∀ {xs:List α},e∈xs->cK xs f=f e+cK (xs.erase e) f
 | x::xs,m=>by
  by_cases q:x=e
  ·subst q
   rw[Co]
   rfl
  ·have m':e∈xs:=(cY.mp m).resolve_left fun z=>q z.symm
   rw[OE (by simpa using q),fK,fK,EJ m',Nat.add_left_comm]
end
abbrev Ch:=Nat->List Int
def chU (ρ:Ch)(k:Nat)(r:List Int):Ch:=fun j=>if j=k then r else ρ j
theorem vK (ρ:Ch)(k:Nat)(r:List Int):chU ρ k r k=r:=if_pos rfl
theorem pJ {ρ:Ch}{j:Nat}(h:j≠k):chU ρ k r j=ρ j:=if_neg h
theorem Vs {ρ:Ch}{j:Nat}{q:List Int}(h:j≠k):chU (chU ρ k r) j q=chU (chU ρ j q) k r:=funext fun i=>by
 unfold chU
 by_cases a:i=j
 ·rw[if_pos a,if_neg fun b=>h (a.symm.trans b),if_pos a]
 ·by_cases b:i=k
  ·rw[if_neg a,if_pos b,if_pos b]
  ·rw[if_neg a,if_neg b,if_neg b,if_neg a]
def Sm (R:Nat->List (List Int)):List Nat->Ch->(Ch->Nat)->Nat
 | [],ρ,f=>f ρ
 | k::L,ρ,f=>cK (R k) fun r=>Sm R L (chU ρ k r) f
section
variable {R:Nat->List (List Int)}{f g:Ch->Nat}
theorem SY : ∀ {L:List Nat} {ρ:Ch},(∀ ρ',(∀ j,j∉L->ρ' j=ρ j)->f ρ'=g ρ')->Sm R L ρ f=Sm R L ρ g
 | [],ρ,h=>h ρ fun _ _=>rfl
 | k::L,ρ,h=>nF fun r _=>SY fun ρ' h'=>h ρ' fun j hj=>by
  rw[h' j fun m=>hj (bT _ m),pJ fun q=>hj (by rw[q]; exact bO)]
theorem Mt{ρ:Ch}(h : ∀ ρ',(∀ j,j∉L->ρ' j=ρ j)->f ρ'=0):Sm R L ρ f=0:=by
 induction L generalizing ρ with
 | nil=>exact h ρ fun _ _=>rfl
 | cons k L ih=>
  refine EG fun r _=>ih fun ρ' h'=>h ρ' fun j hj=>?_
  rw[h' j fun m=>hj (bT _ m),pJ fun q=>hj (by rw[q]; exact bO)]
theorem YZ : ∀ {L:List Nat} {ρ:Ch},e∉L->Sm R L (chU ρ e r) f=Sm R L ρ fun ρ'=>f (chU ρ' e r)
 | [],ρ,_=>rfl
 | k::L,ρ,h=>nF fun q _=>by
  have hk:k≠e:=fun z=>h (by rw[z]; exact bO)
  show Sm R L (chU (chU ρ e r) k q) f=Sm R L (chU ρ k q) fun ρ'=>f (chU ρ' e r)
  rw[Vs hk]
  exact YZ fun m=>h (bT _ m)
theorem QL {α:Type}{xs:List α}{h:α->Ch->Nat} : ∀ {L:List Nat} {ρ:Ch},cK xs (fun x=>Sm R L ρ (h x))=Sm R L ρ fun ρ'=>cK xs fun x=>h x ρ'
 | [],ρ=>rfl
 | k::L,ρ=>by
  show cK xs (fun x=>cK (R k) fun r=>Sm R L (chU ρ k r) (h x))=cK (R k) fun r=>Sm R L (chU ρ k r) _
  rw[VE]
  exact nF fun r _=>QL
theorem YJ : ∀ {L:List Nat} {ρ:Ch},L.Nodup->e∈L->Sm R L ρ f=Sm R (L.erase e) ρ fun ρ'=>cK (R e) fun r=>f (chU ρ' e r)
 | k::L,ρ,nd,m=>by
  have nd':=jW.mp nd
  by_cases q:k=e
  ·subst q
   rw[Co]
   show cK (R k) (fun r=>Sm R L (chU ρ k r) f)=_
   rw[← QL]
   exact nF fun r _=>YZ nd'.1
  ·have m':e∈L:=(cY.mp m).resolve_left fun z=>q z.symm
   rw[OE (by simpa using q)]
   exact nF fun r _=>YJ nd'.2 m'
theorem ZW {Q:Nat->List (List Int)} : ∀ {L:List Nat} {ρ:Ch},(∀ k∈L,(R k).Perm (Q k))->Sm R L ρ f=Sm Q L ρ f
 | [],_,_=>rfl
 | k::L,ρ,h=>by
  show cK (R k) _=cK (Q k) _
  rw[Yc (h k bO)]
  exact nF fun r _=>ZW fun j m=>h j (bT _ m)
end
section
variable {R:Nat->List (List Int)}{c:Nat->List Int->Nat}
def Cons (ls:Nat->List aI)(L:List Nat)(ρ:Ch):Prop:=∃ v,∀ k∈L,ρ k=(ls k).map (tv v)
open Classical in
def Wt (ls:Nat->List aI)(c:Nat->List Int->Nat)(L:List Nat)(ρ:Ch):Nat:=if Cons ls L ρ then jM L fun k=>c k (ρ k) else 0
def cUp (ls:Nat->List aI)(R:Nat->List (List Int))(zs:List aC)(c:Nat->List Int->Nat)(e p:Nat):Nat->List Int->Nat:=fun k r=>if k=p then c p r*cK (R e) (fun q=>if eJ (ls e) zs q=eJ (ls p) zs r then c e q else 0) else c k r
open Classical in
theorem Lx(nd:L.Nodup)(E:uW ls (fun k=>k∈L) e p)(hz : ∀ z,z∈zs↔(.inr z:aI)∈ls e/\(.inr z:aI)∈ls p)(hR : ∀ r∈R e,∃ v,r=(ls e).map (tv v))(ρ:Ch) :
  cK (R e) (fun r=>Wt ls c L (chU ρ e r))=Wt ls (cUp ls R zs c e p) (L.erase e) ρ:=by
 have me : ∀ k,k∈L.erase e↔k≠e/\k∈L:=fun k=>nd.mem_erase_iff
 have mp:p∈L.erase e:=(me p).mpr ⟨gZ E.2.2.1,E.2.1⟩
 by_cases hc:Cons ls (L.erase e) ρ
 ·obtain⟨v,hv⟩:=id hc
  have key : ∀ r∈R e,(Cons ls L (chU ρ e r)↔eJ (ls e) zs r=eJ (ls p) zs (ρ p)):=fun r m=>by
   obtain⟨u,rfl⟩:=hR r m
   rw[hv p mp,IQ (fun z m=>((hz z).mp m).1),IQ (fun z m=>((hz z).mp m).2)]
   constructor
   ·rintro⟨w,hw⟩
    have h1:=hw e E.1
    have h2:=hw p E.2.1
    rw[vK] at h1
    rw[pJ (gZ E.2.2.1),hv p mp] at h2
    exact rT fun z m=>(UB h1 ((hz z).mp m).1).trans (UB h2 ((hz z).mp m).2).symm
   ·intro h
    obtain⟨w,h1,h2⟩:=glue E (v:=v) (u:=u) fun z a b=>(List.map_inj_left.mp h z ((hz z).mpr ⟨a,b⟩)).symm
    refine⟨w,fun k hk=>?_⟩
    by_cases q:k=e
    ·rw[q,vK,h2]
    ·rw[pJ q,h1 k ⟨hk,q⟩,hv k ((me k).mpr ⟨q,hk⟩)]
  have one : ∀ r∈R e,Wt ls c L (chU ρ e r)=jM (L.erase e) (fun k=>c k (ρ k))*(if eJ (ls e) zs r=eJ (ls p) zs (ρ p) then c e r else 0):=fun r m=>by
   unfold Wt
   by_cases q:eJ (ls e) zs r=eJ (ls p) zs (ρ p)
   ·rw[if_pos ((key r m).mpr q),if_pos q,EM E.1,vK,NQ]
    congr 1
    exact EO fun k hk=>by rw[pJ ((me k).mp hk).1]
   ·rw[if_neg fun z=>q ((key r m).mp z),if_neg q]
    rfl
  rw[nF one,UH]
  unfold Wt
  rw[if_pos hc,EM mp,EM mp]
  unfold cUp
  rw[if_pos rfl]
  have:jM ((L.erase e).erase p) (fun k=>if k=p then c p (ρ k)*cK (R e) (fun q=>if eJ (ls e) zs q=eJ (ls p) zs (ρ k) then c e q else 0) else c k (ρ k))=jM ((L.erase e).erase p) fun k=>c k (ρ k):=EO fun k hk=>if_neg ((nd.erase e).mem_erase_iff.mp hk).1
  rw[this]
  exact Nat.mul_right_comm _ _ _
 ·unfold Wt
  rw[if_neg hc]
  refine EG fun r _=>if_neg fun⟨w,hw⟩=>hc ⟨w,fun k hk=>?_⟩
  rw[← hw k ((me k).mp hk).2,pJ ((me k).mp hk).1]
theorem Mq(nd:L.Nodup)(E:uW ls (fun k=>k∈L) e p)(hz : ∀ z,z∈zs↔(.inr z:aI)∈ls e/\(.inr z:aI)∈ls p)(hR : ∀ r∈R e,∃ v,r=(ls e).map (tv v))(ρ:Ch) :
  Sm R L ρ (Wt ls c L)=Sm R (L.erase e) ρ (Wt ls (cUp ls R zs c e p) (L.erase e)):=by
 rw[YJ nd E.1]
 exact SY fun ρ' _=>Lx nd E hz hR ρ'
def Akr (ls:Nat->List aI):List Nat->List (Nat×Nat)->Prop
 | _,[]=>True
 | L,q::es=>uW ls (fun k=>k∈L) q.1 q.2/\Akr ls (L.erase q.1) es
theorem Akr.of {P:Nat->Prop} : ∀ {es:List (Nat×Nat)} {L:List Nat} {S:Nat->Prop},L.Nodup->(∀ k,S k↔k∈L)->yG ls S es P->Akr ls L es
 | [],_,_,_,_,_=>trivial
 | q::es,L,S,nd,h,E=>by
  have hS:S=fun k=>k∈L:=funext fun k=>propext (h k)
  refine⟨by rw[← hS]; exact E.1,Akr.of (nd.erase _) (fun k=>?_) E.2⟩
  rw[nd.mem_erase_iff]
  exact⟨fun z=>⟨z.2,(h k).mp z.1⟩,fun z=>⟨(h k).mpr z.2,z.1⟩⟩
def PH (ls:Nat->List aI)(R:Nat->List (List Int))(cm:Nat->Nat->List aC)(c:Nat->List Int->Nat)(es:List (Nat×Nat)):Nat->List Int->Nat:=es.foldl (fun c q=>cUp ls R (cm q.1 q.2) c q.1 q.2) c
theorem UG {cm:Nat->Nat->List aC}(hc:Cm ls cm)(hR : ∀ k,∀ r∈R k,∃ v,r=(ls k).map (tv v))(ρ:Ch) : ∀ {es:List (Nat×Nat)} {L:List Nat} {c:Nat->List Int->Nat},L.Nodup->Akr ls L es ->
  Sm R L ρ (Wt ls c L)=Sm R (es.foldl (fun L q=>L.erase q.1) L) ρ (Wt ls (PH ls R cm c es) (es.foldl (fun L q=>L.erase q.1) L))
 | [],_,_,_,_=>rfl
 | q::es,L,c,nd,E=>by
  rw[Mq nd E.1 (hc q.1 q.2) (hR q.1) ρ]
  exact UG hc hR ρ (nd.erase _) E.2
def Cb (M n:Nat)(L:List Nat)(c:Nat->List Int->Nat):Prop:=∃ b:Nat->Nat,(∀ k∈L,∀ r,c k r≤M ^ b k)/\cK L (fun k=>b k+1)≤n
theorem Cb.le(h:Cb M n L c)(hM:1≤M)(m:k∈L)(r:List Int):c k r≤M ^ (n - 1):=by
 obtain⟨b,h1,h2⟩:=h
 have:=SK (f:=fun k=>b k+1) m
 exact dS (h1 k m r) (FV hM (by omega))
theorem Cb.one(h:L.length≤n):Cb M n L fun _ _=>1:=⟨fun _=>0,fun _ _ _=>bI _,by
 show cK L (fun _=>0+1)≤n
 have:cK L (fun _=>0+1)=L.length:=JP L
 omega⟩
theorem Cb.step(nd:L.Nodup)(he:e∈L)(hp:p∈L)(hep:e≠p)(hl:(R e).length≤M)(h:Cb M n L c):Cb M n (L.erase e) (cUp ls R zs c e p):=by
 obtain⟨b,h1,h2⟩:=h
 have mp:p∈L.erase e:=nd.mem_erase_iff.mpr ⟨gZ hep,hp⟩
 refine⟨fun k=>if k=p then b p+(b e+1) else b k,fun k hk r=>?_,?_⟩
 ·show cUp ls R zs c e p k r≤M ^ (if k=p then b p+(b e+1) else b k)
  unfold cUp
  by_cases q:k=p
  ·rw[if_pos q,if_pos q,Nat.pow_add]
   refine BC (h1 p hp r) (dS (ZU (m:=M ^ b e) fun q _=>?_) ?_)
   ·split
    ·exact h1 e he _
    ·exact fG _
   ·rw[NP,NQ]
    exact Nat.mul_le_mul_left _ hl
  ·rw[if_neg q,if_neg q]
   exact h1 k (List.mem_of_mem_erase hk) r
 ·rw[EJ he,EJ mp] at h2
  show cK (L.erase e) (fun k=>(if k=p then b p+(b e+1) else b k)+1)≤n
  rw[EJ mp,if_pos rfl]
  have:cK ((L.erase e).erase p) (fun k=>(if k=p then b p+(b e+1) else b k)+1)=cK ((L.erase e).erase p) fun k=>b k+1:=nF fun k hk=>by rw[if_neg ((nd.erase e).mem_erase_iff.mp hk).1]
  rw[this]
  omega
end
end L2
namespace Aw
open PySem L2
variable {n i k:Nat}{f g:EF}{ρ:aX}{d:aA}{ls:List Ln}{ds:List aA}{l a b:Ln}{z x qual:aC}{L:List Tb}{j:Int}{α β:Type}{P:Out->Prop}{ks:List aI}{kds:List (aA×aA)}{B:aC->List (List Int)}{wd:aC->Nat}{r:List Int}{zs ps:List aC}{v:aC->Int}{R:List (List Int)}{c:List Int->Nat}{N:Nat->aC}{K:aK}{st:bZ}
theorem evA(h:f (vA ρ)=some d)(hf:gC n d=true):eV n .a f ρ=some d:=by
 show((f (vA ρ)).bind fun d=>if (gC n d||(uQ ρ&&decide (n<9)&&iM n d)||(rN ρ&&decide (n=0)&&ftD d))=true then some d else none)=_
 rw[h,bE,hf,GL,GL,if_pos rfl]
def jD (l:Ln):Prop:=l.2.length≤6 /\ ∀ k∈l.2,cQ (kD k)=true
abbrev lN (cs:List Nat):aA:=.list (cs.map fun(c:Nat)=>aU c)
abbrev lsD (ls:List Ln):aA:=.tuple (ls.map bC)
abbrev lK (ks:List aI):aA:=.list (ks.map kD)
abbrev lZ (zs:List aC):aA:=.list (zs.map cM)
theorem CC (cs:List Nat):cV [lN cs]=some (.int cs.length):=by simp[cV]
theorem PF {cs:List Nat}(h:i<cs.length) : ∃ c∈cs,gIx (lN cs) (.int i)=some (.int c):=⟨cs[i],qG h,RM (q:=fun(c:Nat)=>aU c) (jX h)⟩
theorem eqn (a b:Nat):gEq (.int a) (.int b)=some (.bool (decide (a=b))):=by
 rw[qW]
 congr 2
 rw[pA]
 simp
 omega
def Dg:aI->Option aC
 | .inr z=>some z
 | .inl _=>none
def gH (ks:List aI):List aC:=ks.filterMap Dg
def eI (ls:List (aC×List aI)):List aC:=sW (ls.flatMap fun l=>gH l.2)
def kt (z:aC):aA×aA:=(.str z,.bool true)
theorem Gb (acc:List aC)(z:aC):((acc.map kt).any fun kd=>decide (bP kd.1=some (.inr z)))=decide (z∈acc):=by
 induction acc with
 | nil=>rfl
 | cons y r ih=>
  rw[dH,xS,ih]
  have:bP (kt y).1=some (.inr y):=rfl
  rw[this]
  by_cases h:z=y
  ·subst h; simp
  ·have h' : ¬ y=z:=fun e=>h e.symm
   simp[h,h']
theorem Mr (acc:List aC)(z:aC):putD (acc.map kt) (.inr z) (.bool true)=(jH acc z).map kt:=by
 unfold putD jH
 rw[Gb]
 by_cases h:z∈acc
 ·rw[if_pos (by simpa using h),if_pos h,fM]
  refine rT fun y _=>?_
  show(if bP (kt y).1=some (.inr z) then((kt y).1,lA true) else kt y)=kt y
  split <;> rfl
 ·rw[if_neg (by simpa using h),if_neg h,kN]
  rfl
def gN (acc:List aC)(k:aI):List aC:=match k with
 | .inr z=>jH acc z
 | .inl _=>acc
theorem HP : ∀ (ks:List aI) (acc:List aC),ks.foldl gN acc=(gH ks).foldl jH acc
 | [],_=>rfl
 | .inl i::ks,acc=>HP ks acc
 | .inr z::ks,acc=>HP ks (jH acc z)
theorem Ih (acc:List aC)(k:aI):(gN acc k).length≤acc.length+1:=by
 cases k with
 | inl i=>exact rS _
 | inr z=>exact UF acc z
theorem Jg {acc:List aC}{k:aI}(h : ∀ z∈acc,cQ (.str z)=true)(hk:cQ (kD k)=true) : ∀ z∈gN acc k,cQ (.str z)=true:=by
 cases k with
 | inl i=>exact h
 | inr z=>exact fun y m=>(Av5.mp m).elim (h y) fun e=>e ▸ hk
theorem KA {ls:List (aC×List aI)}(h : ∀ l∈ls,jD l)(hn:ls.length≤100):pL [.tuple (ls.map bC)]=some (.list ((eI ls).map cM)):=by
 have : ∃ d,pL [.tuple (ls.map bC)]=some d/\d = .list ((eI ls).map cM):=by
  refine eR rfl ?_
  refine cR (n:=1) (d:=.dict []) rfl (by simp) ?_
  refine gD (fun ρ'=>∃ x2 x3:L2.Slot,(∀ z∈eI ls,cQ (.str z)=true)/\ρ'=[s0 (.tuple (ls.map bC)),some (1,.dict ((eI ls).map kt)),x2,x3]) ?_ ?_
  ·refine jO (xs:=ls) (q:=bC) (b0:=[]) (fun acc l=>l.2.foldl gN acc) (fun i acc ρ'=>∃ x2 x3:L2.Slot,acc.length≤6*i/\(∀ z∈acc,cQ (.str z)=true)/\ρ'=[s0 (.tuple (ls.map bC)),some (1,.dict (acc.map kt)),x2,x3]) (avS (tQ rfl)) ⟨none,none,bI _,fun _ m=>by simp at m,rfl⟩ ?_ ?_
   ·rintro i l acc _ hx ⟨x2,x3,ha,hy,rfl⟩
    have hl:=h l (fL hx)
    have hi:i<ls.length:=(dD.mp hx).1
    refine⟨[s0 (.tuple (ls.map bC)),some (1,.dict (acc.map kt)),s0 (bC l),x3],rfl,?_⟩
    refine jO (xs:=l.2) (q:=kD) (b0:=acc) gN (fun j acc' ρ'=>∃ x3:L2.Slot,acc'.length≤6*i+j/\(∀ z∈acc',cQ (.str z)=true)/\ρ'=[s0 (.tuple (ls.map bC)),some (1,.dict (acc'.map kt)),s0 (bC l),x3]) (avS (tQ (by simp[vS,eOp,aB,eC,bC,gIx,atI,ixN]))) ⟨x3,ha,hy,rfl⟩ ?_ ?_
    ·rintro j k acc' _ hk ⟨x3,ha',hy',rfl⟩
     have hj:j<l.2.length:=(dD.mp hk).1
     have h6:=hl.1
     refine⟨[s0 (.tuple (ls.map bC)),some (1,.dict (acc'.map kt)),s0 (bC l),s0 (kD k)],rfl,?_⟩
     have g1:=Ih acc' k
     have g2:=Jg hy' (hl.2 k (fL hk))
     cases k with
     | inl v=>exact kS (by simp[bV,vS,eUn,aB,bOf,asB,fS,lG,isK,kD]) (mI ⟨_,.inl rfl,_,by omega,g2,rfl⟩)
     | inr z=>
      refine gL (by simp[bV,vS,eUn,aB,bOf,asB,fS,lG,isK,kD]) (RL (d:=.bool true) (kd:=.str z) (key:=.inr z) (kds:=acc'.map kt) rfl rfl rfl rfl (by simp; omega) ⟨_,.inl rfl,s0 (.str z),by omega,g2,?_⟩)
      rw[Mr]
      rfl
    ·rintro _ ⟨x3,ha',hy',rfl⟩
     have h6:=hl.1
     exact⟨_,.inl rfl,_,_,by omega,hy',rfl⟩
   ·rintro _ ⟨x2,x3,ha,hy,rfl⟩
    have e:ls.foldl (fun acc l=>l.2.foldl gN acc) []=eI ls:=by
     unfold eI sW
     rw[List.foldl_flatMap]
     congr 1
     funext acc l
     exact HP l.2 acc
    rw[e] at hy ⊢
    exact⟨_,rfl,x2,x3,hy,rfl⟩
  rintro _ ⟨x2,x3,hy,rfl⟩
  refine qT (dG (d:=.list ((eI ls).map cM)) (bD (ds:=[.dict ((eI ls).map kt)]) rfl ?_) ⟨_,rfl,rfl⟩)
  have hp:plK ((eI ls).map kt)=true:=CA fun kd m=>by
   obtain⟨z,_,rfl⟩:=dC.mp m
   exact fun q=>nomatch q
  show(if (plK ((eI ls).map kt)&&((eI ls).map kt).all (fun kd=>cQ kd.1))=true then some (rR (((eI ls).map kt).map (·.1))) else none)=_
  rw[hp,xW,if_pos (fH.mpr fun kd m=>by
   obtain⟨z,mz,rfl⟩:=dC.mp m
   exact hy z mz),fM]
  rfl
 obtain⟨d,e,rfl⟩:=this
 exact e
theorem Al (y z:aC):cJ (.str y) (.str z)=decide (y=z):=by
 rw[show cJ (.str y) (.str z)=(y == z) by simp[cJ],pA]
 simp
theorem Ly (zs:List aC)(z:aC):((zs.map cM).any fun d=>cJ d (.str z))=decide (z∈zs):=by
 rw[List.any_map,pA]
 simp[Al]
theorem Qx (zs:List aC):noDicts (zs.map cM)=true:=zP fun t m=>by
 obtain⟨z,_,rfl⟩:=dC.mp m
 rfl
theorem Mu (neg:Bool)(zs:List aC)(z:aC):gIn neg (.str z) (.list (zs.map cM))=some (.bool (neg != decide (z∈zs))):=by
 show(if (dE (.str z)&&noDicts (zs.map cM))=true then some (lA (neg != (zs.map cM).any fun d=>cJ d (.str z))) else none)=_
 rw[Qx,Ly,show dE (.str z)=true from rfl,Da,if_pos rfl]
theorem any_keys (ks:List aI)(z:aC):((ks.map kD).any fun d=>cJ d (.str z))=decide (z∈gH ks):=by
 induction ks with
 | nil=>rfl
 | cons k r ih=>
  rw[dH,xS,ih]
  cases k with
  | inl i=>
   have:cJ (kD (.inl i)) (.str z)=false:=by simp[kD,cJ]
   rw[this]
   rfl
  | inr y=>
   have:cJ (kD (.inr y)) (.str z)=decide (y=z):=Al y z
   rw[this]
   show(decide (y=z)||decide (z∈gH r))=decide (z∈y::gH r)
   by_cases e:y=z
   ·subst e; simp
   ·have e' : ¬ z=y:=fun q=>e q.symm
    simp[e,e']
theorem Aq (z:aC)(ks:List aI):gIn false (.str z) (.tuple (ks.map kD))=some (.bool (decide (z∈gH ks))):=by
 show(if (dE (.str z)&&noDicts (ks.map kD))=true then some (lA (false != (ks.map kD).any fun d=>cJ d (.str z))) else none)=_
 rw[Qc,any_keys,show dE (.str z)=true from rfl,Da,if_pos rfl]
 simp
def lY (ls:List (aC×List aI))(k:Nat):List (aC×List aI):=ls.take k++ls.drop (k+1)
def CL (ls:List (aC×List aI))(k:Nat)(l:aC×List aI):List aC:=(eI [l]).filter fun z=>decide (z∈eI (lY ls k))
theorem IP{lo hi:OF}{ρ:List (Option aA)}{l u:Option Int}(e1:f ρ=some (.tuple ds))(e2:lo ρ=some l)(e3:hi ρ=some u):sI f lo hi ρ=some (.tuple (cutD ds l u)):=by
 unfold sI
 rw[e1,bE,e2,bE,e3,bE]
theorem TX(k:Nat)(h:k≤ds.length):cutD ds (some (k:Int)) none=ds.drop k:=by
 unfold cutD
 rw[HT.Azv,HT.Avd,Nat.min_eq_left h]
 exact List.take_of_length_le (by simp)
theorem Xt {ls:List (aC×List aI)}(h : ∀ l∈ls,jD l)(hn:ls.length≤50){l:aC×List aI}(hk:ls[k]?=some l):wA [.tuple (ls.map bC),.int k]=some (.list ((CL ls k l).map cM)):=by
 have hlt:k<ls.length:=(dD.mp hk).1
 have hrl:(lY ls k).length≤100:=by
  unfold lY
  rw[qF,BK,NZ]
  omega
 have : ∃ d,wA [.tuple (ls.map bC),.int k]=some d/\d = .list ((CL ls k l).map cM):=by
  refine eR rfl ?_
  have er:=KA (ls:=lY ls k) (fun x m=>h x (by
   rcases fY.mp m with m | m
   ·exact List.mem_of_mem_take m
   ·exact Ca m)) hrl
  have el:=KA (ls:=[l]) (fun x m=>by rw[cG.mp m]; exact h l (fL hk)) (by simp)
  refine cR (d:=.list ((eI (lY ls k)).map cM)) (bD (ds:=[.tuple ((lY ls k).map bC)]) (bL (aZ (a:=.tuple ((ls.take k).map bC)) (b:=.tuple ((ls.drop (k+1)).map bC)) ?_ ?_ ?_) rfl) er) (by simp) ?_
  ·have:=IP (ds:=ls.map bC) (f:=aB 0) (lo:=oN) (hi:=oS (aB 1)) (ρ:=vS [s0 (.tuple (ls.map bC)),s0 (.int k),none]) (l:=none) (u:=some (k:Int)) rfl rfl rfl
   rw[Ga (by simpa using qC hlt),← List.map_take] at this
   exact this
  ·have:=IP (ds:=ls.map bC) (f:=aB 0) (lo:=oS (eOp dI (aB 1) (eC (.int 1)))) (hi:=oN) (ρ:=vS [s0 (.tuple (ls.map bC)),s0 (.int k),none]) (l:=some ((k+1:Nat):Int)) (u:=none) rfl rfl rfl
   rw[TX _ (by simp; omega),← List.map_drop] at this
   exact this
  ·show(if ((ls.take k).map bC).length+((ls.drop (k+1)).map bC).length≤sizeLine then some (dZ ((ls.take k).map bC++(ls.drop (k+1)).map bC)) else none)=_
   rw[if_pos (nC (by simp; omega)),← kN]
   rfl
  refine dG (d:=.list ((CL ls k l).map cM)) ?_ ⟨_,rfl,rfl⟩
  refine jP (xs:=eI [l]) (q:=cM) (fun z=>decide (z∈eI (lY ls k))) cM (gP (bD (ds:=[.tuple ([l].map bC)]) ?_ el)) ?_ fun z _=>?_
  ·have:gIx (.tuple (ls.map bC)) (.int k)=some (bC l):=CO (by rw[eQ,hk]; rfl)
   refine bL ?_ rfl
   have h2:(1:Nat)≤sizeLine:=nC (by omega)
   unfold gA
   rw[bL (aZ (a:=.tuple (ls.map bC)) (b:=.int k) rfl rfl this) rfl]
   simp[h2]
  ·have:(eI [l]).length≤6:=by
    have h1:=ED (gH l.2) []
    have h2:(gH l.2).length≤l.2.length:=FZ _ _
    have h3:=(h l (fL hk)).1
    have e:eI [l]=(gH l.2).foldl jH []:=by
     unfold eI sW
     simp
    rw[e]
    simp at h1
    omega
   omega
  ·refine⟨[some (.str z),some (.list ((eI (lY ls k)).map cM))],rfl,?_,fun _=>rfl⟩
   have:=Mu false (eI (lY ls k)) z
   simp[eV,bV,aV,vS,eOp,eUn,aB,eC,aO,dP,aG,aM,bOf,asB,iIt,itemsOf,dI,tD,jZ,eA,kA,g2I,g2C,gLt,gGt,cV,fS,lG,isK,gEq,dE,noDict,noDicts,mO,dA,cJ,this]
 obtain⟨d,e,rfl⟩:=this
 exact e
theorem Ajb {ls:List (aC×List aI)}:z∈eI ls ↔ ∃ l∈ls,z∈gH l.2:=by
 unfold eI
 rw[Xo,NW]
theorem Au8 {ls:List (aC×List aI)}{l:aC×List aI}:l∈lY ls k ↔ ∃ j,j≠k/\ls[j]?=some l:=by
 unfold lY
 rw[fY,Cc,Cc]
 constructor
 ·rintro(⟨j,hj⟩ | ⟨j,hj⟩)
  ·rw[List.getElem?_take] at hj
   by_cases h:j<k
   ·rw[if_pos h] at hj
    exact⟨j,by omega,hj⟩
   ·rw[if_neg h] at hj
    cases hj
  ·rw[List.getElem?_drop] at hj
   exact⟨_,by omega,hj⟩
 ·rintro⟨j,hne,hj⟩
  by_cases h:j<k
  ·exact .inl ⟨j,by rw[List.getElem?_take,if_pos h]; exact hj⟩
  ·exact .inr ⟨j - (k+1),by rw[List.getElem?_drop,show k+1+(j - (k+1))=j by omega]; exact hj⟩
theorem pH(h:i<ls.length):gIx (lsD ls) (.int i)=some (bC (ls.getD i lnD)):=CO (by rw[eQ,getD_some lnD h]; rfl)
def nms (ls:List Ln)(i:Nat):List aC:=gH (ls.getD i lnD).2
def xZ (ls:List Ln)(L:List Nat)(k j:Nat):Prop:=∀ z∈nms ls k,z∈nms ls j \/ ∀ o∈L,o≠k->z∉nms ls o
instance (ls:List Ln)(L:List Nat)(k j:Nat):Decidable (xZ ls L k j):=by unfold xZ; infer_instance
def iK (ls:List Ln)(L:List Nat)(k j:Nat):Bool:=decide (j≠k)&&decide (xZ ls L k j)
def kW (p:Nat×Nat):aA:=.tuple [.int p.1,.int p.2]
def pB:Option (Nat×Nat)->aA
 | none=>.none
 | some p=>kW p
def gW (ls:List Ln)(L:List Nat):Option (Nat×Nat):=L.findSome? fun k=>(L.find? (iK ls L k)).map fun j=>(k,j)
theorem nen (a b:Nat):gNe (.int a) (.int b)=some (.bool (decide (a≠b))):=by
 rw[ne_int]
 congr 2
 rw[pA]
 simp
 omega
theorem Gr {L:List Nat}(h:k∈L) : ∃ i:Nat,L[i]?=some k/\IV (lN L) (.int k)=some (.int i):=by
 have e1 : ∀ xs:List Nat,nA (xs.map fun(c:Nat)=>aU c)=some (xs.map fun(c:Nat)=>(.inl (c:Int):aI)):=fun xs=>by
  induction xs with
  | nil=>rfl
  | cons x xs ih=>
   show((bP (.int (x:Int))).bind fun k=>(nA (xs.map fun(c:Nat)=>aU c)).bind fun ks=>some (k::ks))=_
   rw[ih]
   rfl
 obtain⟨i,hi⟩ : ∃ i,atK (L.map fun(c:Nat)=>(.inl (c:Int):aI)) (.inl (k:Int))=some i:=by
  unfold atK
  cases e:(L.map fun(c:Nat)=>(.inl (c:Int):aI)).findIdx? fun y=>decide (y = .inl (k:Int)) with
  | some i=>exact⟨i,rfl⟩
  | none=>
   have:=List.findIdx?_eq_none_iff.mp e (.inl (k:Int)) (dC.mpr ⟨k,h,rfl⟩)
   simp at this
 refine⟨i,?_,?_⟩
 ·have:=(RX hi).1
  rw[eQ] at this
  obtain⟨x,ex,e⟩:=nP.mp this
  have:x=k:=by
   have:(x:Int)=k:=by injection e
   omega
  rw[ex,this]
 ·show((nA (L.map fun(c:Nat)=>aU c)).bind fun ks=>(bP (.int (k:Int))).bind fun k=>(atK ks k).bind fun j=>some (aU j))=_
  rw[e1,bE]
  show((atK _ (.inl (k:Int))).bind fun j=>some (aU j))=_
  rw[hi]
  rfl
theorem Oh {L:List Nat}(nd:L.Nodup){j:Nat}(h1:L[i]?=some k)(h2:L[j]?=some k):i=j:=by
 obtain⟨a1,a2⟩:=dD.mp h1
 obtain⟨b1,b2⟩:=dD.mp h2
 have pw:=Yx.mp nd
 rcases Nat.lt_trichotomy i j with h | h | h
 ·exact absurd (a2.trans b2.symm) (pw i j a1 b1 h)
 ·exact h
 ·exact absurd (b2.trans a2.symm) (pw j i b1 a1 h)
theorem Ae(g:α->Bool) : ∀ xs:List α,sP (xs.map fun x=>lA (g x))=some (xs.map g)
 | []=>rfl
 | x::xs=>by
  show((sP (xs.map fun x=>lA (g x))).bind fun bs=>some (g x::bs))=_
  rw[Ae g xs]
  rfl
theorem Oo(ho : ∀ l∈ls,jD l){L:List Nat}(hL : ∀ o∈L,o<ls.length)(nd:L.Nodup)(hl:L.length≤50)(hk:k∈L):wX [lsD ls,lN L,.int k]=some (match L.find? (iK ls L k) with | some j=>.int j | none=>.none):=by
 have : ∃ d,wX [lsD ls,lN L,.int k]=some d/\d=(match L.find? (iK ls L k) with | some j=>.int j | none=>.none):=by
  refine eR rfl ?_
  let sub:List Ln:=L.map fun j=>ls.getD j lnD
  obtain⟨i,hi,ei⟩:=Gr hk
  have hsub : ∀ l∈sub,jD l:=fun l m=>by
   obtain⟨j,mj,rfl⟩:=dC.mp m
   exact ho _ (getD_mem lnD (hL j mj))
  have hsi:sub[i]?=some (ls.getD k lnD):=by
   show(L.map fun j=>ls.getD j lnD)[i]?=_
   rw[eQ,hi]
   rfl
  have es:=Xt hsub (by show(L.map _).length≤50; simpa using hl) hsi
  let W:List aC:=CL sub i (ls.getD k lnD)
  have lc:eLC [none,some 0] (iIt (aB 1)) (gB 0) dM (eOp gIx (aB 1) (aB 0)) (vS [s0 (lsD ls),s0 (lN L),s0 (.int k),none,none])=some (.list (sub.map bC)):=by
   have:=jP (cap:=[none,some 0]) (fi:=iIt (aB 1)) (T:=gB 0) (t:=dM) (f:=eOp gIx (aB 1) (aB 0)) (ρ:=vS [s0 (lsD ls),s0 (lN L),s0 (.int k),none,none]) (xs:=L) (q:=fun(j:Nat)=>aU j) (fun _=>true) (fun j=>bC (ls.getD j lnD)) (gP rfl) (by omega) fun j mj=>⟨[some (.int j),some (lsD ls)],rfl,rfl,fun _=>aZ (a:=lsD ls) (b:=.int j) rfl rfl (pH (hL j mj))⟩
   rw[this,nV.mpr (by simp)]
   show some (rR _)=some (rR ((L.map fun j=>ls.getD j lnD).map bC))
   rw[fM]
   rfl
  refine cR (d:=lZ W) (bD (ds:=[.tuple (sub.map bC),.int i]) (bL (bD (bL lc rfl) rfl) (bL (aZ (a:=lN L) (b:=.int k) rfl rfl ei) rfl)) es) (by simp) ?_
  have memW : ∀ z,z∈W↔z∈nms ls k /\ ∃ o∈L,o≠k/\z∈nms ls o:=fun z=>by
   show z∈(eI [ls.getD k lnD]).filter (fun z=>decide (z∈eI (lY sub i)))↔_
   rw[BI,Ajb]
   constructor
   ·rintro⟨⟨l,ml,hz⟩,h2⟩
    rw[cG.mp ml] at hz
    refine⟨hz,?_⟩
    obtain⟨l',ml',hz'⟩:=Ajb.mp (of_decide_eq_true h2)
    obtain⟨j,hj,ej⟩:=Au8.mp ml'
    have ej:(L.map fun j=>ls.getD j lnD)[j]?=some l':=ej
    rw[eQ] at ej
    obtain⟨o,eo,rfl⟩:=nP.mp ej
    refine⟨o,fL eo,fun q=>hj ?_,hz'⟩
    exact Oh nd (by rw[← q]; exact eo) hi
   ·rintro⟨hz,o,mo,ne,hz'⟩
    refine⟨⟨_,cG.mpr rfl,hz⟩,decide_eq_true (Ajb.mpr ⟨ls.getD o lnD,Au8.mpr ?_,hz'⟩)⟩
    obtain⟨j,hj,ej⟩:=xR mo
    refine⟨j,fun q=>ne ?_,?_⟩
    ·obtain⟨b1,b2⟩:=dD.mp hi
     subst q
     rw[← ej,b2]
    ·show(L.map fun j=>ls.getD j lnD)[j]?=_
     rw[eQ,jX hj,ej]
     rfl
  have hWl:W.length≤100:=by
   have h1:W.length≤(eI [ls.getD k lnD]).length:=NY _ _
   have h2:=ED (gH (ls.getD k lnD).2) []
   have h3:(gH (ls.getD k lnD).2).length≤(ls.getD k lnD).2.length:=FZ _ _
   have h4:=(ho _ (getD_mem lnD (hL k hk))).1
   have e:eI [ls.getD k lnD]=(gH (ls.getD k lnD).2).foldl jH []:=by
    unfold eI sW
    simp
   rw[e] at h1
   simp only[Cd,NO] at h2
   omega
  let A:L2.Slot:=s0 (lsD ls)
  let B:L2.Slot:=s0 (lN L)
  let C:L2.Slot:=s0 (.int k)
  let E:L2.Slot:=s0 (lZ W)
  refine ZV (fun ρ'=>∃ x4:L2.Slot,ρ'=[A,B,C,E,x4]) (L.findSome? fun j=>if iK ls L k j=true then some (.int j) else none) (Ag (xs:=L) (q:=fun(j:Nat)=>aU j) (fun ρ'=>∃ x4:L2.Slot,ρ'=[A,B,C,E,x4]) _ (avS (gP rfl)) ⟨none,rfl⟩ ?_) ?_ ?_
  ·rintro j mj _ ⟨x4,rfl⟩
   refine⟨[A,B,C,E,s0 (.int j)],rfl,?_⟩
   have f1:eOp gNe (aB 4) (aB 2) (vS [A,B,C,E,s0 (.int j)])=some (.bool (decide (j≠k))):=aZ (a:=.int j) (b:=.int k) rfl rfl (nen j k)
   have lc2:=jP (cap:=[none,some 0,some 4]) (fi:=iIt (aB 3)) (T:=gB 0) (t:=dM) (f:=eOp (gIn false) (aB 0) (eOp gIx (eOp gIx (aB 1) (aB 2)) (eC (.int 1)))) (ρ:=vS [A,B,C,E,s0 (.int j)]) (xs:=W) (q:=cM) (fun _=>true) (fun z=>.bool (decide (z∈nms ls j))) (gP rfl) (by omega) fun z mz=>⟨[some (.str z),some (lsD ls),some (.int j)],rfl,rfl,fun _=>aZ (a:=.str z) (b:=tK (ls.getD j lnD).2) rfl (aZ (aZ (a:=lsD ls) (b:=.int j) rfl rfl (pH (hL j mj))) rfl rfl) (Aq z _)⟩
   rw[nV.mpr (by simp)] at lc2
   have f2:aO yC (aG (eLC [none,some 0,some 4] (iIt (aB 3)) (gB 0) dM (eOp (gIn false) (aB 0) (eOp gIx (eOp gIx (aB 1) (aB 2)) (eC (.int 1))))) aM) (vS [A,B,C,E,s0 (.int j)])=some (.bool (decide (xZ ls L k j))):=by
    refine bD (bL lc2 rfl) ?_
    show((sP (W.map fun z=>lA (decide (z∈nms ls j)))).bind fun bs=>some (lA (bs.all id)))=_
    rw[Ae,bE,List.all_map]
    congr 2
    rw[pA,fH,decide_eq_true_eq]
    constructor
    ·intro h z mz
     by_cases q : ∃ o∈L,o≠k/\z∈nms ls o
     ·exact .inl (of_decide_eq_true (h z ((memW z).mpr ⟨mz,q⟩)))
     ·exact .inr fun o mo ne hz=>q ⟨o,mo,ne,hz⟩
    ·intro h z mz
     obtain⟨h1,o,mo,ne,hz⟩:=(memW z).mp mz
     rcases h z h1 with q | q
     ·exact decide_eq_true q
     ·exact absurd hz (q o mo ne)
   have tb:bV .s (lX (bOf (eOp gNe (aB 4) (aB 2))) (bOf (aO yC (aG (eLC [none,some 0,some 4] (iIt (aB 3)) (gB 0) dM (eOp (gIn false) (aB 0) (eOp gIx (eOp gIx (aB 1) (aB 2)) (eC (.int 1))))) aM)))) [A,B,C,E,s0 (.int j)]=some (iK ls L k j):=by
    simp only[bV,lX,bOf,f1,f2,bE,asB]
    unfold iK
    cases decide (j≠k) <;> rfl
   cases hb:iK ls L k j with
   | true=>exact gL (tb.trans (by rw[hb])) (dG (d:=.int j) rfl rfl)
   | false=>exact kS (tb.trans (by rw[hb])) (mI ⟨_,.inl rfl,_,rfl⟩)
  ·intro r hr
   refine⟨_,rfl,?_⟩
   have : ∀ xs:List Nat,(xs.findSome? fun j=>if iK ls L k j=true then some (aU j) else none)=(xs.find? (iK ls L k)).map fun(j:Nat)=>aU j:=fun xs=>by
    induction xs with
    | nil=>rfl
    | cons x xs ih=>
     rw[fZ,GC]
     cases iK ls L k x with
     | true=>rfl
     | false=>exact ih
   rw[this] at hr
   obtain⟨j,e,rfl⟩:=nP.mp hr
   rw[e]
  ·rintro hz _ ⟨x4,rfl⟩
   refine dG (d:=.none) rfl ⟨_,rfl,?_⟩
   have : ∀ xs:List Nat,(xs.findSome? fun j=>if iK ls L k j=true then some (aU j) else none)=(xs.find? (iK ls L k)).map fun(j:Nat)=>aU j:=fun xs=>by
    induction xs with
    | nil=>rfl
    | cons x xs ih=>
     rw[fZ,GC]
     cases iK ls L k x with
     | true=>rfl
     | false=>exact ih
   rw[this] at hz
   rw[NM.mp hz]
 obtain⟨d,e,rfl⟩:=this
 exact e
theorem XT(ho : ∀ l∈ls,jD l){L:List Nat}(hL : ∀ o∈L,o<ls.length)(nd:L.Nodup)(hl:L.length≤50):mL [lsD ls,lN L]=some (pB (gW ls L)):=by
 have : ∃ d,mL [lsD ls,lN L]=some d/\d=pB (gW ls L):=by
  refine eR rfl ?_
  let A:L2.Slot:=s0 (lsD ls)
  let B:L2.Slot:=s0 (lN L)
  have key:(L.findSome? fun k=>((L.find? (iK ls L k)).map fun j=>kW (k,j)))=(gW ls L).map kW:=by
   unfold gW
   rw[List.map_findSome?]
   refine YG fun k _=>?_
   show _=Option.map kW ((L.find? (iK ls L k)).map fun j=>(k,j))
   rw[Option.map_map]
   rfl
  refine ZV (fun ρ'=>∃ x2 x3:L2.Slot,ρ'=[A,B,x2,x3]) (L.findSome? fun k=>((L.find? (iK ls L k)).map fun j=>kW (k,j))) (Ag (xs:=L) (q:=fun(k:Nat)=>aU k) (fun ρ'=>∃ x2 x3:L2.Slot,ρ'=[A,B,x2,x3]) _ (avS (gP rfl)) ⟨none,none,rfl⟩ ?_) ?_ ?_
  ·rintro k mk _ ⟨x2,x3,rfl⟩
   refine⟨[A,B,s0 (.int k),x3],rfl,?_⟩
   have ep:=Oo ho hL nd hl mk
   cases hf:L.find? (iK ls L k) with
   | none=>
    rw[hf] at ep
    exact cR (d:=.none) (bD (ds:=[lsD ls,lN L,.int k]) rfl ep) (by simp) (kS rfl (mI ⟨_,.inl rfl,_,_,rfl⟩))
   | some j=>
    rw[hf] at ep
    exact cR (d:=.int j) (bD (ds:=[lsD ls,lN L,.int k]) rfl ep) (by simp) (gL rfl (dG (d:=kW (k,j)) rfl rfl))
  ·intro r hr
   rw[key] at hr
   obtain⟨p,e,rfl⟩:=nP.mp hr
   exact⟨_,rfl,by rw[e]; rfl⟩
  ·rintro hz _ ⟨x2,x3,rfl⟩
   rw[key] at hz
   exact dG (d:=.none) rfl ⟨_,rfl,by rw[NM.mp hz]; rfl⟩
 obtain⟨d,e,rfl⟩:=this
 exact e
def eGo (ls:List Ln):Nat->List Nat->List (Nat×Nat)×List Nat
 | 0,L=>([],L)
 | n+1,L=>match gW ls L with
  | none=>([],L)
  | some p=>(p::(eGo ls n (L.erase p.1)).1,(eGo ls n (L.erase p.1)).2)
theorem VH{L:List Nat}{p:Nat×Nat}(h:gW ls L=some p):p.1∈L/\p.2∈L:=by
 unfold gW at h
 obtain⟨k,mk,h⟩:=Za h
 obtain⟨j,hj,rfl⟩:=nP.mp h
 exact⟨mk,NV hj⟩
theorem ZP {ls:List Ln} : ∀ {n:Nat} {L:List Nat},(eGo ls n L).1.length≤n/\(eGo ls n L).2.length≤L.length
 | 0,L=>⟨by simp[eGo],bI _⟩
 | n+1,L=>by
  unfold eGo
  cases hf:gW ls L with
  | none=>exact⟨by simp,bI _⟩
  | some p=>
   obtain⟨h1,h2⟩:=ZP (ls:=ls) (n:=n) (L:=L.erase p.1)
   have:=List.length_erase_le (a:=p.1) (l:=L)
   exact⟨by simp; omega,by show(eGo ls n (L.erase p.1)).2.length≤L.length; omega⟩
theorem Xi {L:List Nat}(h:k∈L) : ∃ i,atK (L.map fun(c:Nat)=>(.inl (c:Int):aI)) (.inl (k:Int))=some i/\L.eraseIdx i=L.erase k:=by
 induction L with
 | nil=>simp at h
 | cons x xs ih=>
  by_cases q:x=k
  ·subst q
   exact⟨0,by simp[atK,List.findIdx?_cons],by simp⟩
  ·have hm:k∈xs:=by
    rcases cY.mp h with e | m
    ·exact absurd e.symm q
    ·exact m
   obtain⟨i,e1,e2⟩:=ih hm
   refine⟨i+1,?_,?_⟩
   ·unfold atK at e1 ⊢
    rw[dH,List.findIdx?_cons]
    have:decide ((.inl (x:Int):aI) = .inl (k:Int))=false:=decide_eq_false fun e=>q (by
     have:(x:Int)=k:=by injection e
     omega)
    rw[this]
    simp only[rZ,if_false]
    rw[e1]
    rfl
   ·rw[rV,e2,OE (by simpa using q)]
theorem QC : ∀ xs:List Nat,nA (xs.map fun(c:Nat)=>aU c)=some (xs.map fun(c:Nat)=>(.inl (c:Int):aI))
 | []=>rfl
 | x::xs=>by
  show((bP (.int (x:Int))).bind fun k=>(nA (xs.map fun(c:Nat)=>aU c)).bind fun ks=>some (k::ks))=_
  rw[QC xs]
  rfl
theorem Gq{L:List Nat}(h:f (vS ρ)=some (.int k))(hg:getL i ρ=some (L.map fun(c:Nat)=>aU c))(hk:k∈L)(kk:P (.nx (ρ.set i (some (1,lN (L.erase k)))))):Goes (pP i .s f) ρ P:=by
 obtain⟨j,e1,e2⟩:=Xi hk
 refine⟨_,?_,kk⟩
 have e0:eV 0 .s f ρ=some (.int k):=h
 unfold pP
 rw[e0,bE,hg,bE,QC,bE]
 show((atK _ (.inl (k:Int))).bind fun j=>some (Out.nx (ρ.set i (some (1,.list ((L.map fun(c:Nat)=>aU c).eraseIdx j))))))=_
 rw[e1,bE]
 have:(L.map fun(c:Nat)=>aU c).eraseIdx j=(L.erase k).map fun(c:Nat)=>aU c:=by
  rw[← e2]
  have go : ∀ (xs:List Nat) (n:Nat),(xs.map fun(c:Nat)=>aU c).eraseIdx n=(xs.eraseIdx n).map fun(c:Nat)=>aU c:=by
   intro xs
   induction xs with
   | nil=>intro n; simp
   | cons x xs ih=>
    intro n
    cases n with
    | zero=>rfl
    | succ n=>rw[dH,rV,rV,dH,ih]
  exact go L j
 rw[this]
abbrev lP (ps:List (Nat×Nat)):aA:=.list (ps.map kW)
theorem WJ (t:Option (Nat×Nat)):gC 0 (pB t)=true:=by cases t <;> rfl
theorem RJ {ls:List Ln}(ho : ∀ l∈ls,jD l) : ∀ (n fuel:Nat) {L:List Nat} {ps:List (Nat×Nat)},L.length≤n->n<fuel->(∀ o∈L,o<ls.length)->L.Nodup->L.length≤50->ps.length+n≤100 ->
  ∃ x3,whD .s (bOf (eOp oB (aB 3) (eC .none))) (bA (iJ 1 .s (aB 3)) (bA (pP 2 .s (eOp gIx (aB 3) (eC (.int 0)))) (bS 3 0 .a (aO mL (aG (aB 0) (aG (aB 2) aM)))))) fuel [s0 (lsD ls),some (1,lP ps),some (1,lN L),s0 (pB (gW ls L))]
   = some (.nx [s0 (lsD ls),some (1,lP (ps++(eGo ls n L).1)),some (1,lN (eGo ls n L).2),x3])
 | n,0,L,ps,_,hf,_,_,_,_=>by omega
 | 0,fuel+1,L,ps,h0,_,_,_,_,_=>by
  have:L=[]:=List.length_eq_zero_iff.mp (by omega)
  subst this
  refine⟨s0 (pB (gW ls [])),?_⟩
  rw[show(eGo ls 0 []).1=[] from rfl,mS]
  rfl
 | n+1,fuel+1,L,ps,hn,hf,hL,nd,hl,hp=>by
  unfold eGo
  cases hfe:gW ls L with
  | none=>
   refine⟨s0 (pB none),?_⟩
   rw[mS]
   rfl
  | some p=>
   obtain⟨m1,m2⟩:=VH hfe
   have nd':(L.erase p.1).Nodup:=nd.erase p.1
   have hL' : ∀ o∈L.erase p.1,o<ls.length:=fun o m=>hL o (List.mem_of_mem_erase m)
   have hlen:(L.erase p.1).length≤n:=by rw[Yy m1]; omega
   have hlen2:(L.erase p.1).length≤50:=by rw[Yy m1]; omega
   obtain⟨x3,ih⟩:=RJ ho n fuel (L:=L.erase p.1) (ps:=ps++[p]) hlen (by omega) hL' nd' hlen2 (by simp; omega)
   have body:Goes (bA (iJ 1 .s (aB 3)) (bA (pP 2 .s (eOp gIx (aB 3) (eC (.int 0)))) (bS 3 0 .a (aO mL (aG (aB 0) (aG (aB 2) aM)))))) [s0 (lsD ls),some (1,lP ps),some (1,lN L),s0 (kW p)]
     fun o=>o = .nx [s0 (lsD ls),some (1,lP (ps++[p])),some (1,lN (L.erase p.1)),s0 (pB (gW ls (L.erase p.1)))]:=by
    refine gD (fun ρ'=>ρ'=[s0 (lsD ls),some (1,lP (ps++[p])),some (1,lN L),s0 (kW p)]) (yR (d:=kW p) (ds:=ps.map kW) rfl rfl (by simp; omega) ⟨_,rfl,by simp⟩) ?_
    rintro _ rfl
    refine gD (fun ρ'=>ρ'=[s0 (lsD ls),some (1,lP (ps++[p])),some (1,lN (L.erase p.1)),s0 (kW p)]) (Gq (L:=L) (k:=p.1) rfl rfl m1 ⟨_,rfl,rfl⟩) ?_
    rintro _ rfl
    refine MO (m:=.a) (d:=pB (gW ls (L.erase p.1))) ?_ (by simp) rfl
    exact evA (bD (ds:=[lsD ls,lN (L.erase p.1)]) rfl (XT ho hL' nd' hlen2)) (WJ _)
   obtain⟨o,eo,rfl⟩:=body
   refine⟨x3,?_⟩
   show((bA (iJ 1 .s (aB 3)) (bA (pP 2 .s (eOp gIx (aB 3) (eC (.int 0)))) (bS 3 0 .a (aO mL (aG (aB 0) (aG (aB 2) aM))))) [s0 (lsD ls),some (1,lP ps),some (1,lN L),s0 (kW p)]).bind fun o=>match o with
    | .nx ρ'=>whD .s (bOf (eOp oB (aB 3) (eC .none))) (bA (iJ 1 .s (aB 3)) (bA (pP 2 .s (eOp gIx (aB 3) (eC (.int 0)))) (bS 3 0 .a (aO mL (aG (aB 0) (aG (aB 2) aM)))))) fuel ρ'
    | .ct ρ'=>whD .s (bOf (eOp oB (aB 3) (eC .none))) (bA (iJ 1 .s (aB 3)) (bA (pP 2 .s (eOp gIx (aB 3) (eC (.int 0)))) (bS 3 0 .a (aO mL (aG (aB 0) (aG (aB 2) aM)))))) fuel ρ'
    | .bk ρ'=>some (.nx ρ')
    | .rt d=>some (.rt d))=_
   rw[eo,bE]
   show whD .s _ _ fuel _=_
   rw[ih,Cq]
   rfl
def cS (ls:List Ln):List (Nat×Nat)×List Nat:=eGo ls ls.length (cF ls.length)
theorem Aa(ho : ∀ l∈ls,jD l)(hn:ls.length≤50):kT [lsD ls]=some (.tuple [lP (cS ls).1,lN (cS ls).2]):=by
 have : ∃ d,kT [lsD ls]=some d/\d = .tuple [lP (cS ls).1,lN (cS ls).2]:=by
  refine eR rfl ?_
  refine cR (d:=.list []) rfl (by simp) ?_
  refine cR (d:=lN (cF ls.length)) (bD (ds:=[.int ls.length]) (bL (bD (ds:=[lsD ls]) rfl (by rw[CQ,cZ])) rfl) ?_) (by simp) ?_
  ·show(if -4096≤(ls.length:Int)/\(ls.length:Int)≤4096 then some (rR (L2.upTo (ls.length:Int).toNat)) else none)=_
   rw[if_pos ⟨by omega,by omega⟩]
   rfl
  have hL : ∀ o∈cF ls.length,o<ls.length:=fun o m=>qE.mp m
  have nd:(cF ls.length).Nodup:=xO
  have hl:(cF ls.length).length≤50:=by simpa using hn
  refine My (d:=pB (gW ls (cF ls.length))) (bD (ds:=[lsD ls,lN (cF ls.length)]) rfl (XT ho hL nd hl)) (WJ _) (by simp) ?_
  obtain⟨x3,e⟩:=RJ ho ls.length 100 (L:=cF ls.length) (ps:=[]) (by simp) (by omega) hL nd hl (by simp; omega)
  refine gK e ?_
  exact⟨_,rfl,_,rfl,rfl⟩
 obtain⟨d,e,rfl⟩:=this
 exact e
theorem Yp{L:List Nat}{p:Nat×Nat}(h:gW ls L=some p):p.2≠p.1/\xZ ls L p.1 p.2:=by
 unfold gW at h
 obtain⟨k,mk,h⟩:=Za h
 obtain⟨j,hj,rfl⟩:=nP.mp h
 have:=Ck hj
 unfold iK at this
 obtain⟨h1,h2⟩:=iH.mp this
 exact⟨of_decide_eq_true h1,of_decide_eq_true h2⟩
theorem Ahu:z∈gH ks↔(.inr z:aI)∈ks:=by
 unfold gH
 rw[xP]
 constructor
 ·rintro⟨k,m,e⟩
  cases k with
  | inl i=>cases e
  | inr y=>cases e; exact m
 ·exact fun m=>⟨_,m,rfl⟩
def lsF (ls:List Ln):Nat->List aI:=fun k=>(ls.getD k lnD).2
theorem Ah : ∀ {n:Nat} {L:List Nat},L.Nodup->yG (lsF ls) (fun k=>k∈L) (eGo ls n L).1 (fun k=>k∈(eGo ls n L).2)
 | 0,L,_=>fun k=>Iff.rfl
 | n+1,L,nd=>by
  cases h:gW ls L with
  | none=>
   have e:eGo ls (n+1) L=([],L):=by
    show(match gW ls L with | none=>([],L) | some p=>(p::(eGo ls n (L.erase p.1)).1,(eGo ls n (L.erase p.1)).2))=_
    rw[h]
   rw[e]
   exact fun k=>Iff.rfl
  | some p=>
   have e:eGo ls (n+1) L=(p::(eGo ls n (L.erase p.1)).1,(eGo ls n (L.erase p.1)).2):=by
    show(match gW ls L with | none=>([],L) | some p=>(p::(eGo ls n (L.erase p.1)).1,(eGo ls n (L.erase p.1)).2))=_
    rw[h]
   rw[e]
   obtain⟨m1,m2⟩:=VH h
   obtain⟨ne,cov⟩:=Yp h
   refine⟨⟨m1,m2,gZ ne,fun z mz k hk hne mzk=>?_⟩,?_⟩
   ·rcases cov z (Ahu.mpr mz) with c | c
    ·exact Ahu.mp c
    ·exact absurd (Ahu.mpr mzk) (c k hk hne)
   ·have e2:less (fun k=>k∈L) p.1=fun k=>k∈L.erase p.1:=funext fun k=>propext (by rw[nd.mem_erase_iff]; exact And.comm)
    rw[e2]
    exact Ah (nd.erase _)
theorem JD (ls:List Ln):yG (lsF ls) (fun k=>k<ls.length) (cS ls).1 (fun k=>k∈(cS ls).2):=by
 have:=Ah (ls:=ls) (n:=ls.length) (L:=cF ls.length) xO
 have e:(fun k=>k∈cF ls.length)=fun k=>k<ls.length:=funext fun k=>propext qE
 rw[e] at this
 exact this
theorem IW (T:aA)(ks:List aI)(row:List Int)(kn:List (aC×Int))(hk:ks.length≤100)(hn:kn.length≤100):mY [.tuple [T,tK ks],tI row,.dict (DN kn)]=some (uV (dF ks row kn)):=by
 have : ∃ d,mY [.tuple [T,tK ks],tI row,.dict (DN kn)]=some d/\d=uV (dF ks row kn):=by
  refine eR rfl ?_
  have e1:bV .s (bOf (eOp gNe (aO cV (aG (aB 1) aM)) (aO cV (aG (eOp gIx (aB 0) (eC (.int 1))) aM)))) [some (0,.tuple [T,tK ks]),some (0,tI row),some (0,.dict (DN kn)),none,none,none,none]=some (decide (row.length≠ks.length)):=fO (Jb (ks:=ks) (row:=row) rfl rfl)
  by_cases hl:row.length=ks.length
  ·refine gK (mC (e1.trans (by simp[hl]))) ?_
   refine cR (n:=1) (d:=.dict (DN kn)) (bD (ds:=[.dict (DN kn)]) rfl (by show(if plK (DN kn)=true then some (PyData.dict (DN kn)) else none)=_; rw[plN]; rfl)) (by simp) ?_
   have lz:(ks.zip row).length≤100:=by rw[xQ]; omega
   refine Ml (fun kn' ρ'=>∃ x4 x5 x6:L2.Slot,ρ'=[some (0,.tuple [T,tK ks]),some (0,tI row),some (0,.dict (DN kn)),some (1,.dict (DN kn')),x4,x5,x6]) .none (fD eP kn (ks.zip row)) (Mx (xs:=ks.zip row) (q:=HN) (b0:=kn) eP _ .none (avS ?_) ⟨none,none,none,rfl⟩ ?_) ?_ ?_
   ·show iZ (aG (eOp gIx (aB 0) (eC (.int 1))) (aG (aB 1) aM)) (vS [some (0,.tuple [T,tK ks]),some (0,tI row),some (0,.dict (DN kn)),some (1,.dict (DN kn)),none,none,none])=_
    unfold iZ
    rw[show aG (eOp gIx (aB 0) (eC (.int 1))) (aG (aB 1) aM) (vS [some (0,.tuple [T,tK ks]),some (0,tI row),some (0,.dict (DN kn)),some (1,.dict (DN kn)),none,none,none])=some [tK ks,tI row] from rfl,← TV]
    rfl
   ·rintro pre p post kn' _ hpre hf ⟨x4,x5,x6,rfl⟩
    have hle:kn'.length≤1000:=by
     have h1:=DV hf
     have h2:pre.length≤(ks.zip row).length:=by rw[hpre]; simp
     omega
    exact⟨[some (0,.tuple [T,tK ks]),some (0,tI row),some (0,.dict (DN kn)),some (1,.dict (DN kn')),some (0,kD p.1),some (0,.int p.2),x6],rfl,Xh _ _ _ kn' hle p x6⟩
   ·intro hf
    refine⟨_,rfl,?_⟩
    unfold dF
    rw[if_pos hl,hf]
    rfl
   ·rintro kn' hf _ ⟨x4,x5,x6,rfl⟩
    refine⟨_,rfl,_,rfl,?_⟩
    unfold dF
    rw[if_pos hl,hf]
    rfl
  ·refine pI (gL (e1.trans (by simp[hl])) (dG (d:=.none) rfl ⟨_,rfl,_,rfl,?_⟩))
   unfold dF
   rw[if_neg hl]
   rfl
 obtain⟨d,e,rfl⟩:=this
 exact e
theorem VG(b:Bk kds B wd)(t:aC)(K:aA):mK [.dict kds,.tuple [.str t,K]]=some (bX (B t)):=by
 have : ∃ d,mK [.dict kds,.tuple [.str t,K]]=some d/\d=bX (B t):=by
  refine eR rfl (dG (d:=bX (B t)) (b.get (t:=t) rfl rfl) ⟨_,rfl,rfl⟩)
 obtain⟨d,e,rfl⟩:=this
 exact e
abbrev Kn:=List (aC×Int)
def knD (kn:Kn):aA:=.dict (DN kn)
def eZ (kns:List Kn)(ks:List aI)(rows:List (List Int)):List Kn:=kns.flatMap fun kn=>rows.filterMap fun r=>dF ks r kn
theorem zJ(f:α->Option β) : ∀ (xs:List α) (acc:List β),xs.foldl (fun a x=>a++(f x).toList) acc=acc++xs.filterMap f
 | [],acc=>by simp
 | x::xs,acc=>by
  rw[oV,zJ f xs,GE]
  cases f x <;> simp
theorem KR(f:α->List β) : ∀ (xs:List α) (acc:List β),xs.foldl (fun a x=>a++f x) acc=acc++xs.flatMap f
 | [],acc=>by simp
 | x::xs,acc=>by
  rw[oV,KR f xs,Cj,Cq]
def cE (R:List (List Int))(c:List Int->Nat):List (aA×aA):=R.map fun r=>(bF r,.int (c r))
def cD (R:List (List Int))(c:List Int->Nat):aA:=.dict ((.none,.none)::cE R c)
theorem Uk (r:List Int):nJ (bF r)=true:=by
 show((r.map aU).all _)=true
 exact fH.mpr fun d m=>by
  obtain⟨i,_,rfl⟩:=dC.mp m
  rfl
section
variable {ρ:List (Option aA)}
theorem RH (R:List (List Int))(c:List Int->Nat):((cE R c).all fun kd=>nJ kd.1)=true:=fH.mpr fun kd m=>by
 obtain⟨r,_,rfl⟩:=dC.mp m
 exact Uk r
theorem Lw (h:f ρ=some (cD R c)):iKR f ρ=some (R.map bF):=by
 unfold iKR
 rw[h]
 show(if ((cE R c).all fun kd=>nJ kd.1)=true then some ((cE R c).map (·.1)) else none)=_
 rw[if_pos (RH R c)]
 unfold cE
 rw[fM]
 rfl
theorem SV (h:f ρ=some (cD R c)):iDR f ρ=some (R.map fun r=>dZ [bF r,.int (c r)]):=by
 unfold iDR
 rw[h]
 show(if ((cE R c).all fun kd=>nJ kd.1)=true then some ((cE R c).map fun kd=>dZ [kd.1,kd.2]) else none)=_
 rw[if_pos (RH R c)]
 unfold cE
 rw[fM]
 rfl
end
theorem Qm (t:aC)(ks:List aI)(rows:List (List Int))(kns:List Kn)(hk:ks.length≤100)(hn : ∀ kn∈kns,kn.length≤100)(hm:kns.length*rows.length≤90000)(c:List Int->Nat) :
  wZ [.list (kns.map knD),bC (t,ks),cD rows c]=some (.list ((eZ kns ks rows).map knD)):=by
 have : ∃ d,wZ [.list (kns.map knD),bC (t,ks),cD rows c]=some d/\d = .list ((eZ kns ks rows).map knD):=by
  refine eR rfl ?_
  refine cR (n:=1) (d:=.list []) rfl (by simp) ?_
  let A:List L2.Slot:=[s0 (.list (kns.map knD)),s0 (bC (t,ks)),s0 (cD rows c)]
  refine gD (fun ρ'=>∃ x4 x5 x6:L2.Slot,ρ'=A++[some (1,.list ((eZ kns ks rows).map knD)),x4,x5,x6]) ?_ ?_
  ·refine jO (xs:=kns) (q:=knD) (b0:=[]) (fun acc kn=>acc++rows.filterMap fun r=>dF ks r kn) (fun i acc ρ'=>∃ x4 x5 x6:L2.Slot,acc.length≤i*rows.length/\ρ'=A++[some (1,.list (acc.map knD)),x4,x5,x6]) (avS (gP rfl)) ⟨none,none,none,fG _,rfl⟩ ?_ ?_
   ·rintro i kn acc _ hx ⟨x4,x5,x6,ha,rfl⟩
    have hi:i<kns.length:=(dD.mp hx).1
    have hkn:=hn kn (fL hx)
    have hle:(i+1)*rows.length≤90000:=dS (Nat.mul_le_mul_right _ hi) hm
    have hs:(i+1)*rows.length=i*rows.length+rows.length:=Nat.succ_mul _ _
    refine⟨A++[some (1,.list (acc.map knD)),s0 (knD kn),x5,x6],rfl,?_⟩
    refine jO (xs:=rows) (q:=bF) (b0:=acc) (fun acc r=>acc++(dF ks r kn).toList) (fun j acc' ρ'=>∃ x5 x6:L2.Slot,acc'.length≤acc.length+j/\ρ'=A++[some (1,.list (acc'.map knD)),s0 (knD kn),x5,x6]) (avS (Lw (c:=c) rfl)) ⟨x5,x6,bI _,rfl⟩ ?_ ?_
    ·rintro j r acc' _ hr ⟨x5,x6,ha',rfl⟩
     have hj:j<rows.length:=(dD.mp hr).1
     refine⟨A++[some (1,.list (acc'.map knD)),s0 (knD kn),s0 (bF r),x6],rfl,?_⟩
     have hf:=IW (.str t) ks r kn hk hkn
     refine cR (d:=uV (dF ks r kn)) (bD (ds:=[.tuple [.str t,tK ks],tI r,.dict (DN kn)]) rfl hf) (by simp[A]) ?_
     cases hfa:dF ks r kn with
     | none=>exact kS (fO (aZ (a:=uV none) (b:=.none) rfl rfl rfl)) (mI ⟨_,.inl rfl,_,_,by simpa using(by omega:acc'.length≤acc.length+(j+1)),by rw[Option.toList_none,mS]; rfl⟩)
     | some kn'=>
      refine gL (fO (aZ (a:=uV (some kn')) (b:=.none) rfl rfl rfl)) (yR (d:=knD kn') (ds:=acc'.map knD) rfl rfl (by simp; omega) ⟨_,.inl rfl,_,_,by simp; omega,by rw[Option.toList_some,kN]; rfl⟩)
    ·rintro _ ⟨x5,x6,ha',rfl⟩
     refine⟨_,.inl rfl,_,_,_,?_,by rw[zJ]⟩
     rw[zJ] at ha'
     omega
   ·rintro _ ⟨x4,x5,x6,ha,rfl⟩
    rw[KR]
    exact⟨_,rfl,_,_,_,rfl⟩
  rintro _ ⟨x4,x5,x6,rfl⟩
  exact JC rfl ⟨_,rfl,rfl⟩
 obtain⟨d,e,rfl⟩:=this
 exact e
def nH (B:aC->List (List Int)):List Ln->Nat
 | []=>1
 | l::r=>max 1 (B l.1).length*nH B r
theorem SZ (B:aC->List (List Int)) : ∀ (ls:List Ln) (a:Int),ls.foldl (fun a l=>a*((max 1 (B l.1).length:Nat):Int)) a=a*(nH B ls:Int)
 | [],a=>by simp[nH]
 | l::r,a=>by
  rw[oV,SZ B r]
  show _=a*((max 1 (B l.1).length*nH B r:Nat):Int)
  rw[Int.natCast_mul,Int.mul_assoc]
theorem vE (ds:List aA):cV [.list ds]=some (.int ds.length):=by simp[cV]
theorem Pa(hB : ∀ t,(B t).length<64)(ls:List Ln):tX [.list (ls.map fun l=>bX (B l.1))]=some (.int (nH B ls)):=by
 have : ∃ d,tX [.list (ls.map fun l=>bX (B l.1))]=some d/\d = .int (nH B ls):=by
  refine eR rfl ?_
  refine cR (d:=.int 1) rfl (by simp) ?_
  refine gD (fun ρ'=>∃ x3:L2.Slot,ρ'=[s0 (.list (ls.map fun l=>bX (B l.1))),s0 (.int (nH B ls)),x3]) ?_ ?_
  ·refine jO (xs:=ls) (q:=fun l=>bX (B l.1)) (b0:=(1:Int)) (fun a l=>a*((max 1 (B l.1).length:Nat):Int)) (fun i a ρ'=>∃ x3:L2.Slot,ρ'=[s0 (.list (ls.map fun l=>bX (B l.1))),s0 (.int a),x3]) (avS (gP rfl)) ⟨none,rfl⟩ ?_ ?_
   ·rintro i l a _ hx ⟨x3,rfl⟩
    refine⟨[s0 (.list (ls.map fun l=>bX (B l.1))),s0 (.int a),s0 (bX (B l.1))],rfl,?_⟩
    have h64:=hB l.1
    generalize hr:B l.1=R at h64 ⊢
    have em:uT [.int 1,.int (R.map bF).length]=some (.int ((max 1 R.length:Nat):Int)):=by
     show some (aU (if ((R.map bF).length:Int) > 1 then((R.map bF).length:Int) else 1))=_
     rw[cZ]
     congr 2
     split <;> omega
    have hf:(((max 1 R.length:Nat):Int)).natAbs<2 ^ 64:=by omega
    exact tO (d:=.int (a*((max 1 R.length:Nat):Int))) (aZ (a:=.int a) (b:=.int ((max 1 R.length:Nat):Int)) rfl (bD (ds:=[.int 1,.int (R.map bF).length]) (bL rfl (bL (bD (ds:=[bX R]) rfl (vE _)) rfl)) em) (mul_r hf)) (by simp) ⟨_,.inl rfl,_,rfl⟩
   ·rintro _ ⟨x3,rfl⟩
    rw[SZ,Int.one_mul]
    exact⟨_,rfl,x3,rfl⟩
  rintro _ ⟨x3,rfl⟩
  exact dG rfl ⟨_,rfl,rfl⟩
 obtain⟨d,e,rfl⟩:=this
 exact e
theorem Me(b:Bk kds B wd)(ls:List Ln)(hl:ls.length≤1000){ρ:List (Option aA)}(e1:ρ[0]?.join=some (.dict kds))(e2:ρ[1]?.join=some (.tuple (ls.map bC))) :
  eLC [none,some 0] (iIt (aB 1)) (gB 0) dM (aO mK (aG (aB 1) (aG (aB 0) aM))) ρ=some (.list (ls.map fun l=>bX (B l.1))):=by
 have e:=ZC (cap:=[none,some 0]) (fi:=iIt (aB 1)) (T:=gB 0) (t:=dM) (f:=aO mK (aG (aB 1) (aG (aB 0) aM))) (ρ:=ρ) (ds:=ls.map bC) (fun d=>match d with | .tuple [.str t,_]=>bX (B t) | d=>d) (tQ e2) (by rw[cZ]; omega) (fun d m=>by
  obtain⟨l,_,rfl⟩:=dC.mp m
  refine⟨[some (bC l),some (.dict kds)],?_,rfl,bD (ds:=[.dict kds,bC l]) rfl (VG b l.1 _)⟩
  show some ((lD [none,some 0] ρ).set 0 (some (bC l)))=_
  simp[lD,e1])
 rw[e,fM]
 rfl
theorem Wy(b:Bk kds B wd)(ls:List Ln)(hl:ls.length≤1000)(hw:nH B ls≤4096):xC [.dict kds,.tuple (ls.map bC)]=some .none:=by
 have e1:xD [.list (ls.map fun l=>bX (B l.1))]=some .none:=by
  have c:bV .s (bOf (eOp gGt (aO tX (aG (aB 0) aM)) (eC (.int 4096)))) [s0 (.list (ls.map fun l=>bX (B l.1)))]=some false:=fO (aZ (a:=.int (nH B ls)) (b:=.int 4096) (bD (ds:=[.list (ls.map fun l=>bX (B l.1))]) rfl (Pa b.few ls)) rfl (by
   show some (lA (decide ((nH B ls:Int) > 4096)))=_
   rw[decide_eq_false (by omega)]))
  show outD (MB [s0 (.list (ls.map fun l=>bX (B l.1)))])=_
  unfold MB
  rw[mC c]
  rfl
 show outD (LY [s0 (.dict kds),s0 (.tuple (ls.map bC))])=_
 have e2:eV 0 .s (aO xD (aG (eLC [none,some 0] (iIt (aB 1)) (gB 0) dM (aO mK (aG (aB 1) (aG (aB 0) aM)))) aM)) [s0 (.dict kds),s0 (.tuple (ls.map bC))]=some .none:=
  bD (bL (Me b ls hl rfl rfl) rfl) e1
 unfold LY qO
 rw[e2]
 rfl
theorem Af (kns:List Kn)(ks:List aI)(rows:List (List Int)):(eZ kns ks rows).length≤kns.length*rows.length:=by
 unfold eZ
 induction kns with
 | nil=>simp
 | cons kn r ih=>
  rw[Cj,qF,fN,Nat.succ_mul]
  have:=FZ (fun r=>dF ks r kn) rows
  omega
theorem Ak{kn kn':Kn}(h:dF ks r kn=some kn'):kn'.length≤kn.length+ks.length:=by
 unfold dF at h
 obtain⟨h1,h2⟩:=ZQ h
 have:=DV h2
 rw[xQ] at this
 omega
def rowOf (zs:List aC)(kn:Kn):List Int:=zs.map fun z=>(cH kn z).getD 0
theorem Nx{kn:Kn}(hl:zs.length≤1000)(h : ∀ z∈zs,∃ v,cH kn z=some v):oF [.list (zs.map cM),knD kn]=some (bF (rowOf zs kn)):=by
 have : ∃ d,oF [.list (zs.map cM),knD kn]=some d/\d=bF (rowOf zs kn):=by
  refine eR rfl ?_
  have e:=ZC (cap:=[none,some 1]) (fi:=iIt (aB 0)) (T:=gB 0) (t:=dM) (f:=kB (aB 1) (aB 0) (aB 0)) (ρ:=vS [s0 (.list (zs.map cM)),s0 (knD kn)]) (ds:=zs.map cM) (fun d=>match d with | .str z=>.int ((cH kn z).getD 0) | d=>d) (gP rfl) (by rw[cZ]; omega) (fun d m=>by
   obtain⟨z,mz,rfl⟩:=dC.mp m
   obtain⟨v,hv⟩:=h z mz
   refine⟨[some (.str z),some (knD kn)],rfl,rfl,?_⟩
   have:=CM (fd:=aB 1) (fk:=aB 0) (fx:=aB 0) (ρ:=[some (.str z),some (knD kn)]) (kds:=DN kn) (kd:=.str z) (x:=.str z) (key:=.inr z) rfl rfl rfl rfl (plN kn)
   rw[this,yQ]
   show _=some (aU ((cH kn z).getD 0))
   rw[hv]
   rfl)
  rw[fM] at e
  have e':zs.map ((fun d=>match d with | .str z=>aU ((cH kn z).getD 0) | d=>d)∘cM)=(rowOf zs kn).map aU:=by
   unfold rowOf
   rw[fM]
   rfl
  rw[e'] at e
  exact dG (d:=bF (rowOf zs kn)) (bD (bL e rfl) rfl) ⟨_,rfl,rfl⟩
 obtain⟨d,e,rfl⟩:=this
 exact e
def cmL (a b:Ln):List aC:=(eI [a]).filter fun z=>decide (z∈gH b.2)
theorem A2y:z∈cmL a b↔(.inr z:aI)∈a.2/\(.inr z:aI)∈b.2:=by
 unfold cmL
 rw[BI,Ajb,decide_eq_true_eq,Ahu]
 refine and_congr_left fun _=>?_
 constructor
 ·rintro⟨l,m,h⟩
  rw[cG.mp m] at h
  exact Ahu.mp h
 ·exact fun h=>⟨a,cG.mpr rfl,Ahu.mpr h⟩
theorem WR(h:jD l):(eI [l]).length≤6:=by
 have h1:=ED (gH l.2) []
 have h2:(gH l.2).length≤l.2.length:=FZ _ _
 have h3:=h.1
 have e:eI [l]=(gH l.2).foldl jH []:=by
  unfold eI sW
  simp
 rw[e]
 simp at h1
 omega
theorem Gd(h:jD a):(cmL a b).length≤6:=dS (NY _ _) (WR h)
theorem Ny(ha:jD a):wH [bC a,bC b]=some (.list ((cmL a b).map cM)):=by
 have el:=KA (ls:=[a]) (fun x m=>by rw[cG.mp m]; exact ha) (by simp)
 have : ∃ d,wH [bC a,bC b]=some d/\d = .list ((cmL a b).map cM):=by
  refine eR rfl ?_
  refine dG (d:=.list ((cmL a b).map cM)) ?_ ⟨_,rfl,rfl⟩
  refine jP (xs:=eI [a]) (q:=cM) (fun z=>decide (z∈gH b.2)) cM (gP (bD (ds:=[.tuple ([a].map bC)]) (bL (qQ rfl) rfl) el)) (dS (WR ha) (by decide)) fun z _=>?_
  refine⟨[some (.str z),some (bC b)],rfl,?_,fun _=>rfl⟩
  exact fO (aZ (a:=.str z) (b:=.tuple (b.2.map kD)) rfl rfl (Aq z b.2))
 obtain⟨d,e,rfl⟩:=this
 exact e
theorem YV(h6:l.2.length≤6)(hz : ∀ z∈zs,(.inr z:aI)∈l.2)(hl:zs.length≤1000)(hr : ∃ v,r=l.2.map (tv v)):pK [bC l,tI r,.list (zs.map cM)]=some (bF (eJ l.2 zs r)):=by
 obtain⟨v,rfl⟩:=hr
 obtain⟨kn,ef,hk⟩:=ID l.2 v
 have e1:=IW (.str l.1) l.2 (l.2.map (tv v)) [] (by omega) (by simp)
 rw[ef] at e1
 have e2:=Nx (zs:=zs) (kn:=kn) hl fun z m=>⟨_,hk z (hz z m)⟩
 have e3:rowOf zs kn=eJ l.2 zs (l.2.map (tv v)):=by
  rw[IQ hz]
  exact rT fun z m=>by rw[hk z (hz z m)]; rfl
 have : ∃ d,pK [bC l,tI (l.2.map (tv v)),.list (zs.map cM)]=some d/\d=bF (eJ l.2 zs (l.2.map (tv v))):=by
  refine eR rfl ?_
  refine dG (d:=bF (eJ l.2 zs (l.2.map (tv v)))) (bD (ds:=[.list (zs.map cM),knD kn]) (bL rfl (bL (bD (ds:=[bC l,tI (l.2.map (tv v)),.dict []]) rfl e1) rfl)) (by rw[← e3]; exact e2)) ⟨_,rfl,rfl⟩
 obtain⟨d,e,rfl⟩:=this
 exact e
theorem JR {a b:List Int}(h:a.map aU=b.map aU):a=b:=by
 have:=congrArg (List.map asI) h
 rwa [vW,vW] at this
abbrev LR:=Ln×List (List Int)
def gG:List LR->Nat
 | []=>1
 | p::r=>max 1 p.2.length*gG r
theorem UK : ∀ ps,1≤gG ps
 | []=>bI _
 | p::r=>BC (Nat.le_max_left 1 p.2.length) (UK r)
theorem JF : ∀ xs ys,gG (xs++ys)=gG xs*gG ys
 | [],ys=>(Nat.one_mul _).symm
 | p::r,ys=>by
  show max 1 p.2.length*gG (r++ys)=max 1 p.2.length*gG r*gG ys
  rw[JF r ys,Nat.mul_assoc]
theorem WL (ps:List LR)(i:Nat):gG (ps.take i)≤gG ps:=by
 have e:gG ps=gG (ps.take i)*gG (ps.drop i):=by rw[← JF,List.take_append_drop]
 rw[e]
 exact Nat.le_mul_of_pos_right _ (UK _)
def jK (ps:List LR):List Kn:=ps.foldl (fun kns p=>eZ kns p.1.2 p.2) [[]]
theorem QY(f g:α->aA) : ∀ ps:List α,xN pairD (ps.map f) (ps.map g)=ps.map fun p=>pairD (f p) (g p)
 | []=>rfl
 | p::r=>by
  rw[dH,dH,List.zipWith_cons_cons,QY f g r,dH]
theorem Ot (K:List Nat)(l:Nat->Ln)(R:Nat->List (List Int))(c:Nat->List Int->Nat)(hl:K.length≤16)(h6 : ∀ k∈K,(l k).2.length≤6)(hw:gG (K.map fun k=>(l k,R k))≤4096) :
  wD [.tuple (K.map fun k=>bC (l k)),.list (K.map fun k=>cD (R k) (c k))]=some (.list ((jK (K.map fun k=>(l k,R k))).map knD))/\(jK (K.map fun k=>(l k,R k))).length≤4096:=by
 have hG:jK (K.map fun k=>(l k,R k))=K.foldl (fun kns k=>eZ kns (l k).2 (R k)) [[]]:=by
  unfold jK
  rw[OC]
 rw[hG]
 have : ∃ d,wD [.tuple (K.map fun k=>bC (l k)),.list (K.map fun k=>cD (R k) (c k))]=some d/\d = .list ((K.foldl (fun kns k=>eZ kns (l k).2 (R k)) [[]]).map knD)/\(K.foldl (fun kns k=>eZ kns (l k).2 (R k)) [[]]).length≤4096:=by
  refine eR rfl ?_
  refine cR (d:=.list ([[]].map knD)) (tL (ds:=[.dict []]) rfl) (by simp) ?_
  let A:List L2.Slot:=[s0 (.tuple (K.map fun k=>bC (l k))),s0 (.list (K.map fun k=>cD (R k) (c k)))]
  refine gD (fun ρ'=>∃ x3 x4:L2.Slot,(K.foldl (fun kns k=>eZ kns (l k).2 (R k)) [[]]).length≤4096/\ρ'=A++[s0 (.list ((K.foldl (fun kns k=>eZ kns (l k).2 (R k)) [[]]).map knD)),x3,x4]) ?_ ?_
  ·refine jO (xs:=K) (q:=fun k=>pairD (bC (l k)) (cD (R k) (c k))) (b0:=[[]]) (fun kns k=>eZ kns (l k).2 (R k)) (fun i kns ρ'=>∃ x3 x4:L2.Slot,kns.length≤gG ((K.map fun k=>(l k,R k)).take i)/\(∀ kn∈kns,kn.length≤6*i)/\ρ'=A++[s0 (.list (kns.map knD)),x3,x4]) (avS ?_) ⟨none,none,bI _,fun kn m=>by rw[cG.mp m]; simp,rfl⟩ ?_ ?_
   ·rw[← QY]
    exact QA rfl rfl rfl
   ·rintro i k kns _ hx ⟨x3,x4,hk,hkn,rfl⟩
    have hi:i<K.length:=(dD.mp hx).1
    have h6':=h6 k (fL hx)
    have ht:(K.map fun k=>(l k,R k)).take (i+1)=(K.map fun k=>(l k,R k)).take i++[(l k,R k)]:=by rw[FW,eQ,hx]; rfl
    have hway:gG ((K.map fun k=>(l k,R k)).take (i+1))=gG ((K.map fun k=>(l k,R k)).take i)*max 1 (R k).length:=by
     rw[ht,JF]
     show _*(max 1 (R k).length*1)=_
     rw[Nat.mul_one]
    have hm:kns.length*(R k).length≤gG ((K.map fun k=>(l k,R k)).take (i+1)):=by
     rw[hway]
     exact BC hk (Nat.le_max_right _ _)
    have hle:=WL (K.map fun k=>(l k,R k)) (i+1)
    refine⟨A++[s0 (.list (kns.map knD)),s0 (bC (l k)),s0 (cD (R k) (c k))],rfl,?_⟩
    refine tO (d:=.list ((eZ kns (l k).2 (R k)).map knD)) (bD (ds:=[.list (kns.map knD),bC ((l k).1,(l k).2),cD (R k) (c k)]) rfl (Qm (l k).1 (l k).2 (R k) kns (by omega) (fun kn m=>by have:=hkn kn m; omega) (by omega) (c k))) (by simp[A]) ⟨_,.inl rfl,_,_,dS (Af _ _ _) hm,fun kn' m=>?_,rfl⟩
    obtain⟨kn,mk,m⟩:=NW.mp m
    obtain⟨r,_,e⟩:=xP.mp m
    have:=Ak e
    have:=hkn kn mk
    omega
   ·rintro _ ⟨x3,x4,h1,h2,rfl⟩
    exact⟨_,rfl,_,_,dS h1 (dS (WL _ _) hw),rfl⟩
  rintro _ ⟨x3,x4,h1,rfl⟩
  exact dG rfl ⟨_,rfl,rfl,h1⟩
 obtain⟨d,e,rfl,h1⟩:=this
 exact⟨e,h1⟩
def eT (kn:Kn):aC->Int:=fun z=>(cH kn z).getD 0
def sC (kn:Kn)(v:aC->Int)(ks:List aI):Prop:=∀ z,(.inr z:aI)∈ks->cH kn z=some (v z)
theorem LX{kn kn':Kn}(h:dF ks r kn=some kn'):r.length=ks.length/\(∀ z u,cH kn z=some u->cH kn' z=some u) /\ ∀ p∈ks.zip r,(∀ i,p.1 = .inl i->p.2=i) /\ ∀ z,p.1 = .inr z->cH kn' z=some p.2:=by
 unfold dF at h
 obtain⟨h1,h2⟩:=ZQ h
 obtain⟨a,b,_⟩:=wO h2
 exact⟨h1,a,b⟩
theorem JH{kn kn':Kn}(h:dF ks r kn=some kn'):r=ks.map (tv (eT kn'))/\sC kn' (eT kn') ks:=by
 obtain⟨hl,_,b⟩:=LX h
 have key : ∀ j (hj:j<ks.length) (hr:j<r.length),(∀ i,ks[j] = .inl i->r[j]=i) /\ ∀ z,ks[j] = .inr z->cH kn' z=some r[j]:=fun j hj hr=>by
  have hz:j<(ks.zip r).length:=by rw[xQ]; omega
  have:=b (ks.zip r)[j] (qG hz)
  rw[OA] at this
  exact this
 refine⟨Cn (by rw[cZ]; exact hl) fun j h1 h2=>?_,fun z mz=>?_⟩
 ·rw[OB]
  have hj:j<ks.length:=by omega
  obtain⟨k1,k2⟩:=key j hj h1
  cases hk:ks[j] with
  | inl i=>exact k1 i hk
  | inr z=>
   show r[j]=(cH kn' z).getD 0
   rw[k2 z hk]
   rfl
 ·obtain⟨j,hj,e⟩:=xR mz
  have:=(key j hj (by omega)).2 z e
  unfold eT
  rw[this]
  rfl
theorem Gz {kn kn':Kn}(h:sC kn (eT kn) ks)(k : ∀ z u,cH kn z=some u->cH kn' z=some u):sC kn' (eT kn') ks/\ks.map (tv (eT kn'))=ks.map (tv (eT kn)):=by
 have e : ∀ z,(.inr z:aI)∈ks->cH kn' z=some (eT kn z):=fun z m=>k z _ (h z m)
 have e2 : ∀ z,(.inr z:aI)∈ks->eT kn' z=eT kn z:=fun z m=>by
  show(cH kn' z).getD 0=_
  rw[e z m]
  rfl
 exact⟨fun z m=>by rw[e2 z m]; exact e z m,CW e2⟩
def GT (ps:List LR)(kn:Kn):Prop:=∀ p∈ps,sC kn (eT kn) p.1.2/\p.1.2.map (tv (eT kn))∈p.2
theorem UV : ∀ (rest don:List LR) (kns:List Kn),(∀ kn∈kns,GT don kn) -> ∀ kn∈rest.foldl (fun kns p=>eZ kns p.1.2 p.2) kns,GT (don++rest) kn
 | [],don,kns,h=>by rw[mS]; exact h
 | q::rest,don,kns,h=>by
  have e:don++q::rest=(don++[q])++rest:=by simp
  rw[e,oV]
  refine UV rest (don++[q]) _ fun kn m=>?_
  obtain⟨k0,mk,m⟩:=NW.mp m
  obtain⟨r,mr,ef⟩:=xP.mp m
  intro p mp
  rcases fY.mp mp with mp | mp
  ·obtain⟨a,b⟩:=h k0 mk p mp
   obtain⟨c,d⟩:=Gz a (LX ef).2.1
   exact⟨c,d ▸ b⟩
  ·rw[cG.mp mp]
   obtain⟨a,b⟩:=JH ef
   exact⟨b,a ▸ mr⟩
theorem Xb (ps:List LR) : ∀ kn∈jK ps,GT ps kn:=by
 have:=UV ps [] [[]] fun kn _ p m=>by simp at m
 rwa [List.nil_append] at this
def tV (kn:Kn)(v:aC->Int):Prop:=∀ z u,cH kn z=some u->u=v z
theorem TL{kn:Kn}(h:tV kn v) : ∃ kn',dF ks (ks.map (tv v)) kn=some kn'/\tV kn' v:=by
 obtain⟨kn',e⟩:=zF (ps:=ks.zip (ks.map (tv v))) (kn:=kn) (fun p m i q=>by rw[(rG m).2,q]; rfl) (fun p m z u q e=>by rw[(rG m).2,q,h z u e]; rfl) (fun p m p' m' z q q'=>by rw[(rG m).2,(rG m').2,q,q'])
 refine⟨kn',?_,fun z u eu=>?_⟩
 ·unfold dF
  rw[if_pos (by rw[cZ])]
  exact e
 ·obtain⟨_,b,c⟩:=wO e
  rcases c z u eu with c | ⟨p,mp,q⟩
  ·exact h z u c
  ·have e1:=(b p mp).2 z q
   rw[eu] at e1
   rw[eY e1,(rG mp).2,q]
   rfl
theorem RF {kn:Kn}(h:sC kn v ks){k:aI}(mk:k∈ks):kB (aB 1) (aB 0) (aB 0) [some (kD k),some (knD kn)]=some (.int (tv v k)):=by
 cases k with
 | inl i=>
  rw[CM (fd:=aB 1) (fk:=aB 0) (fx:=aB 0) (kds:=DN kn) (kd:=.int i) (x:=.int i) (key:=.inl i) rfl rfl rfl rfl (plN kn),Tq]
  rfl
 | inr z=>
  rw[CM (fd:=aB 1) (fk:=aB 0) (fx:=aB 0) (kds:=DN kn) (kd:=.str z) (x:=.str z) (key:=.inr z) rfl rfl rfl rfl (plN kn),yQ,h z mk]
  rfl
theorem Px{kn:Kn}(hl:ks.length≤1000)(h:sC kn v ks):oF [tK ks,knD kn]=some (bF (ks.map (tv v))):=by
 have : ∃ d,oF [tK ks,knD kn]=some d/\d=bF (ks.map (tv v)):=by
  refine eR rfl ?_
  have e:=jP (cap:=[none,some 1]) (fi:=iIt (aB 0)) (T:=gB 0) (t:=dM) (f:=kB (aB 1) (aB 0) (aB 0)) (ρ:=vS [s0 (tK ks),s0 (knD kn)]) (xs:=ks) (q:=kD) (fun _=>true) (fun k=>aU (tv v k)) (tQ rfl) (by omega) fun k mk=>⟨[some (kD k),some (knD kn)],rfl,rfl,fun _=>RF h mk⟩
  rw[nV.mpr fun _ _=>rfl] at e
  refine dG (d:=bF (ks.map (tv v))) (bD (bL e rfl) ?_) ⟨_,rfl,rfl⟩
  show some (dZ _)=some (dZ ((ks.map (tv v)).map aU))
  rw[fM]
  rfl
 obtain⟨d,e,rfl⟩:=this
 exact e
abbrev SA:=List (List Int×Nat)
def sE (A:SA):List (aA×aA):=A.map fun p=>(bF p.1,.int p.2)
def sD (A:SA):aA:=.dict ((.none,.none)::sE A)
theorem IK (k:List Int) : ∀ A:SA,iN (sE A) (k.map aU)=(A.lookup k).map fun(n:Nat)=>aU n
 | []=>rfl
 | (a,n)::A=>by
  show iN ((.tuple (a.map aU),.int n)::sE A) (k.map aU)=_
  rw[EH (nE a) (nE k),IK k A,lV]
  by_cases h:a=k
  ·subst h
   rw[if_pos rfl,beq_self_eq_true]
   rfl
  ·rw[if_neg (fun z=>h (JR z)),show(k == a)=false from by simpa using fun z=>h z.symm]
def rM (A:SA)(k:List Int)(n:Nat):SA:=if (A.lookup k).isSome=true then A.map fun p=>if p.1=k then(p.1,n) else p else A++[(k,n)]
theorem Jd (A:SA)(k:List Int)(n:Nat):kO (sE A) (k.map aU) (.int n)=sE (rM A k n):=by
 unfold kO rM
 rw[IK,Bx]
 split
 ·unfold sE
  rw[fM,fM]
  refine rT fun p _=>?_
  show(if cJ (bF p.1) (bF k)=true then(bF p.1,aU n) else(bF p.1,aU p.2))=(fun p:List Int×Nat=>(bF p.1,aU p.2)) (if p.1=k then(p.1,n) else p)
  rw[IU]
  by_cases h:p.1=k
  ·rw[if_pos (decide_eq_true h),if_pos h]
  ·rw[if_neg (by simpa using h),if_neg h]
 ·unfold sE
  rw[kN]
  rfl
theorem Nm (A:SA)(k:List Int)(n:Nat):(rM A k n).length≤A.length+1:=by
 unfold rM
 split <;> simp
theorem vP (j a:List Int)(m:Nat)(A:SA):((a,m)::A).lookup j=if j=a then some m else A.lookup j:=by
 rw[lV]
 by_cases h:j=a
 ·rw[show(j == a)=true from by simpa using h,if_pos h]
 ·rw[show(j == a)=false from by simpa using h,if_neg h]
theorem Vh (A:SA)(k:List Int)(n:Nat)(j:List Int):(rM A k n).lookup j=if j=k then some n else A.lookup j:=by
 unfold rM
 split
 ·rename_i h
  have go : ∀ A:SA,(j=k->(A.lookup k).isSome=true)->(A.map fun p=>if p.1=k then(p.1,n) else p).lookup j=if j=k then some n else A.lookup j:=by
   intro A
   induction A with
   | nil=>
    intro h
    by_cases q:j=k
    ·exact absurd (h q) (by simp)
    ·rw[if_neg q]
     rfl
   | cons p A ih=>
    intro h
    obtain⟨a,m⟩:=p
    have e:((a,m)::A).map (fun p=>if p.1=k then(p.1,n) else p)=(a,if a=k then n else m)::A.map fun p=>if p.1=k then(p.1,n) else p:=by
     rw[dH]
     by_cases q:a=k
     ·simp[q]
     ·simp[q]
    rw[e,vP,vP]
    by_cases q:j=a
    ·rw[if_pos q,if_pos q,q]
     by_cases w:a=k
     ·rw[if_pos w,if_pos w]
     ·rw[if_neg w,if_neg w]
    ·rw[if_neg q,if_neg q]
     refine ih fun z=>?_
     have:=h z
     rwa [vP,if_neg (z ▸ q)] at this
  exact go A fun _=>h
 ·rename_i h
  have h:A.lookup k=none:=by
   cases e:A.lookup k with
   | none=>rfl
   | some x=>rw[e] at h; exact absurd rfl h
  have go : ∀ A:SA,(A++[(k,n)]).lookup j=(A.lookup j).or (if j=k then some n else none):=by
   intro A
   induction A with
   | nil=>exact vP j k n []
   | cons p A ih=>
    obtain⟨a,m⟩:=p
    rw[rW,vP,vP]
    by_cases q:j=a
    ·rw[if_pos q,if_pos q]
     rfl
    ·rw[if_neg q,if_neg q]
     exact ih
  rw[go]
  by_cases q:j=k
  ·rw[if_pos q,if_pos q,q,h]
   rfl
  ·rw[if_neg q,if_neg q]
   simp
theorem Wk {k:List aA}(h:f (vA ρ)=some d)(hg:FF i ρ=some kds)(hk:g (vS ρ)=some (.tuple k))(h1:bU k=true)(h2:dA k≤6)(h3:dB d=true)(hl:kds.length<100000)(kk:P (.nx (ρ.set i (some (9,.dict ((.none,.none)::kO kds k d)))))):Goes (FK i .a f .s g) ρ P:=⟨_,by
 have e1:eV 0 .a f ρ=some d:=evA h h3
 have e2:eV 0 .s g ρ=some (.tuple k):=hk
 unfold FK
 rw[e1,bE,hg,bE,e2,bE]
 show(if ((bU k=true/\dA k≤6)/\dB d=true)/\kds.length<sizeLine then some (Out.nx (ρ.set i (some (9,.dict ((.none,.none)::kO kds k d))))) else none)=_
 rw[if_pos ⟨⟨⟨h1,h2⟩,h3⟩,tT (qC hl)⟩],kk⟩
theorem Ac {fd fk fx:EF}{ρ:List (Option aA)}{A:SA}{k:List Int}(hd:fd ρ=some (sD A))(hk:fk ρ=some (bF k))(hx:fx ρ=some (.int 0)):uZ fd fk fx ρ=some (.int ((A.lookup k).getD 0:Nat)):=by
 unfold uZ
 rw[hd,bE,hk,bE,hx,bE]
 show(if (bU (k.map aU)&&decide (dA (k.map aU)≤6))=true then some ((iN (sE A) (k.map aU)).getD (.int 0)) else none)=_
 rw[nE,xW,if_pos (decide_eq_true (dS (wK k) (by decide))),IK]
 cases A.lookup k <;> rfl
def pD (ks:List aI)(zs:List aC)(c:List Int->Nat)(A:SA)(r:List Int):SA:=rM A (eJ ks zs r) ((A.lookup (eJ ks zs r)).getD 0+c r)
theorem XE (ks:List aI)(zs:List aC)(c:List Int->Nat)(k:List Int) : ∀ (R:List (List Int)) (A:SA),((R.foldl (pD ks zs c) A).lookup k).getD 0=(A.lookup k).getD 0+cK R fun r=>if eJ ks zs r=k then c r else 0
 | [],A=>rfl
 | r::R,A=>by
  rw[oV,XE ks zs c k R,fK]
  unfold pD
  rw[Vh]
  by_cases h:k=eJ ks zs r
  ·rw[if_pos h,if_pos h.symm,h]
   show _+_+_=_
   omega
  ·rw[if_neg h,if_neg (gZ h)]
   omega
theorem Xn(h6:l.2.length≤6)(hz : ∀ z∈zs,(.inr z:aI)∈l.2)(hzl:zs.length≤1000)(hR : ∀ r∈R,∃ v,r=l.2.map (tv v))(hl:R.length≤1000)(c:List Int->Nat) :
  wC [bC l,cD R c,.list (zs.map cM)]=some (sD (R.foldl (pD l.2 zs c) [])):=by
 have : ∃ d,wC [bC l,cD R c,.list (zs.map cM)]=some d/\d=sD (R.foldl (pD l.2 zs c) []):=by
  refine eR rfl ?_
  refine cR (n:=9) (d:=sD []) rfl (by simp) ?_
  let A0:List L2.Slot:=[s0 (bC l),s0 (cD R c),s0 (.list (zs.map cM))]
  refine gD (fun ρ'=>∃ x4 x5 x6:L2.Slot,ρ'=A0++[some (9,sD (R.foldl (pD l.2 zs c) [])),x4,x5,x6]) ?_ ?_
  ·refine jO (xs:=R) (q:=fun r=>dZ [bF r,.int (c r)]) (b0:=([]:SA)) (pD l.2 zs c) (fun i A ρ'=>∃ x4 x5 x6:L2.Slot,A.length≤i/\ρ'=A0++[some (9,sD A),x4,x5,x6]) (avS (SV rfl)) ⟨none,none,none,bI _,rfl⟩ ?_ ?_
   ·rintro i r A _ hx ⟨x4,x5,x6,ha,rfl⟩
    have hi:i<R.length:=(dD.mp hx).1
    have mr:=fL hx
    refine⟨A0++[some (9,sD A),s0 (bF r),s0 (.int (c r)),x6],rfl,?_⟩
    refine cR (d:=bF (eJ l.2 zs r)) (bD (ds:=[bC l,tI r,.list (zs.map cM)]) rfl (YV h6 hz hzl (hR r mr))) (by simp[A0]) ?_
    refine Wk (d:=.int ((A.lookup (eJ l.2 zs r)).getD 0+c r:Nat)) (kds:=sE A) (aZ (a:=.int ((A.lookup (eJ l.2 zs r)).getD 0:Nat)) (b:=.int (c r)) (Ac (A:=A) (k:=eJ l.2 zs r) rfl rfl rfl) rfl rfl) rfl rfl (nE _) (dS (wK _) (by decide)) rfl (by unfold sE; rw[cZ]; omega) ⟨_,.inl rfl,_,_,_,?_,by rw[Jd]; rfl⟩
    have:=Nm A (eJ l.2 zs r) ((A.lookup (eJ l.2 zs r)).getD 0+c r)
    show(rM _ _ _).length≤_
    omega
   ·rintro _ ⟨x4,x5,x6,ha,rfl⟩
    exact⟨_,rfl,_,_,_,rfl⟩
  rintro _ ⟨x4,x5,x6,rfl⟩
  exact qT (dG rfl ⟨_,rfl,rfl⟩)
 obtain⟨d,e,rfl⟩:=this
 exact e
theorem Mm(h:r∉R):iN (cE R c) (r.map aU)=none:=by
 induction R with
 | nil=>rfl
 | cons a R ih=>
  show iN ((.tuple (a.map aU),.int (c a))::cE R c) (r.map aU)=_
  rw[EH (nE a) (nE r),if_neg fun z=>h (by rw[JR z]; exact bO)]
  exact ih fun m=>h (bT _ m)
theorem Ka(h:r∈R):iN (cE R c) (r.map aU)=some (.int (c r)):=by
 induction R with
 | nil=>simp at h
 | cons a R ih=>
  show iN ((.tuple (a.map aU),.int (c a))::cE R c) (r.map aU)=_
  rw[EH (nE a) (nE r)]
  by_cases q:a=r
  ·rw[if_pos (by rw[q]),q]
  ·rw[if_neg fun z=>q (JR z)]
   exact ih ((cY.mp h).resolve_left fun z=>q z.symm)
theorem RP : ∀ (R Q:List (List Int)),(Q++R).Nodup->yL (R.map fun r=>(r.map aU,aU (c r))) (cE Q c)=cE (Q++R) c
 | [],Q,_=>by rw[mS]; rfl
 | r::R,Q,nd=>by
  have hr:r∉Q:=fun m=>(mQ.mp nd).2.2 r m r bO rfl
  show yL (R.map fun r=>(r.map aU,aU (c r))) (kO (cE Q c) (r.map aU) (.int (c r)))=_
  have:kO (cE Q c) (r.map aU) (.int (c r))=cE (Q++[r]) c:=by
   unfold kO
   rw[Mm hr,if_neg (by simp)]
   unfold cE
   rw[kN]
   rfl
  rw[this,RP R (Q++[r]) (by simpa using nd),Cq]
  rfl
theorem QJ : ∀ (U:List (List Int)),sO (U.map fun r=>dZ [bF r,.int (c r)])=some (U.map fun r=>(r.map aU,aU (c r)))
 | []=>rfl
 | r::U=>by
  show(if (bU (r.map aU)&&decide (dA (r.map aU)≤6))=true then(sO (U.map fun r=>dZ [bF r,.int (c r)])).bind fun ps=>some ((r.map aU,aU (c r))::ps) else none)=_
  rw[nE,xW,if_pos (decide_eq_true (dS (wK r) (by decide))),QJ U]
  rfl
theorem YW(nd:R.Nodup)(c:List Int->Nat):vY [.list (R.map fun r=>dZ [bF r,.int (c r)])]=some (cD R c):=by
 show(sO _).bind _=_
 rw[QJ,bE,show([]:List (aA×aA))=cE [] c from rfl,RP R [] (by simpa using nd)]
 rfl
theorem Ii {a b:Nat}(h:a<2 ^ 64):kQ (.int a) (.int b)=some (.int (a*b:Nat)):=by
 show(if ((a:Int).natAbs<2 ^ 64 \/ _) \/ _ then some (aU ((a:Int)*(b:Int))) else none)=_
 rw[if_pos (.inl (.inl (by simpa using h)))]
 rfl
theorem Wd(h6:l.2.length≤6)(hz : ∀ z∈zs,(.inr z:aI)∈l.2)(hzl:zs.length≤1000)(hR : ∀ r∈R,∃ v,r=l.2.map (tv v))(nd:R.Nodup)(hl:R.length≤1000)(c:List Int->Nat)(hc : ∀ r∈R,c r<2 ^ 64)(A:SA) :
  vT [bC l,cD R c,.list (zs.map cM),sD A]=some (cD R fun r=>c r*(A.lookup (eJ l.2 zs r)).getD 0):=by
 have : ∃ d,vT [bC l,cD R c,.list (zs.map cM),sD A]=some d/\d=cD R fun r=>c r*(A.lookup (eJ l.2 zs r)).getD 0:=by
  refine eR rfl ?_
  have e:=jP (cap:=[none,none,some 3,some 0,some 2]) (fi:=iDR (aB 1)) (T:=gB2 0 1) (t:=dM) (f:=gA (aG (aB 0) (aG (eOp kQ (aB 1) (uZ (aB 2) (aO pK (aG (aB 3) (aG (aB 0) (aG (aB 4) aM)))) (eC (.int 0)))) aM)))
   (ρ:=vS [s0 (bC l),s0 (cD R c),s0 (.list (zs.map cM)),s0 (sD A)]) (xs:=R) (q:=fun r=>dZ [bF r,.int (c r)]) (fun _=>true) (fun r=>dZ [bF r,.int (c r*(A.lookup (eJ l.2 zs r)).getD 0:Nat)]) (SV rfl) (by omega) fun r mr=>
    ⟨[some (bF r),some (.int (c r)),some (sD A),some (bC l),some (.list (zs.map cM))],rfl,rfl,fun _=>qQ (bL rfl (bL (aZ (a:=.int (c r)) (b:=.int ((A.lookup (eJ l.2 zs r)).getD 0:Nat)) rfl (Ac (A:=A) (k:=eJ l.2 zs r) rfl (bD (ds:=[bC l,tI r,.list (zs.map cM)]) rfl (YV h6 hz hzl (hR r mr))) rfl) (Ii (hc r mr))) rfl))⟩
  rw[nV.mpr fun _ _=>rfl] at e
  exact dG (d:=cD R fun r=>c r*(A.lookup (eJ l.2 zs r)).getD 0) (bD (bL e rfl) (YW nd fun r=>c r*(A.lookup (eJ l.2 zs r)).getD 0)) ⟨_,rfl,rfl⟩
 obtain⟨d,e,rfl⟩:=this
 exact e
theorem Hr (R:List (List Int))(c:List Int->Nat):sG (cE R c)=true:=by
 induction R with
 | nil=>rfl
 | cons r R ih=>
  show(ftD (.int (c r))&&sG (cE R c))=true
  rw[ih]
  rfl
theorem Fl (R:List (List Int))(c:List Int->Nat):ftD (cD R c)=true:=by
 show ftM ((.none,.none)::cE R c)=true
 simp only[ftM]
 exact Hr R c
theorem Vw{jn:Nat}(h:f (vA ρ)=some d)(ho:rN ρ=true)(hf:ftD d=true)(hg:getL i ρ=some ds)(hk:g (vS ρ)=some (.int j))(hj:ixN ds.length j=some jn)(k:P (.nx (ρ.set i (some (1,.list (ds.set jn d)))))):Goes (oA i .a f .s g) ρ P:=by
 refine⟨_,?_,k⟩
 have e1:eV 0 .a f ρ=some d:=by
  show((f (vA ρ)).bind fun d=>if (gC 0 d||(uQ ρ&&decide (0<9)&&iM 0 d)||(rN ρ&&decide (0=0)&&ftD d))=true then some d else none)=_
  rw[h,bE,ho,hf,if_pos (by simp)]
 have e2:eV 0 .s g ρ=some (.int j):=hk
 unfold oA
 rw[e1,bE,hg,bE,e2,bE]
 show((ixN ds.length j).bind fun j=>some (Out.nx (ρ.set i (some (1,.list (ds.set j d))))))=_
 rw[hj,bE]
def cmF (ls:List Ln)(a b:Nat):List aC:=cmL (ls.getD a lnD) (ls.getD b lnD)
theorem He (ls:List Ln):Cm (lsF ls) (cmF ls):=fun a b z=>A2y
def tdD (t:nY):aA:=.list (t.map bX)
abbrev tR (t:nY):Nat->List (List Int):=fun k=>t.getD k []
def tcL (n:Nat)(R:Nat->List (List Int))(c:Nat->List Int->Nat):List aA:=(cF n).map fun k=>cD (R k) (c k)
def tcD (n:Nat)(R:Nat->List (List Int))(c:Nat->List Int->Nat):aA:=.list (tcL n R c)
section
variable {p:Nat}{R:Nat->List (List Int)}{c:Nat->List Int->Nat}
theorem FJ (h:k<n):gIx (tcD n R c) (.int k)=some (cD (R k) (c k)):=CO (by unfold tcL; rw[eQ,GA h]; rfl)
theorem Ki:(tcL n R c).length=n:=by unfold tcL; simp
theorem Jn {c2:Nat->List Int->Nat}(h : ∀ j,j≠p->c2 j=c j):(tcL n R c).set p (cD (R p) (c2 p))=tcL n R c2:=by
 unfold tcL
 refine OD fun i=>?_
 rw[List.getElem?_set]
 by_cases q:p=i
 ·subst q
  rw[if_pos rfl]
  by_cases hl:p<n
  ·rw[if_pos (by simpa using hl),eQ,GA hl]
   rfl
  ·rw[if_neg (by simpa using hl),eQ,GB (by simpa using hl)]
   rfl
 ·rw[if_neg q,eQ,eQ]
  cases e:(cF n)[i]? with
  | none=>rfl
  | some j=>
   have:j=i:=by
    have:=dD.mp e
    obtain⟨_,w⟩:=this
    simpa using w.symm
   subst this
   show some (cD (R j) (c j))=some (cD (R j) (c2 j))
   rw[h j (gZ q)]
end
theorem map_range(f:α->β)(d:α) : ∀ t:List α,t.map f=(cF t.length).map fun k=>f (t.getD k d):=fun t=>by
 refine OD fun i=>?_
 rw[eQ,eQ]
 by_cases h:i<t.length
 ·rw[GA h,jX h]
  simp[qH,h]
 ·rw[GB (by omega),GB (by simpa using h)]
  rfl
def mV (L:List Nat)(es:List (Nat×Nat))(i:Nat):List Nat:=(es.take i).foldl (fun L q=>L.erase q.1) L
theorem RG {ls:Nat->List aI} : ∀ {es:List (Nat×Nat)} {L:List Nat} {i:Nat} {q:Nat×Nat},Akr ls L es->L.Nodup->es[i]?=some q->uW ls (fun k=>k∈mV L es i) q.1 q.2/\(mV L es i).Nodup/\mV L es (i+1)=(mV L es i).erase q.1
 | e::es,L,0,q,E,nd,h=>by
  cases h
  exact⟨E.1,nd,rfl⟩
 | e::es,L,i+1,q,E,nd,h=>by
  have:=RG (i:=i) E.2 (nd.erase _) (by simpa using h)
  exact this
theorem CB(ho : ∀ l∈ls,jD l)(h:k<ls.length):jD (ls.getD k lnD):=by
 have:ls.getD k lnD=ls[k]:=by simp[qH,h]
 rw[this]
 exact ho _ (qG h)
theorem Ap (ls:List Ln):Akr (lsF ls) (cF ls.length) (cS ls).1:=Akr.of xO (fun k=>qE.symm) (JD ls)
def jJ (ls:List Ln)(t:nY):Nat->List Int->Nat:=PH (lsF ls) (tR t) (cmF ls) (fun _ _=>1) (cS ls).1
theorem Uc(ho : ∀ l∈ls,jD l)(hn:ls.length≤50){t:nY}(hl:t.length=ls.length)(hf:GY (lsF ls) t){M:Nat}(hM:1≤M)(hM2:M≤1000)(hs : ∀ k,(t.getD k []).length≤M)(nd : ∀ k,(t.getD k []).Nodup)(hb:M ^ (ls.length - 1)<2 ^ 64) :
  xF [lsD ls,tdD t]=some (tcD ls.length (tR t) (jJ ls t))/\Cb M ls.length (mV (cF ls.length) (cS ls).1 (cS ls).1.length) (jJ ls t):=by
 obtain⟨_,s2⟩:=JI (JD ls)
 have : ∃ d,xF [lsD ls,tdD t]=some d/\d=tcD ls.length (tR t) (jJ ls t)/\Cb M ls.length (mV (cF ls.length) (cS ls).1 (cS ls).1.length) (jJ ls t):=by
  refine eR rfl ?_
  have e0:=jP (cap:=[none]) (fi:=iIt (aB 1)) (T:=gB 0) (t:=dM) (f:=aO vY (aG (eLC [none] (iIt (aB 0)) (gB 0) dM (gA (aG (aB 0) (aG (eC (.int 1)) aM)))) aM)) (ρ:=vS [s0 (lsD ls),s0 (tdD t),none,none,none,none]) (xs:=t) (q:=bX) (fun _=>true) (fun rows=>cD rows fun _=>1) (gP rfl) (by omega) fun rows m=>⟨[some (bX rows)],rfl,rfl,fun _=>by
   have h1:rows.length≤M/\rows.Nodup:=by
    obtain⟨k,hk,rfl⟩:=xR m
    have e:t.getD k []=t[k]:=by simp[qH,hk]
    rw[← e]
    exact⟨hs k,nd k⟩
   have e1:=jP (cap:=[none]) (fi:=iIt (aB 0)) (T:=gB 0) (t:=dM) (f:=gA (aG (aB 0) (aG (eC (.int 1)) aM))) (ρ:=[some (bX rows)]) (xs:=rows) (q:=bF) (fun _=>true) (fun r=>dZ [bF r,.int (1:Nat)]) (gP rfl) (by omega) fun r _=>⟨[some (bF r)],rfl,rfl,fun _=>rfl⟩
   rw[nV.mpr fun _ _=>rfl] at e1
   exact bD (bL e1 rfl) (YW h1.2 fun _=>1)⟩
  rw[nV.mpr fun _ _=>rfl] at e0
  have e2:rR (t.map fun rows=>cD rows fun _=>1)=tcD ls.length (tR t) fun _ _=>1:=by
   rw[map_range _ [] t,hl]
   rfl
  rw[e2] at e0
  refine cR (n:=1) (d:=tcD ls.length (tR t) fun _ _=>1) e0 (by simp) ?_
  refine gD (fun ρ'=>Cb M ls.length (mV (cF ls.length) (cS ls).1 (cS ls).1.length) (jJ ls t) /\ ∃ x3 x4 x5:L2.Slot,ρ'=[s0 (lsD ls),s0 (tdD t),some (1,tcD ls.length (tR t) (jJ ls t)),x3,x4,x5]) ?_ ?_
  ·refine jO (xs:=(cS ls).1) (q:=kW) (b0:=fun _ _=>1) (fun c q=>cUp (lsF ls) (tR t) (cmF ls q.1 q.2) c q.1 q.2) (fun i c ρ'=>Cb M ls.length (mV (cF ls.length) (cS ls).1 i) c /\ ∃ x3 x4 x5:L2.Slot,(∀ y∈[x3,x4,x5],∀ z,y≠some (9,z))/\ρ'=[s0 (lsD ls),s0 (tdD t),some (1,tcD ls.length (tR t) c),x3,x4,x5]) (avS (gP ?_)) ⟨Cb.one (by simp[mV]),none,none,none,by simp,rfl⟩ ?_ ?_
   ·show((aO kT (aG (aB 0) aM)) (vS [s0 (lsD ls),s0 (tdD t),some (1,tcD ls.length (tR t) fun _ _=>1),none,none,none])).bind (ix2 0)=_
    rw[bD (ds:=[lsD ls]) rfl (Aa ho hn)]
    rfl
   ·rintro i q c _ hq ⟨cb,x3,x4,x5,_,rfl⟩
    obtain⟨m1,m2⟩:=s2 q (fL hq)
    obtain⟨E1,nd1,er⟩:=RG (Ap ls) xO hq
    have o1:=CB ho m1
    have o2:=CB ho m2
    refine⟨[s0 (lsD ls),s0 (tdD t),some (1,tcD ls.length (tR t) c),s0 (.int q.1),s0 (.int q.2),x5],rfl,?_⟩
    refine cR (d:=.list ((cmF ls q.1 q.2).map cM)) (bD (ds:=[bC (ls.getD q.1 lnD),bC (ls.getD q.2 lnD)]) (bL (aZ (a:=lsD ls) (b:=.int q.1) rfl rfl (pH m1)) (bL (aZ (a:=lsD ls) (b:=.int q.2) rfl rfl (pH m2)) rfl)) (Ny o1)) (by simp) ?_
    have hzl:(cmF ls q.1 q.2).length≤1000:=dS (Gd o1) (by decide)
    have hsm:=Xn (l:=ls.getD q.1 lnD) o1.1 (zs:=cmF ls q.1 q.2) (fun z m=>(A2y.mp m).1) hzl (R:=t.getD q.1 []) (hf q.1) (dS (hs _) hM2) (c q.1)
    have htm:=Wd (l:=ls.getD q.2 lnD) o2.1 (zs:=cmF ls q.1 q.2) (fun z m=>(A2y.mp m).2) hzl (R:=t.getD q.2 []) (hf q.2) (nd _) (dS (hs _) hM2) (c q.2) (fun r _=>BE (cb.le hM E1.2.1 r) hb) ((t.getD q.1 []).foldl (pD (ls.getD q.1 lnD).2 (cmF ls q.1 q.2) (c q.1)) [])
    have hcu:(fun r=>c q.2 r*(((t.getD q.1 []).foldl (pD (ls.getD q.1 lnD).2 (cmF ls q.1 q.2) (c q.1)) []).lookup (eJ (ls.getD q.2 lnD).2 (cmF ls q.1 q.2) r)).getD 0)=cUp (lsF ls) (tR t) (cmF ls q.1 q.2) c q.1 q.2 q.2:=funext fun r=>by
     rw[XE]
     unfold cUp
     rw[if_pos rfl]
     show _*(0+_)=_
     rw[NO]
     rfl
    rw[hcu] at htm
    refine Vw (d:=cD (tR t q.2) (cUp (lsF ls) (tR t) (cmF ls q.1 q.2) c q.1 q.2 q.2)) (j:=q.2) (jn:=q.2) (ds:=tcL ls.length (tR t) c) (bD (ds:=[bC (ls.getD q.2 lnD),cD (tR t q.2) (c q.2),.list ((cmF ls q.1 q.2).map cM),sD ((t.getD q.1 []).foldl (pD (ls.getD q.1 lnD).2 (cmF ls q.1 q.2) (c q.1)) [])])
     (bL (aZ (a:=lsD ls) (b:=.int q.2) rfl rfl (pH m2)) (bL (aZ (a:=tcD ls.length (tR t) c) (b:=.int q.2) rfl rfl (FJ m2)) (bL rfl (bL (bD (ds:=[bC (ls.getD q.1 lnD),cD (tR t q.1) (c q.1),.list ((cmF ls q.1 q.2).map cM)]) (bL (aZ (a:=lsD ls) (b:=.int q.1) rfl rfl (pH m1)) (bL (aZ (a:=tcD ls.length (tR t) c) (b:=.int q.1) rfl rfl (FJ m1)) rfl)) hsm) rfl)))) htm)
     (by simp[rN,s0]) (Fl _ _) rfl rfl (ML (by rw[Ki]; exact m2)) ⟨_,.inl rfl,?_,s0 (.int q.1),s0 (.int q.2),s0 (.list ((cmF ls q.1 q.2).map cM)),by simp[s0],?_⟩
    ·rw[er]
     exact cb.step nd1 E1.1 E1.2.1 E1.2.2.1 (hs _)
    ·rw[Jn (p:=q.2) (c2:=cUp (lsF ls) (tR t) (cmF ls q.1 q.2) c q.1 q.2) fun j hj=>funext fun r=>by unfold cUp; rw[if_neg hj]]
     rfl
   ·rintro _ ⟨cb,x3,x4,x5,_,rfl⟩
    exact⟨_,rfl,cb,x3,x4,x5,rfl⟩
  rintro _ ⟨cb,x3,x4,x5,rfl⟩
  exact JC rfl ⟨_,rfl,rfl,cb⟩
 obtain⟨d,e,rfl,cb⟩:=this
 exact⟨e,cb⟩
theorem Ld{kn kn':Kn}(h:dF ks r kn=some kn')(v:aC->Int):tV kn' v↔tV kn v/\r=ks.map (tv v):=by
 obtain⟨h1,h2⟩:=JH h
 obtain⟨_,h3,_⟩:=LX h
 constructor
 ·intro a
  refine⟨fun z u e=>a z u (h3 z u e),?_⟩
  rw[h1]
  exact CW fun z m=>a z _ (h2 z m)
 ·rintro⟨a,e⟩
  obtain⟨kn2,e2,a2⟩:=TL (ks:=ks) a
  rw[← e,h] at e2
  cases e2
  exact a2
theorem Kx (kn:Kn):tV kn (eT kn):=fun z u e=>by
 unfold eT
 rw[e]
 rfl
section
variable {ls:Nat->List aI}{R:Nat->List (List Int)}{c:Nat->List Int->Nat}
def mB (ls:Nat->List aI)(R:Nat->List (List Int))(L:List Nat)(kns:List Kn):List Kn:=L.foldl (fun kns k=>eZ kns (ls k) (R k)) kns
theorem LB : ∀ (L:List Nat) (kns:List Kn),mB ls R L kns=kns.flatMap fun kn=>mB ls R L [kn]
 | [],kns=>by
  show kns=kns.flatMap fun kn=>[kn]
  simp
 | k::L,kns=>by
  show mB ls R L (eZ kns (ls k) (R k))=kns.flatMap fun kn=>mB ls R L (eZ [kn] (ls k) (R k))
  rw[LB L]
  unfold eZ
  rw[List.flatMap_assoc]
  congr 1
  funext kn
  rw[LB L ([kn].flatMap _)]
  simp
theorem TZ : ∀ (L D:List Nat) (kn:Kn) (ρ:Ch),(D++L).Nodup->(∀ v,(∀ k∈D,ρ k=(ls k).map (tv v))↔tV kn v) ->
  cK (mB ls R L [kn]) (fun kn=>jM (D++L) fun k=>c k ((ls k).map (tv (eT kn))))=Sm R L ρ (Wt ls c (D++L))
 | [],D,kn,ρ,nd,h=>by
  have hv:=(h (eT kn)).mpr (Kx kn)
  show jM (D++[]) _+0=Wt ls c (D++[]) ρ
  rw[mS]
  unfold Wt
  rw[if_pos ⟨eT kn,hv⟩,Nat.add_zero]
  exact EO fun k m=>by rw[hv k m]
 | k::L,D,kn,ρ,nd,h=>by
  have eD:D++k::L=(D++[k])++L:=by simp
  have kD':k∉D:=fun m=>(mQ.mp nd).2.2 k m k bO rfl
  have kj : ∀ j∈D,j≠k:=fun j m z=>kD' (by rw[← z]; exact m)
  have kL:k∉L:=(jW.mp (mQ.mp nd).2.1).1
  show cK (mB ls R L (eZ [kn] (ls k) (R k))) _=cK (R k) fun r=>Sm R L (chU ρ k r) _
  rw[LB,VN]
  have ee:eZ [kn] (ls k) (R k)=(R k).filterMap fun r=>dF (ls k) r kn:=by
   unfold eZ
   simp
  rw[ee,IF]
  refine nF fun r _=>?_
  cases e:dF (ls k) r kn with
  | some kn1=>
   show cK (mB ls R L [kn1]) _=_
   rw[eD] at nd ⊢
   refine TZ L (D++[k]) kn1 (chU ρ k r) nd fun v=>?_
   rw[Ld e,← h v]
   constructor
   ·intro g
    refine⟨fun j hj=>?_,?_⟩
    ·have:=g j (BJ _ hj)
     rwa [pJ (kj j hj)] at this
    ·have:=g k (mR _ bO)
     rwa [vK] at this
   ·rintro⟨g1,g2⟩ j hj
    rcases fY.mp hj with hj | hj
    ·rw[pJ (kj j hj)]
     exact g1 j hj
    ·rw[cG.mp hj,vK]
     exact g2
  | none=>
   refine(Mt fun ρ' hρ=>?_).symm
   unfold Wt
   refine if_neg fun gh=>?_
   obtain⟨v,hv⟩:=gh
   have a:tV kn v:=(h v).mp fun j hj=>by
    have h1:=hv j (BJ _ hj)
    have jL:j∉L:=fun m=>(mQ.mp nd).2.2 j hj j (bT _ m) rfl
    rw[hρ j jL,pJ (kj j hj)] at h1
    exact h1
   have h2:=hv k (mR _ bO)
   rw[hρ k kL,vK] at h2
   obtain⟨kn2,e2,_⟩:=TL (ks:=ls k) a
   rw[← h2,e] at e2
   cases e2
theorem UC {L:List Nat}(nd:L.Nodup)(ρ:Ch):cK (mB ls R L [[]]) (fun kn=>jM L fun k=>c k ((ls k).map (tv (eT kn))))=Sm R L ρ (Wt ls c L):=
 TZ L [] [] ρ nd fun v=>⟨fun _ z u e=>by simp[cH] at e,fun _ k m=>by simp at m⟩
end
theorem UA (ls:List Ln) : ∀ (n:Nat) (L:List Nat),(eGo ls n L).1.foldl (fun L q=>L.erase q.1) L=(eGo ls n L).2
 | 0,L=>rfl
 | n+1,L=>by
  unfold eGo
  cases e:gW ls L with
  | none=>rfl
  | some p=>exact UA ls n (L.erase p.1)
theorem KU (ls:List Ln):(cS ls).1.foldl (fun L q=>L.erase q.1) (cF ls.length)=(cS ls).2:=UA ls _ _
theorem Ui (ls:List Ln):mV (cF ls.length) (cS ls).1 (cS ls).1.length=(cS ls).2:=by
 unfold mV
 rw[NT]
 exact KU ls
theorem XF(f:α->Nat) : ∀ (xs:List α) (a:Nat),xs.foldl (fun a x=>a*f x) a=a*jM xs f
 | [],a=>(Nat.mul_one a).symm
 | x::xs,a=>by rw[oV,XF f xs,xA,Nat.mul_assoc]
theorem VF(f:α->Nat) : ∀ (xs:List α) (a:Nat),xs.foldl (fun a x=>a+f x) a=a+cK xs f
 | [],a=>rfl
 | x::xs,a=>by rw[oV,VF f xs,fK,BG]
def mD (ls:List Ln)(t:nY):List LR:=(cS ls).2.map fun k=>(ls.getD k lnD,t.getD k [])
theorem yW(h:k∈(cS ls).2):k<ls.length:=(JI (JD ls)).1 k h
theorem JL (ls:List Ln):(cS ls).2.length≤ls.length:=by
 have:=(ZP (ls:=ls) (n:=ls.length) (L:=cF ls.length)).2
 rw[NX] at this
 exact this
theorem Hx (ls:List Ln)(t:nY):jK (mD ls t)=mB (lsF ls) (tR t) (cS ls).2 [[]]:=by
 unfold jK mD mB
 rw[OC]
 rfl
theorem JJ(ho : ∀ l∈ls,jD l)(hn:ls.length≤50){ρ:List (Option aA)}(h:f ρ=some (lsD ls)):sH 1 (aO kT (aG f aM)) ρ=some (lN (cS ls).2):=by
 unfold sH
 rw[bD (ds:=[lsD ls]) (bL h rfl) (Aa ho hn)]
 rfl
theorem Rv(ho : ∀ l∈ls,jD l)(hn:ls.length≤16){t:nY}(c:Nat->List Int->Nat)(hw:gG (mD ls t)≤4096) :
  wV [lsD ls,tcD ls.length (tR t) c]=some (.list ((jK (mD ls t)).map knD))/\(jK (mD ls t)).length≤4096:=by
 have hr:=JL ls
 obtain⟨e,h1⟩:=Ot (cS ls).2 (fun k=>ls.getD k lnD) (tR t) c (by omega) (fun k mk=>(CB ho (yW mk)).1) hw
 refine⟨?_,h1⟩
 have : ∃ d,wV [lsD ls,tcD ls.length (tR t) c]=some d/\d = .list ((jK (mD ls t)).map knD):=by
  refine eR rfl ?_
  refine cR (d:=lN (cS ls).2) (JJ ho (by omega) rfl) (by simp) ?_
  have e1:=jP (cap:=[none,some 0]) (fi:=iIt (aB 2)) (T:=gB 0) (t:=dM) (f:=eOp gIx (aB 1) (aB 0)) (ρ:=vS [s0 (lsD ls),s0 (tcD ls.length (tR t) c),s0 (lN (cS ls).2)]) (xs:=(cS ls).2) (q:=fun(k:Nat)=>aU k) (fun _=>true) (fun k=>bC (ls.getD k lnD)) (gP rfl) (by omega) fun k mk=>⟨[some (.int k),some (lsD ls)],rfl,rfl,fun _=>aZ (a:=lsD ls) (b:=.int k) rfl rfl (pH (yW mk))⟩
  have e2:=jP (cap:=[none,some 1]) (fi:=iIt (aB 2)) (T:=gB 0) (t:=dM) (f:=eOp gIx (aB 1) (aB 0)) (ρ:=vS [s0 (lsD ls),s0 (tcD ls.length (tR t) c),s0 (lN (cS ls).2)]) (xs:=(cS ls).2) (q:=fun(k:Nat)=>aU k) (fun _=>true) (fun k=>cD (tR t k) (c k)) (gP rfl) (by omega) fun k mk=>⟨[some (.int k),some (tcD ls.length (tR t) c)],rfl,rfl,fun _=>aZ (a:=tcD ls.length (tR t) c) (b:=.int k) rfl rfl (FJ (yW mk))⟩
  rw[nV.mpr fun _ _=>rfl] at e1 e2
  exact dG (d:=.list ((jK (mD ls t)).map knD)) (bD (bL (bD (bL e1 rfl) rfl) (bL e2 rfl)) e) ⟨_,rfl,rfl⟩
 obtain⟨d,e,rfl⟩:=this
 exact e
theorem Gk {a b:Nat}(h:b<2 ^ 64):kQ (.int a) (.int b)=some (.int (a*b:Nat)):=by
 show(if (_ \/ (b:Int).natAbs<2 ^ 64) \/ _ then some (aU ((a:Int)*(b:Int))) else none)=_
 rw[if_pos (.inl (.inr (by simpa using h)))]
 rfl
theorem Je {fa fb:EF}{ρ:List (Option aA)}(ha:fa ρ=some (cD R c))(hb:fb ρ=some (bF r))(m:r∈R):eOp BX fa fb ρ=some (.int (c r)):=aZ ha hb (by
 show(if (bU (r.map aU)&&decide (dA (r.map aU)≤6))=true then iN (cE R c) (r.map aU) else none)=_
 rw[nE,xW,if_pos (decide_eq_true (dS (wK r) (by decide))),Ka m])
def sL (ls:Nat->List aI)(R:Nat->List (List Int))(n:Nat):Nat:=Sm R (cF n) (fun _=>[]) (Wt ls (fun _ _=>1) (cF n))
theorem Nb(ho : ∀ l∈ls,jD l)(hn:ls.length≤16){t:nY}(hl:t.length=ls.length)(hf:GY (lsF ls) t){M:Nat}(hM:1≤M)(hM2:M≤1000)(hs : ∀ k,(t.getD k []).length≤M)(nd : ∀ k,(t.getD k []).Nodup)(hb:M ^ (ls.length - 1)<2 ^ 64)
  (er:rJ [.dict kds,lsD ls]=some .none) (ef:uB [.dict kds,lsD ls]=some (tdD t)) (hw:gG (mD ls t)≤4096):sZ [.dict kds,lsD ls]=some (.int (sL (lsF ls) (tR t) ls.length:Nat)):=by
 obtain⟨ec,cb⟩:=Uc ho (by omega) hl hf hM hM2 hs nd hb
 rw[Ui] at cb
 obtain⟨ew,lw⟩:=Rv ho hn (t:=t) (jJ ls t) hw
 let num:Kn->Nat:=fun kn=>jM (cS ls).2 fun k=>jJ ls t k ((lsF ls k).map (tv (eT kn)))
 have tot:sL (lsF ls) (tR t) ls.length=cK (jK (mD ls t)) num:=by
  unfold sL
  rw[UG (He ls) (fun k r m=>hf k r m) _ xO (Ap ls),KU,Hx]
  refine(UC ?_ _).symm
  rw[← KU]
  have go : ∀ (es:List (Nat×Nat)) (L:List Nat),L.Nodup->(es.foldl (fun L q=>L.erase q.1) L).Nodup:=by
   intro es
   induction es with
   | nil=>exact fun L h=>h
   | cons q es ih=>exact fun L h=>ih _ (h.erase _)
  exact go _ _ xO
 have : ∃ d,sZ [.dict kds,lsD ls]=some d/\d = .int (sL (lsF ls) (tR t) ls.length:Nat):=by
  refine eR rfl ?_
  refine gK (ρ':=[s0 (.dict kds),s0 (lsD ls),none,none,none,none,none,none]) (by
   show qO .s (aO rJ (aG (aB 0) (aG (aB 1) aM))) [s0 (.dict kds),s0 (lsD ls),none,none,none,none,none,none]=_
   unfold qO
   rw[show eV 0 .s (aO rJ (aG (aB 0) (aG (aB 1) aM))) [s0 (.dict kds),s0 (lsD ls),none,none,none,none,none,none]=some .none from bD rfl er]
   rfl) ?_
  refine cR (d:=tcD ls.length (tR t) (jJ ls t)) (bD (ds:=[lsD ls,tdD t]) (bL rfl (bL (bD rfl ef) rfl)) ec) (by simp) ?_
  refine cR (d:=lN (cS ls).2) (JJ ho (by omega) rfl) (by simp) ?_
  refine cR (d:=.int 0) rfl (by simp) ?_
  let A:List L2.Slot:=[s0 (.dict kds),s0 (lsD ls),s0 (tcD ls.length (tR t) (jJ ls t)),s0 (lN (cS ls).2)]
  refine gD (fun ρ'=>∃ x5 x6 x7:L2.Slot,ρ'=A++[s0 (.int (sL (lsF ls) (tR t) ls.length:Nat)),x5,x6,x7]) ?_ ?_
  ·refine jO (xs:=jK (mD ls t)) (q:=knD) (b0:=(0:Nat)) (fun a kn=>a+num kn) (fun _ a ρ'=>∃ x5 x6 x7:L2.Slot,ρ'=A++[s0 (.int (a:Nat)),x5,x6,x7]) (avS (gP (bD (ds:=[lsD ls,tcD ls.length (tR t) (jJ ls t)]) rfl ew))) ⟨none,none,none,rfl⟩ ?_ ?_
   ·rintro i kn a _ hx ⟨x5,x6,x7,rfl⟩
    have got:=Xb (mD ls t) kn (fL hx)
    refine⟨A++[s0 (.int (a:Nat)),s0 (knD kn),x6,x7],rfl,?_⟩
    refine cR (d:=.int (1:Nat)) rfl (by simp[A]) ?_
    refine gD (fun ρ'=>∃ x7:L2.Slot,ρ'=A++[s0 (.int (a:Nat)),s0 (knD kn),s0 (.int (num kn:Nat)),x7]) ?_ ?_
    ·refine jO (xs:=(cS ls).2) (q:=fun(k:Nat)=>aU k) (b0:=(1:Nat)) (fun b k=>b*jJ ls t k ((lsF ls k).map (tv (eT kn)))) (fun _ b ρ'=>∃ x7:L2.Slot,ρ'=A++[s0 (.int (a:Nat)),s0 (knD kn),s0 (.int (b:Nat)),x7]) (avS (gP rfl)) ⟨x7,rfl⟩ ?_ ?_
     ·rintro j k b _ hk ⟨x7,rfl⟩
      have mk:=fL hk
      have lk:=yW mk
      obtain⟨g1,g2⟩:=got (ls.getD k lnD,t.getD k []) (dC.mpr ⟨k,mk,rfl⟩)
      refine⟨A++[s0 (.int (a:Nat)),s0 (knD kn),s0 (.int (b:Nat)),s0 (.int (k:Nat))],rfl,?_⟩
      refine tO (d:=.int (b*jJ ls t k ((lsF ls k).map (tv (eT kn))):Nat)) (aZ (a:=.int (b:Nat)) (b:=.int (jJ ls t k ((lsF ls k).map (tv (eT kn))):Nat)) rfl (Je (R:=tR t k) (c:=jJ ls t k) (r:=(lsF ls k).map (tv (eT kn))) (aZ (a:=tcD ls.length (tR t) (jJ ls t)) (b:=.int k) rfl rfl (FJ lk)) (bD (ds:=[tK (lsF ls k),knD kn]) (bL (aZ (a:=bC (ls.getD k lnD)) (b:=.int 1) (aZ (a:=lsD ls) (b:=.int k) rfl rfl (pH lk)) rfl rfl) rfl) (Px (dS (CB ho lk).1 (by decide)) g1)) g2) (Gk (BE (cb.le hM mk _) hb))) (by simp[A]) ⟨_,.inl rfl,_,rfl⟩
     ·rintro _ ⟨x7,rfl⟩
      rw[XF,Nat.one_mul]
      exact⟨_,rfl,_,rfl⟩
    rintro _ ⟨x7,rfl⟩
    exact tO (d:=.int (a+num kn:Nat)) (aZ (a:=.int (a:Nat)) (b:=.int (num kn:Nat)) rfl rfl rfl) (by simp[A]) ⟨_,.inl rfl,_,_,_,rfl⟩
   ·rintro _ ⟨x5,x6,x7,rfl⟩
    rw[VF,NO,← tot]
    exact⟨_,rfl,_,_,_,rfl⟩
  rintro _ ⟨x5,x6,x7,rfl⟩
  exact dG rfl ⟨_,rfl,rfl⟩
 obtain⟨d,e,rfl⟩:=this
 exact e
def ftR (B:aC->List (List Int))(l:Ln):List (List Int):=srt ((B l.1).filter fun r=>(dF l.2 r []).isSome)
theorem Ba4:r∈ftR B l↔r∈B l.1 /\ ∃ v,r=l.2.map (tv v):=by
 unfold ftR
 rw[Jr,BI]
 refine and_congr_right fun _=>?_
 rw[FU]
 exact A0d
theorem Nf (B:aC->List (List Int))(l:Ln):(ftR B l).length≤(B l.1).length:=by
 unfold ftR
 rw[Mi]
 exact NY _ _
theorem Pl (b:Bk kds B wd)(h6:l.2.length≤6):tY [.dict kds,bC l]=some (bX (ftR B l)):=by
 have es:yJ [bX ((B l.1).filter fun r=>(dF l.2 r []).isSome)]=some (bX (ftR B l)):=Kl (b.pos l.1) (fun r m=>b.wid l.1 r (BI.mp m).1) (BE (NY _ _) (b.few l.1))
 have : ∃ d,tY [.dict kds,bC l]=some d/\d=bX (ftR B l):=by
  have e:=jP (cap:=[none,some 1]) (fi:=iIt (aO mK (aG (aB 0) (aG (aB 1) aM)))) (T:=gB 0) (t:=bOf (eOp oB (aO mY (aG (aB 1) (aG (aB 0) (aG (eC (.dict [])) aM)))) (eC .none))) (f:=aB 0)
   (ρ:=vS [s0 (.dict kds),s0 (bC l)]) (xs:=B l.1) (q:=bF) (fun r=>(dF l.2 r []).isSome) bF (gP (bD (ds:=[.dict kds,bC l]) rfl (VG b l.1 _))) (by have:=b.few l.1; omega) (fun r m=>by
    refine⟨[some (bF r),some (bC l)],rfl,?_,fun _=>rfl⟩
    have hf:=IW (.str l.1) l.2 r [] (by omega) (by simp)
    refine fO (aZ (a:=uV (dF l.2 r [])) (b:=.none) (bD (ds:=[bC l,tI r,.dict (DN [])]) rfl hf) rfl ?_)
    cases dF l.2 r [] <;> rfl)
  refine eR rfl (dG (d:=bX (ftR B l)) (bD (bL e rfl) es) ⟨_,rfl,rfl⟩)
 obtain⟨d,e,rfl⟩:=this
 exact e
theorem Sq (b:Bk kds B wd)(h6 : ∀ l∈ls,l.2.length≤6)(hn:ls.length≤50):uB [.dict kds,lsD ls]=some (tdD (ls.map (ftR B))):=by
 have : ∃ d,uB [.dict kds,lsD ls]=some d/\d=tdD (ls.map (ftR B)):=by
  have e:=jP (cap:=[none,some 0]) (fi:=iIt (aB 1)) (T:=gB 0) (t:=dM) (f:=aO tY (aG (aB 1) (aG (aB 0) aM)))
   (ρ:=vS [s0 (.dict kds),s0 (lsD ls)]) (xs:=ls) (q:=bC) (fun _=>true) (fun l=>bX (ftR B l)) rfl (by omega) fun l m=>⟨[some (bC l),some (.dict kds)],rfl,rfl,fun _=>bD (ds:=[.dict kds,bC l]) rfl (Pl b (h6 l m))⟩
  rw[nV.mpr fun _ _=>rfl] at e
  refine eR rfl (dG (d:=tdD (ls.map (ftR B))) ?_ ⟨_,rfl,rfl⟩)
  unfold tdD
  rw[fM]
  exact e
 obtain⟨d,e,rfl⟩:=this
 exact e
theorem Mf (ls:List Ln):GY (lsF ls) (ls.map (ftR B)):=fun k r m=>by
 rw[qH,eQ] at m
 unfold lsF
 rw[qH]
 cases h:ls[k]? with
 | none=>rw[h] at m; simp at m
 | some l=>
  rw[h] at m
  exact(Ba4.mp m).2
theorem Az {m:Nat}(hm:1≤m) : ∀ {ps:List LR},(∀ p∈ps,p.2.length≤m)->gG ps≤m ^ ps.length
 | [],_=>bI _
 | p::ps,h=>by
  rw[fN,NP,NQ]
  exact BC (Nat.max_le.mpr ⟨hm,h p bO⟩) (Az hm fun q mq=>h q (bT _ mq))
theorem QU{m:Nat}(hm:1≤m)(h : ∀ t,(B t).length≤m) : ∀ ls:List Ln,nH B ls≤m ^ ls.length
 | []=>bI _
 | l::ls=>by
  rw[fN,NP,NQ]
  exact BC (Nat.max_le.mpr ⟨hm,h l.1⟩) (QU hm h ls)
theorem IM(h:n≤4):6 ^ n≤4096:=dS (FV (by decide) h) (by decide)
structure Lok (ls:List Ln):Prop where
 ok : ∀ l∈ls,jD l
 w1 : ∀ l∈ls,1≤l.2.length
 n4:ls.length≤4
def qN (ls:List Ln):List Nat:=if 1<(cS ls).2.length then(cS ls).2 else []
theorem Lr(L:Lok ls):qU [lsD ls]=some (lN (qN ls)):=by
 have n4:=L.n4
 have : ∃ d,qU [lsD ls]=some d/\d=lN (qN ls):=by
  refine eR rfl ?_
  refine cR (n:=1) (d:=lN (cS ls).2) (JJ L.ok (by omega) rfl) (by simp) ?_
  have c:bV .a (bOf (eOp gGt (aO cV (aG (aB 1) aM)) (eC (.int 1)))) [s0 (lsD ls),some (1,lN (cS ls).2)]=some (decide (1<(cS ls).2.length)):=fO (aZ (a:=.int (cS ls).2.length) (b:=.int 1) (bD (ds:=[lN (cS ls).2]) rfl (CC _)) rfl (by
   show some (lA (decide (((cS ls).2.length:Int) > 1)))=_
   congr 2
   rw[pA,decide_eq_true_eq,decide_eq_true_eq]
   omega))
  unfold qN
  by_cases h:1<(cS ls).2.length
  ·rw[if_pos h]
   rw[decide_eq_true h] at c
   refine⟨.rt (lN (cS ls).2),?_,_,rfl,rfl⟩
   show(bV .a _ [s0 (lsD ls),some (1,lN (cS ls).2)]).bind _=_
   rw[c]
   rfl
  ·rw[if_neg h]
   rw[decide_eq_false h] at c
   refine⟨.rt (lN []),?_,_,rfl,rfl⟩
   show(bV .a _ [s0 (lsD ls),some (1,lN (cS ls).2)]).bind _=_
   rw[c]
   rfl
 obtain⟨d,e,rfl⟩:=this
 exact e
theorem Sw (b:Bk kds B wd)(h6 : ∀ t,(B t).length≤6)(L:Lok ls):rJ [.dict kds,lsD ls]=some .none:=by
 have n4:=L.n4
 have hr:=JL ls
 have hrl:(qN ls).length≤4 /\ ∀ k∈qN ls,k<ls.length:=by
  unfold qN
  split
  ·exact⟨by omega,fun k m=>yW m⟩
  ·exact⟨by simp,fun k m=>by simp at m⟩
 have e1:=jP (cap:=[none,some 1]) (fi:=iIt (aO qU (aG (aB 1) aM))) (T:=gB 0) (t:=dM) (f:=eOp gIx (aB 1) (aB 0)) (ρ:=vS [s0 (.dict kds),s0 (lsD ls)]) (xs:=qN ls) (q:=fun(k:Nat)=>aU k) (fun _=>true) (fun k=>bC (ls.getD k lnD)) (gP (bD (ds:=[lsD ls]) rfl (Lr L))) (by omega) fun k mk=>⟨[some (.int k),some (lsD ls)],rfl,rfl,fun _=>aZ (a:=lsD ls) (b:=.int k) rfl rfl (pH (hrl.2 k mk))⟩
 rw[nV.mpr fun _ _=>rfl] at e1
 have e2:=Wy b ((qN ls).map fun k=>ls.getD k lnD) (by rw[cZ]; omega) (dS (QU (m:=6) (by decide) h6 _) (IM (by rw[cZ]; omega)))
 rw[fM] at e2
 show outD (MA [s0 (.dict kds),s0 (lsD ls)])=_
 have e3:eV 0 .s (aO xC (aG (aB 0) (aG (aO kU (aG (eLC [none,some 1] (iIt (aO qU (aG (aB 1) aM))) (gB 0) dM (eOp gIx (aB 1) (aB 0))) aM)) aM))) [s0 (.dict kds),s0 (lsD ls)]=some .none:=
  bD (bL rfl (bL (bD (bL e1 rfl) rfl) rfl)) e2
 unfold MA qO
 rw[e3]
 rfl
def jB (s:Bool×Kn)(p:aI×Int):Bool×Kn:=if s.1=true then(match eP s.2 p with | some kn=>(true,kn) | none=>(false,s.2)) else s
theorem SQ (kn:Kn) : ∀ ps:List (aI×Int),ps.foldl jB (false,kn)=(false,kn)
 | []=>rfl
 | p::ps=>by
  rw[oV]
  exact SQ kn ps
theorem WY : ∀ (ps:List (aI×Int)) (kn:Kn),(∀ kn',fD eP kn ps=some kn'->ps.foldl jB (true,kn)=(true,kn'))/\(fD eP kn ps=none->(ps.foldl jB (true,kn)).1=false)
 | [],kn=>⟨fun kn' e=>by cases e; rfl,fun e=>by cases e⟩
 | p::ps,kn=>by
  have e0:fD eP kn (p::ps)=(eP kn p).bind fun b=>fD eP b ps:=rfl
  rw[e0,oV]
  have e1:jB (true,kn) p=match eP kn p with | some kn=>(true,kn) | none=>(false,kn):=rfl
  rw[e1]
  cases eP kn p with
  | none=>exact⟨fun kn' e=>(by cases e),fun _=>by show(ps.foldl jB (false,kn)).1=false; rw[SQ]⟩
  | some k1=>exact WY ps k1
theorem Ux {kn kn':Kn}{p:aI×Int}(h:eP kn p=some kn'):kn'.length≤kn.length+1:=by
 have:=DV (ps:=[p]) (kn:=kn) (kn':=kn') (by show(eP kn p).bind _=_; rw[h]; rfl)
 simpa using this
theorem Ya (s:Bool×Kn)(p:aI×Int):(jB s p).2.length≤s.2.length+1:=by
 unfold jB
 split
 ·cases h:eP s.2 p with
  | none=>exact rS _
  | some kn=>exact Ux h
 ·exact rS _
section
variable {a0 a1 a2 a3 a4 a5 a6 a7:L2.Slot}
abbrev chS (a0 a1 a2 a3 a4 a5 a6 a7:L2.Slot)(s:Bool×Kn)(x y:L2.Slot):aX:=[a0,a1,a2,a3,a4,a5,a6,a7,some (1,.dict (DN s.2)),s0 (.bool s.1),x,y]
theorem Qu (s:Bool×Kn)(hl:s.2.length≤1000)(p:aI×Int):Goes (sIf .s (bOf (eUn (fS "str") (aB 10))) (tJ 9 .s (aB 9) 8 .s (aB 10) .s (aB 11) .s (aB 11)) (bS 9 0 .s (oI (aB 9) (eOp gEq (aB 10) (aB 11))))) (chS a0 a1 a2 a3 a4 a5 a6 a7 s (s0 (kD p.1)) (s0 (.int p.2)))
  fun o=>∃ ρ2,(o = .nx ρ2 \/ o = .ct ρ2) /\ ∃ x y:L2.Slot,ρ2=chS a0 a1 a2 a3 a4 a5 a6 a7 (jB s p) x y:=by
 have lz:(DN s.2).length<sizeLine:=tT (by simp[DN]; omega)
 obtain⟨k,v⟩:=p
 obtain⟨g,kn⟩:=s
 cases k with
 | inl i=>
  refine kS (fO (vG (a:=.int i) rfl (CS (.inl i)))) ?_
  refine tO (d:=.bool (g&&decide (i=v))) (IG rfl fun _=>aZ (a:=.int i) (b:=.int v) rfl rfl (qW i v)) (by simp) ⟨_,.inl rfl,s0 (.int i),s0 (.int v),?_⟩
  have e:jB (g,kn) (.inl i,v)=(g&&decide (i=v),kn):=by
   unfold jB
   cases g with
   | false=>rfl
   | true=>
    show(match (if v=i then some kn else none) with | some kn=>(true,kn) | none=>(false,kn))=_
    by_cases h:v=i
    ·subst h; simp
    ·rw[if_neg h,decide_eq_false (fun q=>h q.symm)]; rfl
  rw[e]
  rfl
 | inr z=>
  refine gL (fO (vG (a:=.str z) rfl (CS (.inr z)))) ?_
  cases g with
  | false=>exact⟨.nx (chS a0 a1 a2 a3 a4 a5 a6 a7 (false,kn) (s0 (.str z)) (s0 (.int v))),rfl,_,.inl rfl,_,_,rfl⟩
  | true=>
   have e1:tJ 9 .s (aB 9) 8 .s (aB 10) .s (aB 11) .s (aB 11) (chS a0 a1 a2 a3 a4 a5 a6 a7 (true,kn) (s0 (.str z)) (s0 (.int v)))=if (DN kn).length<sizeLine then match bW (DN kn) (.inr z) with
     | some (.int u)=>rO 9 .s (aB 11) u (chS a0 a1 a2 a3 a4 a5 a6 a7 (true,kn) (s0 (.str z)) (s0 (.int v)))
     | some _=>none
     | none=>rO 9 .s (aB 11) v ((chS a0 a1 a2 a3 a4 a5 a6 a7 (true,kn) (s0 (.str z)) (s0 (.int v))).set 8 (some (1,.dict (putD (DN kn) (.inr z) (.int v))))) else none:=rfl
   rw[if_pos lz,yQ] at e1
   cases hl:cH kn z with
   | some u=>
    rw[hl] at e1
    have e1:tJ 9 .s (aB 9) 8 .s (aB 10) .s (aB 11) .s (aB 11) (chS a0 a1 a2 a3 a4 a5 a6 a7 (true,kn) (s0 (.str z)) (s0 (.int v)))=some (.nx (chS a0 a1 a2 a3 a4 a5 a6 a7 (decide (u=v),kn) (s0 (.str z)) (s0 (.int v)))):=e1
    have e:jB (true,kn) (.inr z,v)=(decide (u=v),kn):=by
     show(match (match cH kn z with | some u=>if v=u then some kn else none | none=>some (kn++[(z,v)])) with | some kn=>(true,kn) | none=>(false,kn))=_
     rw[hl]
     show(match (if v=u then some kn else none) with | some kn=>(true,kn) | none=>(false,kn))=_
     by_cases h:v=u
     ·subst h; simp
     ·rw[if_neg h,decide_eq_false (fun q=>h q.symm)]
    exact⟨_,e1,_,.inl rfl,_,_,by rw[e]⟩
   | none=>
    rw[hl] at e1
    have e1:tJ 9 .s (aB 9) 8 .s (aB 10) .s (aB 11) .s (aB 11) (chS a0 a1 a2 a3 a4 a5 a6 a7 (true,kn) (s0 (.str z)) (s0 (.int v)))=rO 9 .s (aB 11) v ((chS a0 a1 a2 a3 a4 a5 a6 a7 (true,kn) (s0 (.str z)) (s0 (.int v))).set 8 (some (1,.dict (putD (DN kn) (.inr z) (.int v))))):=e1
    rw[IS hl] at e1
    have e1:tJ 9 .s (aB 9) 8 .s (aB 10) .s (aB 11) .s (aB 11) (chS a0 a1 a2 a3 a4 a5 a6 a7 (true,kn) (s0 (.str z)) (s0 (.int v)))=some (.nx (chS a0 a1 a2 a3 a4 a5 a6 a7 (decide (v=v),kn++[(z,v)]) (s0 (.str z)) (s0 (.int v)))):=e1
    have e:jB (true,kn) (.inr z,v)=(decide (v=v),kn++[(z,v)]):=by
     show(match (match cH kn z with | some u=>if v=u then some kn else none | none=>some (kn++[(z,v)])) with | some kn=>(true,kn) | none=>(false,kn))=_
     rw[hl]
     simp
    exact⟨_,e1,_,.inl rfl,_,_,by rw[e]⟩
end
def kR (B:aC->List (List Int))(ls:List Ln):List Kn:=jK (ls.map fun l=>(l,B l.1))
theorem Py (b:Bk kds B wd)(h6 : ∀ t,(B t).length≤6)(L:Lok ls)(hw0 : ∀ l∈ls,∀ r∈B l.1,r.length=l.2.length):xE [.dict kds,lsD ls]=some (.int (kR B ls).length):=by
 have n4:=L.n4
 have : ∃ d,xE [.dict kds,lsD ls]=some d/\d = .int (kR B ls).length:=by
  refine eR rfl ?_
  refine cR (d:=.list ([[]].map knD)) (tL (ds:=[.dict []]) rfl) (by simp) ?_
  refine gD (fun ρ'=>(kR B ls).length≤4096 /\ ∃ x3 x4 x5 x6 x7 x8 x9 x10 x11:L2.Slot,ρ'=[s0 (.dict kds),s0 (lsD ls),s0 (.list ((kR B ls).map knD)),x3,x4,x5,x6,x7,x8,x9,x10,x11]) ?_ ?_
  ·refine jO (xs:=ls) (q:=bC) (b0:=[[]]) (fun kns l=>eZ kns l.2 (B l.1)) (fun i kns ρ'=>(kns.length≤6 ^ i /\ ∀ kn∈kns,kn.length≤6*i) /\ ∃ x3 x4 x5 x6 x7 x8 x9 x10 x11:L2.Slot,ρ'=[s0 (.dict kds),s0 (lsD ls),s0 (.list (kns.map knD)),x3,x4,x5,x6,x7,x8,x9,x10,x11]) (avS (tQ rfl)) ⟨⟨bI _,fun kn m=>by rw[cG.mp m]; simp⟩,none,none,none,none,none,none,none,none,none,rfl⟩ ?_ ?_
   ·rintro i l kns _ hx ⟨⟨hk,hkn⟩,x3,x4,x5,x6,x7,x8,x9,x10,x11,rfl⟩
    have hi:i<ls.length:=(dD.mp hx).1
    have hw:=(L.ok l (fL hx)).1
    have hb:=h6 l.1
    have hp:(6:Nat) ^ i≤6 ^ 3:=FV (by decide) (by omega)
    have hp:(6:Nat) ^ i≤216:=hp
    refine⟨[s0 (.dict kds),s0 (lsD ls),s0 (.list (kns.map knD)),s0 (.str l.1),s0 (tK l.2),x5,x6,x7,x8,x9,x10,x11],rfl,?_⟩
    refine cR (n:=1) (d:=.list []) rfl (by simp) ?_
    refine gD (fun ρ'=>∃ x6 x7 x8 x9 x10 x11:L2.Slot,ρ'=[s0 (.dict kds),s0 (lsD ls),s0 (.list (kns.map knD)),s0 (.str l.1),s0 (tK l.2),some (1,.list ((eZ kns l.2 (B l.1)).map knD)),x6,x7,x8,x9,x10,x11]) ?_ ?_
    ·refine jO (xs:=kns) (q:=knD) (b0:=[]) (fun acc kn=>acc++(B l.1).filterMap fun r=>dF l.2 r kn) (fun j acc ρ'=>acc.length≤j*6 /\ ∃ x6 x7 x8 x9 x10 x11:L2.Slot,ρ'=[s0 (.dict kds),s0 (lsD ls),s0 (.list (kns.map knD)),s0 (.str l.1),s0 (tK l.2),some (1,.list (acc.map knD)),x6,x7,x8,x9,x10,x11]) (avS (gP rfl)) ⟨fG _,x6,x7,x8,x9,x10,x11,rfl⟩ ?_ ?_
     ·rintro j kn acc _ hx2 ⟨ha,x6,x7,x8,x9,x10,x11,rfl⟩
      have hj:j<kns.length:=(dD.mp hx2).1
      have hknl:=hkn kn (fL hx2)
      refine⟨[s0 (.dict kds),s0 (lsD ls),s0 (.list (kns.map knD)),s0 (.str l.1),s0 (tK l.2),some (1,.list (acc.map knD)),s0 (knD kn),x7,x8,x9,x10,x11],rfl,?_⟩
      refine jO (xs:=B l.1) (q:=bF) (b0:=acc) (fun acc r=>acc++(dF l.2 r kn).toList) (fun k acc' ρ'=>acc'.length≤acc.length+k /\ ∃ x7 x8 x9 x10 x11:L2.Slot,ρ'=[s0 (.dict kds),s0 (lsD ls),s0 (.list (kns.map knD)),s0 (.str l.1),s0 (tK l.2),some (1,.list (acc'.map knD)),s0 (knD kn),x7,x8,x9,x10,x11]) (avS (gP (b.get (t:=l.1) rfl rfl))) ⟨bI _,x7,x8,x9,x10,x11,rfl⟩ ?_ ?_
      ·rintro k r acc' _ hr ⟨ha',x7,x8,x9,x10,x11,rfl⟩
       have hkk:k<(B l.1).length:=(dD.mp hr).1
       refine⟨[s0 (.dict kds),s0 (lsD ls),s0 (.list (kns.map knD)),s0 (.str l.1),s0 (tK l.2),some (1,.list (acc'.map knD)),s0 (knD kn),s0 (bF r),x8,x9,x10,x11],rfl,?_⟩
       refine cR (n:=1) (d:=.dict (DN kn)) (bD (ds:=[.dict (DN kn)]) rfl (by show(if plK (DN kn)=true then some (PyData.dict (DN kn)) else none)=_; rw[plN]; rfl)) (by simp) ?_
       refine cR (d:=.bool true) rfl (by simp) ?_
       have hlen:r.length=l.2.length:=hw0 l (fL hx) r (fL hr)
       have lz:(l.2.zip r).length≤6:=by rw[xQ]; omega
       refine gD (fun ρ'=>∃ x10 x11:L2.Slot,ρ'=chS (s0 (.dict kds)) (s0 (lsD ls)) (s0 (.list (kns.map knD))) (s0 (.str l.1)) (s0 (tK l.2)) (some (1,.list (acc'.map knD))) (s0 (knD kn)) (s0 (bF r)) ((l.2.zip r).foldl jB (true,kn)) x10 x11) ?_ ?_
       ·refine jO (xs:=l.2.zip r) (q:=HN) (b0:=(true,kn)) jB (fun n s ρ'=>s.2.length≤kn.length+n /\ ∃ x10 x11:L2.Slot,ρ'=chS (s0 (.dict kds)) (s0 (lsD ls)) (s0 (.list (kns.map knD))) (s0 (.str l.1)) (s0 (tK l.2)) (some (1,.list (acc'.map knD))) (s0 (knD kn)) (s0 (bF r)) s x10 x11) (avS ?_) ⟨bI _,x10,x11,rfl⟩ ?_ ?_
        ·refine(QA (x:=tK l.2) (y:=bF r) rfl rfl rfl).trans ?_
         exact congrArg some (TV l.2 r)
        ·rintro n p s _ hp2 ⟨hs,x10,x11,rfl⟩
         have hn:n<(l.2.zip r).length:=(dD.mp hp2).1
         refine⟨chS (s0 (.dict kds)) (s0 (lsD ls)) (s0 (.list (kns.map knD))) (s0 (.str l.1)) (s0 (tK l.2)) (some (1,.list (acc'.map knD))) (s0 (knD kn)) (s0 (bF r)) s (s0 (kD p.1)) (s0 (.int p.2)),rfl,?_⟩
         obtain⟨o,eo,ρ2,h1,x,y,h2⟩:=Qu (a0:=s0 (.dict kds)) (a1:=s0 (lsD ls)) (a2:=s0 (.list (kns.map knD))) (a3:=s0 (.str l.1)) (a4:=s0 (tK l.2)) (a5:=some (1,.list (acc'.map knD))) (a6:=s0 (knD kn)) (a7:=s0 (bF r)) s (by omega) p
         have:=Ya s p
         exact⟨o,eo,ρ2,h1,by omega,x,y,h2⟩
        ·rintro _ ⟨_,x10,x11,rfl⟩
         exact⟨_,rfl,x10,x11,rfl⟩
       rintro _ ⟨x10,x11,rfl⟩
       refine qT ?_
       have key:(∃ kn',dF l.2 r kn=some kn'/\(l.2.zip r).foldl jB (true,kn)=(true,kn')) \/ (dF l.2 r kn=none/\((l.2.zip r).foldl jB (true,kn)).1=false):=by
        unfold dF
        rw[if_pos hlen]
        obtain⟨f1,f2⟩:=WY (l.2.zip r) kn
        cases hf:fD eP kn (l.2.zip r) with
        | none=>exact .inr ⟨rfl,f2 hf⟩
        | some kn'=>exact .inl ⟨kn',rfl,f1 kn' hf⟩
       rcases key with⟨kn',e1,e2⟩ | ⟨e1,e2⟩
       ·rw[e2]
        refine gL rfl (yR (d:=knD kn') (ds:=acc'.map knD) rfl rfl (by simp; omega) ⟨_,.inl rfl,by rw[e1]; simp; omega,s0 (bF r),s0 (knD kn'),s0 (.bool true),x10,x11,?_⟩)
        rw[e1,Option.toList_some,kN]
        rfl
       ·generalize(l.2.zip r).foldl jB (true,kn)=s at e2
        obtain⟨g,k2⟩:=s
        cases e2
        refine kS rfl (mI ⟨_,.inl rfl,by rw[e1]; simp; omega,s0 (bF r),s0 (.dict (DN k2)),s0 (.bool false),x10,x11,?_⟩)
        rw[e1,Option.toList_none,mS]
        rfl
      ·rintro _ ⟨ha',x7,x8,x9,x10,x11,rfl⟩
       refine⟨_,.inl rfl,?_,s0 (knD kn),x7,x8,x9,x10,x11,by rw[zJ]⟩
       rw[zJ] at ha'
       omega
     ·rintro _ ⟨ha,x6,x7,x8,x9,x10,x11,rfl⟩
      rw[KR]
      exact⟨_,rfl,x6,x7,x8,x9,x10,x11,rfl⟩
    rintro _ ⟨x6,x7,x8,x9,x10,x11,rfl⟩
    refine qT (tO (d:=.list ((eZ kns l.2 (B l.1)).map knD)) rfl (by simp[frz]) ⟨_,.inl rfl,⟨?_,fun kn' m=>?_⟩,s0 (.str l.1),s0 (tK l.2),s0 (.list ((eZ kns l.2 (B l.1)).map knD)),x6,x7,x8,x9,x10,x11,rfl⟩)
    ·refine dS (Af _ _ _) ?_
     rw[NP]
     exact BC hk hb
    ·obtain⟨kn,mk,m⟩:=NW.mp m
     obtain⟨r,_,e⟩:=xP.mp m
     have:=Ak e
     have:=hkn kn mk
     omega
   ·rintro _ ⟨⟨hk,_⟩,x3,x4,x5,x6,x7,x8,x9,x10,x11,rfl⟩
    have e:ls.foldl (fun kns l=>eZ kns l.2 (B l.1)) [[]]=kR B ls:=by
     unfold kR jK
     rw[OC]
    rw[e] at hk ⊢
    exact⟨_,rfl,dS hk (IM n4),x3,x4,x5,x6,x7,x8,x9,x10,x11,rfl⟩
  rintro _ ⟨hk,x3,x4,x5,x6,x7,x8,x9,x10,x11,rfl⟩
  exact dG (d:=.int (kR B ls).length) (bD (ds:=[.list ((kR B ls).map knD)]) rfl ((vE _).trans (by rw[cZ]))) ⟨_,rfl,rfl⟩
 obtain⟨d,e,rfl⟩:=this
 exact e
theorem Pr (kns:List Kn)(ks:List aI)(rows:List (List Int)):eZ kns ks (rows.filter fun r=>(dF ks r []).isSome)=eZ kns ks rows:=by
 unfold eZ
 congr 1
 funext kn
 rw[List.filterMap_filter]
 congr 1
 funext r
 by_cases h:(dF ks r []).isSome=true
 ·rw[if_pos h]
 ·rw[if_neg h]
  cases e:dF ks r kn with
  | none=>rfl
  | some kn'=>
   obtain⟨kn2,e2⟩:=A0d.mpr ⟨_,(JH e).1⟩
   rw[e2] at h
   exact absurd rfl h
theorem HK(h:k<ls.length):tR (ls.map (ftR B)) k=ftR B (ls.getD k lnD):=by
 show(ls.map (ftR B)).getD k []=_
 simp[qH,h]
theorem Oj (ls:List Ln):(kR B ls).length=sL (lsF ls) (tR (ls.map (ftR B))) ls.length:=by
 have e1:kR B ls=mB (lsF ls) (fun k=>(B (ls.getD k lnD).1).filter fun r=>(dF (lsF ls k) r []).isSome) (cF ls.length) [[]]:=by
  unfold kR jK mB
  rw[map_range (fun l=>(l,B l.1)) lnD ls,OC]
  congr 1
  funext kns k
  exact(Pr _ _ _).symm
 rw[← JP (kR B ls),e1]
 have e2:=UC (ls:=lsF ls) (R:=fun k=>(B (ls.getD k lnD).1).filter fun r=>(dF (lsF ls k) r []).isSome) (c:=fun _ _=>1) (L:=cF ls.length) xO (fun _=>[])
 rw[nF (g:=fun _=>1) fun kn _=>VM _] at e2
 rw[e2]
 unfold sL
 refine ZW fun k m=>?_
 rw[HK (qE.mp m)]
 exact(DL _).symm
theorem Uv (b:Bk kds B wd)(h6 : ∀ t,(B t).length≤6)(nd : ∀ t,(B t).Nodup)(L:Lok ls):sZ [.dict kds,lsD ls]=some (.int (kR B ls).length):=by
 have n4:=L.n4
 have hr:=JL ls
 rw[Oj]
 have hs : ∀ k,((ls.map (ftR B)).getD k []).length≤6:=fun k=>by
  by_cases h:k<ls.length
  ·rw[show(ls.map (ftR B)).getD k []=_ from HK h]
   exact dS (Nf B _) (h6 _)
  ·rw[qH,GB (by simpa using h)]
   simp
 refine Nb L.ok (by omega) (cZ _) (Mf ls) (M:=6) (by decide) (by decide) hs (fun k=>?_) (BE (FV (by decide) (show ls.length - 1≤3 by omega)) (by decide)) (Sw b h6 L) (Sq b (fun l m=>(L.ok l m).1) (by omega)) (dS (Az (m:=6) (by decide) fun p m=>by
  obtain⟨k,_,rfl⟩:=dC.mp m
  exact hs k) (IM (by unfold mD; rw[cZ]; omega)))
 by_cases h:k<ls.length
 ·rw[show(ls.map (ftR B)).getD k []=_ from HK h]
  exact(DL _).nodup_iff.mpr ((nd _).sublist List.filter_sublist)
 ·rw[qH,GB (by simpa using h)]
  exact uL
theorem Fz {a b:Int}(h:a.natAbs<2 ^ 64):kQ (.int a) (.int b)=some (.int (a*b)):=by
 show(if (a.natAbs<2 ^ 64 \/ b.natAbs<2 ^ 64) \/ mT a+mT b≤134217728 then some (aU (a*b)) else none)=_
 rw[if_pos (.inl (.inl h))]
theorem MF {a b:Int}(h:b.natAbs<2 ^ 64):kQ (.int a) (.int b)=some (.int (a*b)):=by
 show(if (a.natAbs<2 ^ 64 \/ b.natAbs<2 ^ 64) \/ mT a+mT b≤134217728 then some (aU (a*b)) else none)=_
 rw[if_pos (.inl (.inr h))]
theorem ZN {ns:List Int}{i:Int}(a:0≤i)(b:i<ns.length) : ∃ c,gIx (lI ns) (.int i)=some (.int c)/\c∈ns:=by
 obtain⟨j,rfl⟩:=rY a
 have hj:j<ns.length:=by omega
 exact⟨ns[j],RM (jX hj),qG hj⟩
theorem YN (ns:List Int):cV [lI ns]=some (.int ns.length):=by simp[cV]
theorem oD (ns:List Int){k:Int}(h0:0≤k)(h1:k≤1000) : ∃ c,gX [lI ns,.int k]=some (.int c):=by
 have : ∃ d,gX [lI ns,.int k]=some d /\ ∃ c,d = .int c:=by
  refine eR rfl ?_
  have hk:k.natAbs<2 ^ 64:=by omega
  have hkk:kQ (.int k) (.int k)=some (.int (k*k)):=Fz hk
  by_cases hl:k<(ns.length:Int)
  ·obtain⟨c,e,_⟩:=ZN h0 hl
   exact pI (gL (by simp[fnD,bA,bS,cW,kP,sIf,iJ,GZ,oA,qP,lE,frz,fC,eV,bV,aV,vS,vA,eOp,eUn,aB,eC,aO,gA,dP,aG,aM,bOf,oK,lX,bOr,asB,oI,eOr,HA,kB,EY,eIf,gNm,getL,nL,outD,iIt,itemsOf,dI,tD,jZ,eA,kA,rL,g2I,g2C,gLt,gLe,gGt,gGe,cV,fS,lG,isK,kU,sR,HC,gEq,gNe,dE,noDict,noDicts,mO,dA,cJ,gC,dB,dM,gB,hl]) (dG (d:=.int c) (aZ (a:=lI ns) (b:=.int k) rfl rfl e) ⟨_,rfl,_,rfl,c,rfl⟩))
  ·refine gK (mC (by simp[fnD,bA,bS,cW,kP,sIf,iJ,GZ,oA,qP,lE,frz,fC,eV,bV,aV,vS,vA,eOp,eUn,aB,eC,aO,gA,dP,aG,aM,bOf,oK,lX,bOr,asB,oI,eOr,HA,kB,EY,eIf,gNm,getL,nL,outD,iIt,itemsOf,dI,tD,jZ,eA,kA,rL,g2I,g2C,gLt,gLe,gGt,gGe,cV,fS,lG,isK,kU,sR,HC,gEq,gNe,dE,noDict,noDicts,mO,dA,cJ,gC,dB,dM,gB,hl])) ?_
   have e2:bV .s (bOf (eOp gEq (aO cV (aG (aB 0) aM)) (eC (.int 0)))) [s0 (lI ns),s0 (.int k)]=some (decide ((ns.length:Int)=0)):=fO (aZ (a:=.int ns.length) (b:=.int 0) (bD (ds:=[lI ns]) rfl (YN ns)) rfl (qW _ _))
   by_cases hz:(ns.length:Int)=0
   ·exact pI (gL (e2.trans (by rw[decide_eq_true hz])) (dG (d:=.int (k*k*7919+31)) (aZ (a:=.int (k*k*7919)) (b:=.int 31) (aZ (a:=.int (k*k)) (b:=.int 7919) (aZ (a:=.int k) (b:=.int k) rfl rfl hkk) rfl (MF (by decide))) rfl rfl) ⟨_,rfl,_,rfl,_,rfl⟩))
   ·refine gK (mC (e2.trans (by rw[decide_eq_false hz]))) ?_
    have hz':(0:Int)<ns.length:=by omega
    obtain⟨v,e,_⟩:=ZN (ns:=ns) (i:=k%(ns.length:Int)) (jN _ hz').1 (jN _ hz').2
    exact dG (d:=.int (v*(k+2)+k*k*69621)) (aZ (a:=.int (v*(k+2))) (b:=.int (k*k*69621)) (aZ (a:=.int v) (b:=.int (k+2)) (aZ (a:=lI ns) (b:=.int (k%(ns.length:Int))) rfl (aZ (a:=.int k) (b:=.int ns.length) rfl (bD (ds:=[lI ns]) rfl (YN ns)) (iP k ns.length (by omega))) e) (aZ (a:=.int k) (b:=.int 2) rfl rfl rfl) (MF (by omega))) (aZ (a:=.int (k*k)) (b:=.int 69621) (aZ (a:=.int k) (b:=.int k) rfl rfl hkk) rfl (MF (by decide))) rfl) ⟨_,rfl,_,rfl⟩
 obtain⟨d,e,c,rfl⟩:=this
 exact⟨c,e⟩
theorem Kz (c:Int){k:Int}(h0:0≤k)(h1:k≤1000)(hn:0<n) : ∃ v:Nat,wR [.int c,.int k,.int n]=some (.int v)/\v<n:=by
 have : ∃ d,wR [.int c,.int k,.int n]=some d /\ ∃ v:Nat,d = .int v/\v<n:=by
  refine eR rfl ?_
  have b:=jN c (show(0:Int)<((2147483629:Nat):Int) by omega)
  have hkk:k*k≤1000*1000:=Int.mul_le_mul h1 h1 h0 (by omega)
  have hkk0:0≤k*k:=Int.mul_nonneg h0 h0
  have mk:jZ (.int k) (.int k)=some (.int (k*k)):=vC (by omega)
  obtain⟨A,hA⟩ : ∃ A:Int,A=c%((2147483629:Nat):Int)+5*k+1:=⟨_,rfl⟩
  obtain⟨B,hB⟩ : ∃ B:Int,B=48271+k*k:=⟨_,rfl⟩
  generalize k*k=q at *
  have hAB:0≤A*B/\A*B≤2200000000*2000000:=⟨Int.mul_nonneg (by omega) (by omega),Int.mul_le_mul (by omega) (by omega) (by omega) (by omega)⟩
  refine cR (d:=.int (A*B)) (aZ (a:=.int A) (b:=.int B) (aZ (a:=.int (c%((2147483629:Nat):Int)+5*k)) (b:=.int 1) (aZ (a:=.int (c%((2147483629:Nat):Int))) (b:=.int (5*k)) (aZ (a:=.int c) (b:=.int (2147483629:Nat)) rfl rfl (iP c 2147483629 (by omega))) (aZ (a:=.int 5) (b:=.int k) rfl rfl (vC (by decide))) rfl) rfl (by rw[hA]; rfl)) (aZ (a:=.int 48271) (b:=.int q) rfl (aZ (a:=.int k) (b:=.int k) rfl rfl mk) (by rw[hB]; rfl)) (vC (by omega))) (by simp) ?_
  generalize A*B=N at hAB
  have bd:=jN (N*N%((2147483647:Nat):Int)) (show(0:Int)<(n:Int) by omega)
  obtain⟨v,ev⟩:=rY bd.1
  exact dG (d:=.int v) (aZ (a:=.int (N*N%((2147483647:Nat):Int))) (b:=.int n) (aZ (a:=.int (N*N)) (b:=.int (2147483647:Nat)) (aZ (a:=.int N) (b:=.int N) rfl rfl (vC (by omega))) rfl (iP _ 2147483647 (by omega))) rfl ((iP _ n hn).trans (by rw[ev]))) ⟨_,rfl,v,rfl,by omega⟩
 obtain⟨d,e,c,rfl,h⟩:=this
 exact⟨c,e,h⟩
theorem Mw {q:Nat}(hk:k<n)(hn:n≤4) : ∃ ms:List Nat,wU [.int q,.int k,.int n]=some (lN ms)/\ms.length≤4 /\ ∀ m∈ms,m<6:=by
 have : ∃ d,wU [.int q,.int k,.int n]=some d /\ ∃ ms:List Nat,d=lN ms/\ms.length≤4 /\ ∀ m∈ms,m<6:=by
  refine eR rfl ?_
  let S:aX:=[s0 (.int q),s0 (.int k),s0 (.int n)]
  have t : ∀ c:Nat,bV .s (bOf (eOp gEq (aB 0) (eC (.int c)))) S=some (decide (q=c)):=fun c=>fO (aZ (a:=.int q) (b:=.int c) rfl rfl (eqn q c))
  have e1:eOp dI (aB 1) (eC (.int 1)) (vS S)=some (.int ((k+1:Nat):Int)):=by simp[fnD,bA,bS,cW,kP,sIf,iJ,GZ,oA,qP,lE,frz,fC,eV,bV,aV,vS,vA,eOp,eUn,aB,eC,aO,gA,dP,aG,aM,bOf,oK,lX,bOr,asB,oI,eOr,HA,kB,EY,eIf,gNm,getL,nL,outD,iIt,itemsOf,dI,tD,jZ,eA,kA,rL,g2I,g2C,gLt,gLe,gGt,gGe,cV,fS,lG,isK,kU,sR,HC,gEq,gNe,dE,noDict,noDicts,mO,dA,cJ,gC,dB,dM,gB,S]
  by_cases q1:q=1
  ·refine pI (gL ((t 1).trans (by rw[decide_eq_true q1])) (dG (d:=lN [k,(k+1)%n]) (tL (bL rfl (bL (g:=aM) (aZ (a:=.int ((k+1:Nat):Int)) (b:=.int n) e1 rfl ?_) rfl))) ⟨_,rfl,_,rfl,_,rfl,by simp,?_⟩))
   ·show(if 0<(n:Int) then some (aU (((k+1:Nat):Int)%n)) else none)=_
    rw[if_pos (by omega)]
    simp
   ·have:=Nat.mod_lt (k+1) (show n > 0 by omega)
    simp
    omega
  refine gK (mC ((t 1).trans (by rw[decide_eq_false q1]))) ?_
  by_cases q2:q=2
  ·exact pI (gL ((t 2).trans (by rw[decide_eq_true q2])) (dG (d:=lN [k,k+1]) (tL (bL rfl (bL (g:=aM) e1 rfl))) ⟨_,rfl,_,rfl,_,rfl,by simp,by simp; omega⟩))
  refine gK (mC ((t 2).trans (by rw[decide_eq_false q2]))) ?_
  by_cases q3:q=3
  ·exact pI (gL ((t 3).trans (by rw[decide_eq_true q3])) (dG (d:=lN [k+1,0]) (tL (bL e1 (bL (g:=aM) rfl rfl))) ⟨_,rfl,_,rfl,_,rfl,by simp,by simp; omega⟩))
  refine gK (mC ((t 3).trans (by rw[decide_eq_false q3]))) ?_
  by_cases q4:q=4
  ·refine pI (gL ((t 4).trans (by rw[decide_eq_true q4])) ?_)
   rcases(show k=0 \/ k=1 \/ k=2 \/ k=3 by omega) with e | e | e | e <;> subst e
   ·exact dG (d:=lN [0,1]) rfl ⟨_,rfl,_,rfl,_,rfl,by simp,by simp⟩
   ·exact dG (d:=lN [1,2]) rfl ⟨_,rfl,_,rfl,_,rfl,by simp,by simp⟩
   ·exact dG (d:=lN [2,0]) rfl ⟨_,rfl,_,rfl,_,rfl,by simp,by simp⟩
   ·exact dG (d:=lN [0,5]) rfl ⟨_,rfl,_,rfl,_,rfl,by simp,by simp⟩
  refine gK (mC ((t 4).trans (by rw[decide_eq_false q4]))) ?_
  by_cases q5:q=5
  ·refine pI (gL ((t 5).trans (by rw[decide_eq_true q5])) (dG (d:=lN (cF (k+1))) (bD (ds:=[.int ((k+1:Nat):Int)]) (bL e1 rfl) ?_) ⟨_,rfl,_,rfl,_,rfl,by simp; omega,fun m mm=>by have:=qE.mp mm; omega⟩))
   show(if -4096≤((k+1:Nat):Int)/\((k+1:Nat):Int)≤4096 then some (rR (L2.upTo ((k+1:Nat):Int).toNat)) else none)=_
   rw[if_pos ⟨by omega,by omega⟩]
   rfl
  refine gK (mC ((t 5).trans (by rw[decide_eq_false q5]))) ?_
  exact dG (d:=lN []) rfl ⟨_,rfl,[],rfl,by simp,by simp⟩
 obtain⟨d,e,ms,rfl,h⟩:=this
 exact⟨ms,e,h⟩
theorem Le:Ak7 12 "cabbagefield":=⟨by decide +kernel,by decide +kernel⟩
theorem Lj : ∀ k:Fin 10,∃ z,gIx (.str "cdefghijkl") (.int (k.val:Nat))=some (.str z)/\Ak7 1 z:=fun k=>by
 have h : ∀ k:Fin 10,(match gIx (.str "cdefghijkl") (.int (k.val:Nat)) with | some (.str z)=>cQ (.str z)&&decide (z.length≤1) | _=>false)=true:=by decide +kernel
 have:=h k
 split at this
 ·rename_i z e
  have:=iH.mp this
  exact⟨z,e,this.1,of_decide_eq_true this.2⟩
 ·cases this
theorem QZ (ns:List Int)(hk:k<10) : ∃ z,oH [lI ns,.int k]=some (.str z)/\cQ (.str z)=true:=by
 obtain⟨c,e1⟩:=oD ns (k:=1) (by omega) (by omega)
 have : ∃ d,oH [lI ns,.int k]=some d /\ ∃ z,d = .str z/\cQ (.str z)=true:=by
  refine eR rfl ?_
  refine cR (d:=.int c) (bD (ds:=[lI ns,.int 1]) rfl e1) (by simp) ?_
  refine cR (d:=.str "cabbagefield") rfl (by simp) ?_
  have hw:=Le
  obtain⟨y,ey,wy⟩:=Lj ⟨k,hk⟩
  have ey:gIx (.str "cdefghijkl") (.int k)=some (.str y):=ey
  generalize("cabbagefield" : aC)=W at hw
  have e2:bV .s (bOf (eOp gEq (eOp eA (aB 2) (eC (.int 2))) (eC (.int 0)))) [s0 (lI ns),s0 (.int k),s0 (.int c),s0 (.str W),none]=some (decide (c%(2:Nat)=0)):=fO (aZ (a:=.int (c%(2:Nat))) (b:=.int 0) (aZ (a:=.int c) (b:=.int (2:Nat)) rfl rfl (iP c 2 (by omega))) rfl (qW _ _))
  by_cases h:c%(2:Nat)=0
  ·exact pI (gL (e2.trans (by rw[decide_eq_true h])) (dG (d:=.str (iX W none (some ((k:Int)+1)))) (IL hw (by decide) rfl rfl rfl) ⟨_,rfl,_,rfl,_,rfl,(hw.cut _ _).1⟩))
  ·refine gK (mC (e2.trans (by rw[decide_eq_false h]))) ?_
   refine cR (d:=.int (c / (2:Nat)%(12:Nat))) (aZ (a:=.int (c / (2:Nat))) (b:=.int (12:Nat)) (aZ (a:=.int c) (b:=.int (2:Nat)) rfl rfl (sS c 2 (by omega))) rfl (iP _ 12 (by omega))) (by simp) ?_
   generalize c / (2:Nat)%(12:Nat)=a
   have w1:=hw.cut none (some a)
   have w2:=hw.cut (some (a+1)) none
   exact dG (d:=.str (iX W none (some a)++y++iX W (some (a+1)) none)) (aZ (a:=.str (iX W none (some a)++y)) (b:=.str (iX W (some (a+1)) none)) (aZ (a:=.str (iX W none (some a))) (b:=.str y) (IL hw (by decide) rfl rfl rfl) (aZ (a:=.str "cdefghijkl") (b:=.int k) rfl rfl ey) (SD w1 wy (by decide))) (IL hw (by decide) rfl rfl rfl) (SD (w1.cat wy) w2 (by decide))) ⟨_,rfl,_,rfl,((w1.cat wy).cat w2).1⟩
 obtain⟨d,e,z,rfl,h⟩:=this
 exact⟨z,e,h⟩
def GN (ns:List Int)(N:Nat->aC):Prop:=∀ k:Nat,k<10->oH [lI ns,.int k]=some (.str (N k))/\cQ (.str (N k))=true
theorem Ji (ns:List Int) : ∃ N,GN ns N:=⟨fun(k:Nat)=>if h:k<10 then(QZ ns h).choose else "",fun k hk=>by
 dsimp only
 rw[dif_pos hk]
 exact(QZ ns hk).choose_spec⟩
def TAB:List aC:=["p","pp","ppp","q"]
def wdT (t:aC):Nat:=if t = "p" then 1 else if t = "pp" then 2 else if t = "ppp" then 3 else 4
theorem Mn (t:aC):1≤wdT t:=by
 unfold wdT
 split
 ·exact bI _
 ·split
  ·omega
  ·split <;> omega
theorem Jc {w:Nat}(h1:1≤w)(h4:w≤4) : ∃ t∈TAB,wdT t=w/\gIx (.list (TAB.map cM)) (.int ((w:Int) - 1))=some (.str t):=by
 rcases(show w=1 \/ w=2 \/ w=3 \/ w=4 by omega) with e | e | e | e <;> subst e
 ·exact⟨"p",by decide +kernel,by decide +kernel,rfl⟩
 ·exact⟨"pp",by decide +kernel,by decide +kernel,rfl⟩
 ·exact⟨"ppp",by decide +kernel,by decide +kernel,rfl⟩
 ·exact⟨"q",by decide +kernel,by decide +kernel,rfl⟩
def oO (N:Nat->aC)(k:aI):Prop:=(∃ i,k = .inl i) \/ ∃ m:Nat,m<10/\k = .inr (N m)
structure LnG (N:Nat->aC)(l:Ln):Prop where
 tab:l.1∈TAB
 wd:wdT l.1=l.2.length
 w1:1≤l.2.length
 w4:l.2.length≤4
 trm : ∀ k∈l.2,oO N k
theorem Lv(h : ∀ k∈ks,oO N k){x:aI}(hx:oO N x) : ∀ k∈ks.set i x,oO N k:=fun k m=>by
 rcases List.mem_or_eq_of_mem_set m with m | m
 ·exact h k m
 ·exact m ▸ hx
theorem Wa{jn:Nat}(h:f (vS ρ)=some d)(hg:getL i ρ=some ds)(hk:g (vA ρ)=some (.int j))(hj:ixN ds.length j=some jn)(k:P (.nx (ρ.set i (some (1,.list (ds.set jn d)))))):Goes (oA i .s f .a g) ρ P:=⟨_,by
 have e1:eV 0 .s f ρ=some d:=h
 have e2:eV 0 .a g ρ=some (.int j):=evA hk rfl
 unfold oA
 rw[e1,bE,hg,bE,e2,bE]
 show((ixN ds.length j).bind fun j=>some (Out.nx (ρ.set i (some (1,.list (ds.set j d))))))=_
 rw[hj,bE],k⟩
theorem p60 (ρ:List (Option aA)):eOp rL (eC (.int 10)) (eC (.int 60)) ρ=some (.int (10 ^ 60)):=aZ (a:=.int 10) (b:=.int (60:Nat)) rfl rfl (Js (by omega))
theorem PU (c:Int):eA (.int c) (.int (10 ^ 60))=some (.int (c%10 ^ 60)):=by
 show(if 0<(10:Int) ^ 60 then some (aU (c%10 ^ 60)) else none)=_
 rw[if_pos (by decide)]
theorem Vg (ns:List Int)(hN:GN ns N) : ∃ ls:List Ln,xB [lI ns]=some (lsD ls)/\ls.length≤4 /\ ∀ l∈ls,LnG N l:=by
 have : ∃ d,xB [lI ns]=some d /\ ∃ ls:List Ln,d=lsD ls/\ls.length≤4 /\ ∀ l∈ls,LnG N l:=by
  refine eR rfl ?_
  obtain⟨c0,ec0⟩:=oD ns (k:=0) (by omega) (by omega)
  obtain⟨c2,ec2⟩:=oD ns (k:=2) (by omega) (by omega)
  refine cR (d:=.int c0) (bD (ds:=[lI ns,.int 0]) rfl ec0) (by simp) ?_
  obtain⟨q,eq⟩:=rY (jN c0 (show(0:Int)<(6:Nat) by decide)).1
  obtain⟨n,en⟩:=rY (jN (c0 / (6:Nat)) (show(0:Int)<(5:Nat) by decide)).1
  have hn:n≤4:=by have:=(jN (c0 / (6:Nat)) (show(0:Int)<(5:Nat) by decide)).2; omega
  refine cR (d:=.int n) (aZ (a:=.int (c0 / (6:Nat))) (b:=.int (5:Nat)) (aZ (a:=.int c0) (b:=.int (6:Nat)) rfl rfl (sS c0 6 (by omega))) rfl ((iP _ 5 (by omega)).trans (by rw[en]))) (by simp) ?_
  refine cR (n:=1) (d:=.list []) rfl (by simp) ?_
  refine gD (fun ρ'=>∃ (ls:List Ln) (x4 x5 x6 x7 x8 x9 x10:L2.Slot),ls.length=n/\(∀ l∈ls,LnG N l)/\ρ'=[s0 (lI ns),s0 (.int c0),s0 (.int n),some (1,.list (ls.map bC)),x4,x5,x6,x7,x8,x9,x10]) ?_ ?_
  ·refine yP (n:=n) (fun i ρ'=>∃ (ls:List Ln) (x4 x5 x6 x7 x8 x9 x10:L2.Slot),ls.length=i/\(∀ l∈ls,LnG N l)/\ρ'=[s0 (lI ns),s0 (.int c0),s0 (.int n),some (1,.list (ls.map bC)),x4,x5,x6,x7,x8,x9,x10]) (avS (vN rfl (by omega))) ⟨[],none,none,none,none,none,none,none,rfl,by simp,rfl⟩ ?_ ?_
   ·rintro k _ hk ⟨ls,x4,x5,x6,x7,x8,x9,x10,hl,hls,rfl⟩
    refine⟨[s0 (lI ns),s0 (.int c0),s0 (.int n),some (1,.list (ls.map bC)),s0 (.int k),x5,x6,x7,x8,x9,x10],rfl,?_⟩
    obtain⟨c,ec⟩:=oD ns (k:=3+(k:Int)) (by omega) (by omega)
    refine cR (d:=.int c) (bD (ds:=[lI ns,.int (3+(k:Int))]) rfl ec) (by simp) ?_
    obtain⟨ms,ems,hm4,hm6⟩:=Mw (q:=q) hk hn
    refine cR (d:=lN ms) (bD (ds:=[.int q,.int k,.int n]) (bL (aZ (a:=.int c0) (b:=.int (6:Nat)) rfl rfl ((iP _ 6 (by omega)).trans (by rw[eq]))) (bL rfl (bL rfl rfl))) ems) (by simp) ?_
    obtain⟨w,hw,w1,w4,wm⟩ : ∃ w:Nat,uT [.int ms.length,.int (1+c%(4:Nat))]=some (.int w)/\1≤w/\w≤4/\ms.length≤w:=by
     have b4:=jN c (show(0:Int)<(4:Nat) by decide)
     obtain⟨u,eu⟩:=rY b4.1
     refine⟨max ms.length (1+u),?_,by omega,by omega,by omega⟩
     show some (aU (if (1+c%(4:Nat)) > (ms.length:Int) then(1+c%(4:Nat)) else(ms.length:Int)))=_
     congr 2
     split <;> omega
    refine cR (n:=1) (d:=.list []) rfl (by simp) ?_
    let A:List L2.Slot:=[s0 (lI ns),s0 (.int c0),s0 (.int n),some (1,.list (ls.map bC)),s0 (.int k),s0 (.int c),s0 (lN ms)]
    refine gD (fun ρ'=>∃ (ks:List aI) (x8 x9 x10:L2.Slot),ks.length=w/\(∀ t∈ks,oO N t)/\ρ'=A++[some (1,lK ks),x8,x9,x10]) ?_ ?_
    ·refine yP (n:=w) (fun i ρ'=>∃ (ks:List aI) (x8 x9 x10:L2.Slot),ks.length=i/\(∀ t∈ks,oO N t)/\ρ'=A++[some (1,lK ks),x8,x9,x10]) (avS (vN (bL (bD (ds:=[.int ms.length,.int (1+c%(4:Nat))]) (bL (bD (ds:=[lN ms]) rfl (CC ms)) (bL (aZ (a:=.int 1) (b:=.int (c%(4:Nat))) rfl (aZ (a:=.int c) (b:=.int (4:Nat)) rfl rfl (iP c 4 (by omega))) rfl) rfl)) hw) rfl) (by omega))) ⟨[],x8,x9,x10,rfl,by simp,rfl⟩ ?_ ?_
     ·rintro j _ hj ⟨ks,x8,x9,x10,hkl,hks,rfl⟩
      refine⟨A++[some (1,lK ks),s0 (.int j),x9,x10],rfl,?_⟩
      obtain⟨v,ev⟩:=oD ns (k:=7+4*(k:Int)+(j:Int)) (by omega) (by omega)
      refine cR (d:=.int v) (bD (ds:=[lI ns,.int (7+4*(k:Int)+(j:Int))]) (bL rfl (bL (aZ (a:=.int (7+4*(k:Int))) (b:=.int j) (aZ (a:=.int 7) (b:=.int (4*(k:Int))) rfl (aZ (a:=.int 4) (b:=.int k) rfl rfl (vC (by decide))) rfl) rfl rfl) rfl)) ev) (by simp[A]) ?_
      refine cR (d:=lN (ms++[6+k])) (aZ (a:=lN ms) (b:=lN [6+k]) rfl (tL (bL (g:=aM) (d:=.int ((6+k:Nat):Int)) (aZ (a:=.int 6) (b:=.int k) rfl rfl (by show some (aU (6+(k:Int)))=_; congr 2)) rfl)) (by
       show(if (ms.map fun(c:Nat)=>aU c).length+([6+k].map fun(c:Nat)=>aU c).length≤sizeLine then some (rR ((ms.map fun(c:Nat)=>aU c)++[6+k].map fun(c:Nat)=>aU c)) else none)=_
       rw[if_pos (nC (by simp; omega)),← kN])) (by simp[A]) ?_
      refine gD (fun ρ'=>∃ os:List Nat,1≤os.length/\os.length≤5/\(∀ m∈os,m<10)/\ρ'=A++[some (1,lK ks),s0 (.int j),s0 (.int v),s0 (lN os)]) ?_ ?_
      ·have t6:bV .s (bOf (eOp gEq (eOp eA (aB 1) (eC (.int 6))) (eC (.int 0)))) (A++[some (1,lK ks),s0 (.int j),s0 (.int v),s0 (lN (ms++[6+k]))])=some (decide (c0%(6:Nat)=0)):=fO (aZ (a:=.int (c0%(6:Nat))) (b:=.int 0) (aZ (a:=.int c0) (b:=.int (6:Nat)) rfl rfl (iP c0 6 (by omega))) rfl (qW _ _))
       by_cases h6:c0%(6:Nat)=0
       ·exact gL (t6.trans (by rw[decide_eq_true h6])) (tO (d:=lN [0,1,2,3]) rfl (by simp[A]) ⟨_,rfl,[0,1,2,3],by simp,by simp,by simp,rfl⟩)
       ·refine kS (t6.trans (by rw[decide_eq_false h6])) (mI ⟨_,rfl,ms++[6+k],by simp,by simp; omega,fun m mm=>?_,rfl⟩)
        rcases fY.mp mm with r | r
        ·have:=hm6 m r; omega
        ·simp at r; omega
      rintro _ ⟨os,o1,o5,ho,rfl⟩
      have fin : ∀ {t:aI} {f:EF},f (vS (A++[some (1,lK ks),s0 (.int j),s0 (.int v),s0 (lN os)]))=some (kD t)->oO N t->Goes (iJ 7 .s f) (A++[some (1,lK ks),s0 (.int j),s0 (.int v),s0 (lN os)]) fun o=>∃ ρ2,(o = .nx ρ2 \/ o = .ct ρ2) /\ ∃ (ks:List aI) (x8 x9 x10:L2.Slot),ks.length=j+1/\(∀ t∈ks,oO N t)/\ρ2=A++[some (1,lK ks),x8,x9,x10]:=fun {t f} h ht=>
       yR (d:=kD t) (ds:=ks.map kD) h rfl (by simp; omega) ⟨_,.inl rfl,ks++[t],s0 (.int j),s0 (.int v),s0 (lN os),by simp[hkl],fun y my=>by
        rcases fY.mp my with r | r
        ·exact hks y r
        ·rw[cG.mp r]; exact ht,by simp[A,lK]⟩
      have t4:bV .s (bOf (eOp gEq (eOp eA (aB 9) (eC (.int 4))) (eC (.int 0)))) (A++[some (1,lK ks),s0 (.int j),s0 (.int v),s0 (lN os)])=some (decide (v%(4:Nat)=0)):=fO (aZ (a:=.int (v%(4:Nat))) (b:=.int 0) (aZ (a:=.int v) (b:=.int (4:Nat)) rfl rfl (iP v 4 (by omega))) rfl (qW _ _))
      by_cases h4:v%(4:Nat)=0
      ·exact gL (t4.trans (by rw[decide_eq_true h4])) (fin (t:=.inl (c2%10 ^ 60+v / (4:Nat)%(2:Nat))) (aZ (a:=.int (c2%10 ^ 60)) (b:=.int (v / (4:Nat)%(2:Nat))) (aZ (a:=.int c2) (b:=.int (10 ^ 60)) (bD (ds:=[lI ns,.int 2]) rfl ec2) (p60 _) (PU c2)) (aZ (a:=.int (v / (4:Nat))) (b:=.int (2:Nat)) (aZ (a:=.int v) (b:=.int (4:Nat)) rfl rfl (sS v 4 (by omega))) rfl (iP _ 2 (by omega))) rfl) (.inl ⟨_,rfl⟩))
      refine kS (t4.trans (by rw[decide_eq_false h4])) ?_
      obtain⟨i,ei⟩:=rY (jN (v / (4:Nat)) (show(0:Int)<((os.length:Nat):Int) by omega)).1
      have hi:i<os.length:=by have:=(jN (v / (4:Nat)) (show(0:Int)<((os.length:Nat):Int) by omega)).2; omega
      obtain⟨m,mm,em⟩:=PF hi
      have hm:=ho m mm
      exact fin (t:=.inr (N m)) (bD (ds:=[lI ns,.int m]) (bL rfl (bL (aZ (a:=lN os) (b:=.int i) rfl (aZ (a:=.int (v / (4:Nat))) (b:=.int os.length) (aZ (a:=.int v) (b:=.int (4:Nat)) rfl rfl (sS v 4 (by omega))) (bD (ds:=[lN os]) rfl (CC os)) ((iP _ os.length (by omega)).trans (by rw[ei]))) em) rfl)) (hN m hm).1) (.inr ⟨m,hm,rfl⟩)
     ·rintro _ ⟨ks,x8,x9,x10,hkl,hks,rfl⟩
      exact⟨_,rfl,ks,x8,x9,x10,hkl,hks,rfl⟩
    rintro _ ⟨ks,x8,x9,x10,hkl,hks,rfl⟩
    refine gD (fun ρ'=>∃ (ks:List aI) (x8 x9 x10:L2.Slot),ks.length=w/\(∀ t∈ks,oO N t)/\ρ'=A++[some (1,lK ks),x8,x9,x10]) ?_ ?_
    ·refine yP (n:=ms.length) (fun i ρ'=>∃ (ks:List aI) (x8 x9 x10:L2.Slot),ks.length=w/\(∀ t∈ks,oO N t)/\ρ'=A++[some (1,lK ks),x8,x9,x10]) (avS (vN (bL (bD (ds:=[lN ms]) rfl (CC ms)) rfl) (by omega))) ⟨ks,x8,x9,x10,hkl,hks,rfl⟩ ?_ ?_
     ·rintro j _ hj ⟨ks,x8,x9,x10,hkl,hks,rfl⟩
      refine⟨A++[some (1,lK ks),s0 (.int j),x9,x10],rfl,?_⟩
      obtain⟨m,mm,em⟩:=PF hj
      have hm:m<10:=by have:=hm6 m mm; omega
      have hw0:(0:Int)<(w:Int):=by omega
      obtain⟨i,ei⟩:=rY (jN (c / (4:Nat)+j) hw0).1
      have hi:i<w:=by have:=(jN (c / (4:Nat)+j) hw0).2; omega
      refine Wa (d:=.str (N m)) (j:=(i:Int)) (jn:=i) (ds:=ks.map kD) (bD (ds:=[lI ns,.int m]) (bL rfl (bL (aZ (a:=lN ms) (b:=.int j) rfl rfl em) rfl)) (hN m hm).1) rfl (aZ (a:=.int (c / (4:Nat)+j)) (b:=.int w) (aZ (a:=.int (c / (4:Nat))) (b:=.int j) (aZ (a:=.int c) (b:=.int (4:Nat)) rfl rfl (sS c 4 (by omega))) rfl rfl) (bD (ds:=[lK ks]) rfl ((vE _).trans (by rw[cZ,hkl]))) ((iP _ w (by omega)).trans (by rw[ei]))) (ML (by simp; omega)) ⟨_,.inl rfl,ks.set i (.inr (N m)),s0 (.int j),x9,x10,by simpa using hkl,Lv hks (.inr ⟨m,hm,rfl⟩),?_⟩
      simp[A,lK,List.map_set,kD]
     ·rintro _ ⟨ks,x8,x9,x10,hkl,hks,rfl⟩
      exact⟨_,rfl,ks,x8,x9,x10,hkl,hks,rfl⟩
    rintro _ ⟨ks,x8,x9,x10,hkl,hks,rfl⟩
    obtain⟨t,mt,ht,et⟩:=Jc w1 w4
    refine qT (yR (d:=bC (t,ks)) (ds:=ls.map bC) (qQ (bL (aZ (a:=.list (TAB.map cM)) (b:=.int ((w:Int) - 1)) rfl (aZ (a:=.int w) (b:=.int 1) (bD (ds:=[lK ks]) rfl ((vE _).trans (by rw[cZ,hkl]))) rfl rfl) et) (bL (g:=aM) (d:=tK ks) (bD (ds:=[lK ks]) rfl rfl) rfl))) rfl (by simp; omega) ⟨_,.inl rfl,ls++[(t,ks)],s0 (.int k),s0 (.int c),s0 (lN ms),s0 (lK ks),x8,x9,x10,by simp[hl],fun x mx=>?_,by simp[A,frz]⟩)
    rcases fY.mp mx with r | r
    ·exact hls x r
    ·rw[cG.mp r]; exact⟨mt,by show wdT t=ks.length; omega,by show 1≤ks.length; omega,by show ks.length≤4; omega,hks⟩
   ·rintro _ ⟨ls,x4,x5,x6,x7,x8,x9,x10,hl,hls,rfl⟩
    exact⟨_,rfl,ls,x4,x5,x6,x7,x8,x9,x10,hl,hls,rfl⟩
  rintro _ ⟨ls,x4,x5,x6,x7,x8,x9,x10,hl,hls,rfl⟩
  exact qT (dG (d:=lsD ls) rfl ⟨_,rfl,ls,rfl,by omega,hls⟩)
 obtain⟨d,e,ls,rfl,h⟩:=this
 exact⟨ls,e,h⟩
structure BkG (L:List Tb):Prop where
 nd:(L.map (·.1)).Nodup
 tab : ∀ p∈L,p.1∈TAB
 few : ∀ p∈L,p.2.length≤6
 once : ∀ p∈L,p.2.Nodup
 row : ∀ p∈L,∀ r∈p.2,r.length=wdT p.1
section
variable {t:aC}{row:List Int}
theorem BkG.nil:BkG []:=⟨uL,fun _ m=>(by simp at m),fun _ m=>(by simp at m),fun _ m=>(by simp at m),fun _ m=>(by simp at m)⟩
theorem BkG.len (o:BkG L):L.length≤8:=by
 refine dS ?_ (show TAB.length≤8 by decide)
 have:=List.Nodup.length_le_of_subset o.nd (l₂:=TAB) fun t m=>by
  obtain⟨p,mp,rfl⟩:=dC.mp m
  exact o.tab p mp
 rw[cZ] at this
 exact this
theorem BkG.atR (o:BkG L)(t:aC):(atL L t).length≤6/\(atL L t).Nodup /\ ∀ r∈atL L t,r.length=wdT t:=by
 by_cases h:atL L t=[]
 ·rw[h]
  exact⟨by simp,uL,fun r m=>by simp at m⟩
 ·obtain⟨r,mr⟩:=List.exists_mem_of_ne_nil _ h
  obtain⟨p,mp,rfl,e⟩:=Kp mr
  rw[← e]
  exact⟨o.few p mp,o.once p mp,o.row p mp⟩
def sdL (L:List Tb)(t:aC):List Tb:=if t∈L.map (·.1) then L else L++[(t,[])]
theorem Hb (L:List Tb)(t:aC):sdK (kdL L) (.inr t)=kdL (sdL L t):=by
 unfold sdK sdL
 by_cases h:t∈L.map (·.1)
 ·rw[tW h,if_pos h]
 ·rw[zI,XA h,if_neg h]
  unfold kdL
  rw[kN]
  rfl
theorem vM (L:List Tb)(t:aC):t∈(sdL L t).map (·.1):=by
 unfold sdL
 by_cases h:t∈L.map (·.1)
 ·rw[if_pos h]; exact h
 ·rw[if_neg h]; simp
theorem PX (L:List Tb)(t t':aC):atL (sdL L t) t'=atL L t':=by
 unfold sdL
 by_cases h:t∈L.map (·.1)
 ·rw[if_pos h]
 ·rw[if_neg h]
  unfold atL
  rw[List.find?_append]
  cases e:L.find? fun p=>decide (p.1=t') with
  | some p=>rfl
  | none=>
   by_cases q:t=t'
   ·simp[q]
   ·simp[q]
theorem BkG.sd (o:BkG L)(ht:t∈TAB):BkG (sdL L t):=by
 unfold sdL
 by_cases h:t∈L.map (·.1)
 ·rw[if_pos h]; exact o
 ·rw[if_neg h]
  have key : ∀ {Q:Tb->Prop},(∀ p∈L,Q p)->Q (t,[]) -> ∀ p∈L++[(t,[])],Q p:=fun h1 h2 p m=>by
   rcases fY.mp m with m | m
   ·exact h1 p m
   ·rw[cG.mp m]; exact h2
  refine⟨?_,key o.tab ht,key o.few (by simp),key o.once uL,key o.row fun r m=>by simp at m⟩
  rw[kN]
  exact mQ.mpr ⟨o.nd,by simp,fun a ha b hb e=>h (by simp at hb; rw[← hb,← e]; exact ha)⟩
theorem BkG.upd (o:BkG L)(h1:R.length≤6)(h2:R.Nodup)(h3 : ∀ r∈R,r.length=wdT t):BkG (iY L t R):=by
 refine⟨by rw[wB]; exact o.nd,fun p m=>?_,fun p m=>?_,fun p m=>?_,fun p m=>?_⟩
 ·have:p.1∈(iY L t R).map (·.1):=dC.mpr ⟨p,m,rfl⟩
  rw[wB] at this
  obtain⟨q,mq,e⟩:=dC.mp this
  rw[← e]
  exact o.tab q mq
 ·rcases CU m with m | ⟨m1,m2⟩
  ·exact o.few p m
  ·rw[m2]; exact h1
 ·rcases CU m with m | ⟨m1,m2⟩
  ·exact o.once p m
  ·rw[m2]; exact h2
 ·rcases CU m with m | ⟨m1,m2⟩
  ·exact o.row p m
  ·rw[m1,m2]; exact h3
theorem BkG.add (o:BkG L)(hw:row.length=wdT t)(hn:row∉atL L t)(hl:(atL L t).length<6):BkG (iY L t (atL L t++[row])):=by
 obtain⟨a1,a2,a3⟩:=o.atR t
 refine o.upd (by rw[qF]; simp; omega) ?_ fun r m=>?_
 ·exact mQ.mpr ⟨a2,by simp,fun a ha b hb e=>hn (by rw[cG] at hb; rw[← hb,← e]; exact ha)⟩
 ·rcases fY.mp m with m | m
  ·exact a3 r m
  ·rw[cG.mp m]; exact hw
theorem Kw(hg:lF i ρ=some (kdL L))(hk:g (vS ρ)=some (.str t))(ht:t∈L.map (·.1))(hf:f (vS ρ)=some (bF row))(hl:(atL L t).length<100000)(k:P (.nx (ρ.set i (some (2,.dict (kdL (iY L t (atL L t++[row])))))))):Goes (vD i .s g .s f) ρ P:=⟨_,by
 have e1:eV 0 .s g ρ=some (.str t):=hk
 have e2:eV 0 .s f ρ=some (bF row):=hf
 unfold vD
 rw[hg,bE,e1,bE,show bP (.str t)=some (.inr t) from rfl,bE,tW ht,bE]
 show((eV 0 .s f ρ).bind fun d=>if dB d=true/\((atL L t).map bF).length<sizeLine then some (Out.nx (ρ.set i (some (2,.dict (iI (kdL L) (.inr t) (.list ((atL L t).map bF++[d]))))))) else none)=_
 rw[e2,bE,if_pos ⟨Wi row,tT (by rw[cZ]; exact qC hl)⟩]
 have:(atL L t).map bF++[bF row]=(atL L t++[row]).map bF:=by rw[kN]; rfl
 rw[this]
 show some (Out.nx (ρ.set i (some (2,.dict (iI (kdL L) (.inr t) (bX (atL L t++[row])))))))=_
 rw[DC],k⟩
theorem any_rows (r:List Int)(R:List (List Int)):((R.map bF).any fun z=>cJ z (bF r))=decide (r∈R):=by
 rw[List.any_map]
 by_cases h:r∈R
 ·rw[decide_eq_true h]
  exact GF.mpr ⟨r,h,by simp[IU]⟩
 ·rw[decide_eq_false h,List.any_eq_false]
  intro x mx
  simp only[Function.comp,IU,decide_eq_true_eq]
  exact fun e=>h (e ▸ mx)
theorem Te{f0:EF}{m2:Md}{t2:BF}{F:SF}(hL:L.length≤8)(hg:lF i ρ=some (kdL L))(h0:f0 (vS ρ)=some (bF row))(hk:g (vS ρ)=some (.str t))
  (h1:row∈atL L t->P (.nx (ρ.set i (some (2,.dict (kdL (sdL L t))))))) (h2:row∉atL L t -> ∃ b,bV m2 t2 (ρ.set i (some (2,.dict (kdL (sdL L t)))))=some b/\(b=true->Goes F (ρ.set i (some (2,.dict (kdL (sdL L t))))) P)/\(b=false->P (.nx (ρ.set i (some (2,.dict (kdL (sdL L t)))))))) :
  Goes (tH i .s f0 .s g m2 t2 F) ρ P:=by
 have e0:eV 0 .s f0 ρ=some (bF row):=h0
 have e1:eV 0 .s g ρ=some (.str t):=hk
 have lk:bW (kdL (sdL L t)) (.inr t)=some (bX (atL L t)):=by rw[tW (vM L t),PX]
 have e:tH i .s f0 .s g m2 t2 F ρ=if row∈atL L t then some (.nx (ρ.set i (some (2,.dict (kdL (sdL L t)))))) else(bV m2 t2 (ρ.set i (some (2,.dict (kdL (sdL L t)))))).bind fun b=>if b=true then F (ρ.set i (some (2,.dict (kdL (sdL L t))))) else some (.nx (ρ.set i (some (2,.dict (kdL (sdL L t)))))):=by
  unfold tH
  rw[e0,bE,hg,bE,e1,bE,show bP (.str t)=some (.inr t) from rfl,bE,Hb,lk]
  show(if (kdL L).length<sizeLine/\(dE (bF row)&&noDicts ((atL L t).map bF))=true then _ else none)=_
  rw[if_pos ⟨tT (by unfold kdL; rw[cZ]; omega),by rw[TN,XS]; rfl⟩,any_rows]
  by_cases h:row∈atL L t
  ·rw[if_pos (decide_eq_true h),if_pos h]
  ·rw[if_neg (by rw[decide_eq_false h]; exact jG),if_neg h]
 by_cases h:row∈atL L t
 ·rw[if_pos h] at e
  exact⟨_,e,h1 h⟩
 ·rw[if_neg h] at e
  obtain⟨b,eb,k1,k2⟩:=h2 h
  rw[eb,bE] at e
  cases b with
  | true=>
   rw[if_pos rfl] at e
   obtain⟨o,eo,po⟩:=k1 rfl
   exact⟨o,e.trans eo,po⟩
  | false=>
   rw[if_neg jG] at e
   exact⟨_,e,k2 rfl⟩
theorem Hv {ρ:List (Option aA)}{fd fk:EF}(hd:fd ρ=some (.dict (kdL L)))(hk:fk ρ=some (.str t))(ht:t∈L.map (·.1)):bOf (eOp gLt (aO cV (aG (eOp gIx fd fk) aM)) (eC (.int 6))) ρ=some (decide ((atL L t).length<6)):=by
 refine fO (aZ (a:=.int (atL L t).length) (b:=.int 6) (bD (ds:=[bX (atL L t)]) (bL (aZ (a:=.dict (kdL L)) (b:=.str t) hd hk (tW ht)) rfl) ((vE _).trans (by rw[cZ]))) rfl ?_)
 show some (lA (decide (((atL L t).length:Int)<6)))=_
 congr 2
 rw[decide_eq_decide]
 omega
end
abbrev bkS (ns:List Int)(ls:List Ln)(b:Int)(V:L2.Slot)(L:List Tb)(x4 x6 x7 x8 x9 x10:L2.Slot):aX:=[s0 (lI ns),s0 (lsD ls),s0 (.int b),V,x4,some (2,.dict (kdL L)),x6,x7,x8,x9,x10]
abbrev gF (L:List Tb)(t:aC):Prop:=t∈L.map (·.1)
section
variable {ns:List Int}{b:Int}{V:L2.Slot}
theorem ZX(o:BkG L){t:aC}(ht:t∈TAB){row:List Int}(hw:row.length=wdT t)(x4 x7 x9 x10:L2.Slot) :
  Goes (tH 5 .s (aB 8) .s (aB 6) .a (bOf (eOp gLt (aO cV (aG (eOp gIx (aB 5) (aB 6)) aM)) (eC (.int 6)))) (vD 5 .s (aB 6) .s (aB 8))) (bkS ns ls b V L x4 (s0 (.str t)) x7 (s0 (bF row)) x9 x10)
   fun o=>∃ L',BkG L'/\(∀ z,gF L z->gF L' z)/\gF L' t/\o = .nx (bkS ns ls b V L' x4 (s0 (.str t)) x7 (s0 (bF row)) x9 x10):=by
 have hlen:=o.len
 have o2:=o.sd ht
 have sub : ∀ z,gF L z->gF (sdL L t) z:=fun z m=>by
  unfold gF sdL
  split
  ·exact m
  ·rw[kN]
   exact BJ _ m
 refine Te (L:=L) (t:=t) (row:=row) hlen rfl rfl rfl (fun h=>⟨sdL L t,o2,sub,vM L t,rfl⟩) fun h=>?_
 refine⟨decide ((atL (sdL L t) t).length<6),Hv rfl rfl (vM L t),fun hb=>?_,fun hb=>⟨sdL L t,o2,sub,vM L t,rfl⟩⟩
 have hb:=of_decide_eq_true hb
 refine Kw (L:=sdL L t) (t:=t) (row:=row) rfl rfl (vM L t) rfl (by omega) ⟨iY (sdL L t) t (atL (sdL L t) t++[row]),o2.add hw (by rw[PX]; exact h) hb,fun z m=>?_,?_,rfl⟩
 ·unfold gF
  rw[wB]
  exact sub z m
 ·unfold gF
  rw[wB]
  exact vM L t
def VlG (N:Nat->aC)(kn:Kn):Prop:=∀ m:Nat,m<10 -> ∃ u,cH kn (N m)=some u
theorem VlG.tel {kn:Kn}(h:VlG N kn)(g:LnG N l):sC kn (eT kn) l.2:=fun z mz=>by
 rcases g.trm _ mz with⟨i,e⟩ | ⟨m,hm,e⟩
 ·cases e
 ·cases e
  obtain⟨u,eu⟩:=h m hm
  unfold eT
  rw[eu]
  rfl
theorem Hu : ∀ a:Nat,a<4->gIx (.list [.int 1,.int 2,.int 4,.int 8]) (.int a)=some (.int ((2 ^ a:Nat):Int)):=fun a h=>by
 rcases(show a=0 \/ a=1 \/ a=2 \/ a=3 by omega) with e | e | e | e <;> subst e <;> rfl
theorem Kt(nd:(L.map (·.1)).Nodup):(vH (kdL L)).Nodup:=by
 unfold vH kdL
 rw[fM,show((fun kd=>bP kd.1)∘fun(p:Tb)=>(cM p.1,bX p.2))=(fun s:aC=>some (fW s:aI))∘(·.1) from rfl,← fM]
 exact NU.mpr (nd.imp fun h e=>h (by injection e with e; injection e))
theorem Jp(o:BkG L)(x4 x6 x7 x8 x9 x10:L2.Slot):Goes (sOr (tP 5 .s (dP aM) .s (eC (.str "pp"))) (yM 5 .s (dP aM) .s (eC (.str "pp")))) (bkS ns ls b V L x4 x6 x7 x8 x9 x10)
  fun o=>∃ L',BkG L'/\(∀ z,gF L z->gF L' z)/\o = .nx (bkS ns ls b V L' x4 x6 x7 x8 x9 x10):=by
 have hlen:=o.len
 have big:=nC (n:=100000) (by omega)
 have e1:eV 1 .s (dP aM) (bkS ns ls b V L x4 x6 x7 x8 x9 x10)=some (bX []):=rfl
 have e2:lF 5 (bkS ns ls b V L x4 x6 x7 x8 x9 x10)=some (kdL L):=rfl
 have e3:eV 0 .s (eC (.str "pp")) (bkS ns ls b V L x4 x6 x7 x8 x9 x10)=some (.str "pp"):=rfl
 have lk:(kdL L).length<sizeLine:=by simp only[kdL,cZ]; omega
 by_cases h:gF L "pp"
 ·have er:tP 5 .s (dP aM) .s (eC (.str "pp")) (bkS ns ls b V L x4 x6 x7 x8 x9 x10)=some (.nx ((bkS ns ls b V L x4 x6 x7 x8 x9 x10).set 5 (some (2,.dict (kdL (iY L "pp" [])))))):=by
   unfold tP
   rw[e1,bE,e2,bE,e3,bE,show bP (.str "pp")=some (.inr "pp") from rfl,bE,if_pos ⟨⟨by rw[tW h]; rfl,Kt o.nd⟩,lk⟩,DC]
  refine⟨_,by unfold sOr; rw[er]; rfl,iY L "pp" [],o.upd (by simp) uL (fun r m=>by simp at m),fun z m=>?_,rfl⟩
  unfold gF
  rw[wB]
  exact m
 ·have hn:bW (kdL L) (.inr "pp")=none:=by rw[zI,XA h]; rfl
  have er:tP 5 .s (dP aM) .s (eC (.str "pp")) (bkS ns ls b V L x4 x6 x7 x8 x9 x10)=none:=by
   unfold tP
   rw[e1,bE,e2,bE,e3,bE,show bP (.str "pp")=some (.inr "pp") from rfl,bE,if_neg]
   rintro⟨⟨z,_⟩,_⟩
   rw[hn] at z
   cases z
  have es:yM 5 .s (dP aM) .s (eC (.str "pp")) (bkS ns ls b V L x4 x6 x7 x8 x9 x10)=some (.nx ((bkS ns ls b V L x4 x6 x7 x8 x9 x10).set 5 (some (2,.dict (kdL (L++[(("pp" : aC),([]:List (List Int)))])))))):=by
   unfold yM
   rw[e1,bE,e2,bE,e3,bE,show bP (.str "pp")=some (.inr "pp") from rfl,bE,if_pos ⟨hn,lk⟩]
   congr 5
   unfold kdL
   rw[kN]
   rfl
  have o2:=o.sd (t:="pp") (by decide +kernel)
  have eq:sdL L "pp" = L++[(("pp" : aC),([]:List (List Int)))]:=if_neg h
  rw[eq] at o2
  refine⟨_,by unfold sOr; rw[er,es]; rfl,L++[(("pp" : aC),([]:List (List Int)))],o2,fun z m=>?_,rfl⟩
  unfold gF
  rw[kN]
  exact BJ _ m
theorem Jz (hN:GN ns N)(hls : ∀ l∈ls,LnG N l)(hn:ls.length≤4) : ∃ L:List Tb,wW [lI ns,lsD ls]=some (.dict (kdL L))/\BkG L /\ ∀ l∈ls,gF L l.1:=by
 have : ∃ d,wW [lI ns,lsD ls]=some d /\ ∃ L:List Tb,d = .dict (kdL L)/\BkG L /\ ∀ l∈ls,gF L l.1:=by
  refine eR rfl ?_
  obtain⟨c2,ec2⟩:=oD ns (k:=2) (by omega) (by omega)
  obtain⟨c23,ec23⟩:=oD ns (k:=23) (by omega) (by omega)
  obtain⟨c24,ec24⟩:=oD ns (k:=24) (by omega) (by omega)
  refine cR (d:=.int (c2%10 ^ 60)) (aZ (a:=.int c2) (b:=.int (10 ^ 60)) (bD (ds:=[lI ns,.int 2]) rfl ec2) (p60 _) (PU c2)) (by simp) ?_
  generalize c2%10 ^ 60=b
  refine cR (n:=1) (d:=.dict []) rfl (by simp) ?_
  refine gD (fun ρ'=>∃ (kn:Kn) (x4:L2.Slot),VlG N kn/\ρ'=[s0 (lI ns),s0 (lsD ls),s0 (.int b),some (1,.dict (DN kn)),x4,none,none,none,none,none,none]) ?_ ?_
  ·refine yP (n:=10) (fun i ρ'=>∃ (kn:Kn) (x4:L2.Slot),(kn.length≤i /\ ∀ m:Nat,m<i -> ∃ u,cH kn (N m)=some u)/\ρ'=[s0 (lI ns),s0 (lsD ls),s0 (.int b),some (1,.dict (DN kn)),x4,none,none,none,none,none,none]) (avS (vN (n:=10) rfl (by omega))) ⟨[],none,⟨bI _,fun m hm=>(by omega)⟩,rfl⟩ ?_ ?_
   ·rintro i _ hi ⟨kn,x4,⟨h1,h2⟩,rfl⟩
    refine⟨[s0 (lI ns),s0 (lsD ls),s0 (.int b),some (1,.dict (DN kn)),s0 (.int i),none,none,none,none,none,none],rfl,?_⟩
    obtain⟨j,ej,hj⟩:=Kz c23 (k:=(i:Int)) (by omega) (by omega) (n:=2) (by omega)
    refine RL (d:=.int (b+j)) (kd:=.str (N i)) (key:=.inr (N i)) (kds:=DN kn) (aZ (a:=.int b) (b:=.int j) rfl (bD (ds:=[.int c23,.int i,.int (2:Nat)]) (bL (bD (ds:=[lI ns,.int 23]) rfl ec23) rfl) ej) rfl) rfl (bD (ds:=[lI ns,.int i]) rfl (hN i hi).1) rfl (by simp[DN]; omega) ⟨_,.inl rfl,putN kn (N i) (b+j),s0 (.int i),⟨?_,fun m hm=>?_⟩,?_⟩
    ·unfold putN
     split
     ·rw[cZ]; omega
     ·rw[qF]; simp; omega
    ·rw[On]
     by_cases q:N m=N i
     ·rw[if_pos q]; exact⟨_,rfl⟩
     ·rw[if_neg q]
      have:m≠i:=fun e=>q (by rw[e])
      exact h2 m (by omega)
    ·rw[Jq]
     rfl
   ·rintro _ ⟨kn,x4,⟨_,h2⟩,rfl⟩
    exact⟨_,rfl,kn,x4,h2,rfl⟩
  rintro _ ⟨kn,x4,hkn,rfl⟩
  refine qT ?_
  refine cR (n:=2) (d:=.dict (kdL [])) rfl (by simp[frz]) ?_
  refine gD (fun ρ'=>∃ (L:List Tb) (x4 x6 x7 x8 x9 x10:L2.Slot),BkG L/\(∀ l∈ls,gF L l.1)/\ρ'=bkS ns ls b (s0 (knD kn)) L x4 x6 x7 x8 x9 x10) ?_ ?_
  ·refine jO (xs:=ls) (q:=bC) (b0:=()) (fun _ _=>()) (fun i _ ρ'=>∃ (L:List Tb) (x6 x7 x8:L2.Slot),BkG L/\(∀ l∈ls.take i,gF L l.1)/\ρ'=bkS ns ls b (s0 (knD kn)) L x4 x6 x7 x8 none none) (avS (tQ rfl)) ⟨[],none,none,none,BkG.nil,by simp,rfl⟩ ?_ ?_
   ·rintro i l _ _ hx ⟨L,x6,x7,x8,o,hne,rfl⟩
    have ml:=fL hx
    have g:=hls l ml
    have w4:=g.w4
    refine⟨bkS ns ls b (s0 (knD kn)) L x4 (s0 (.str l.1)) (s0 (tK l.2)) x8 none none,rfl,?_⟩
    have tl:=hkn.tel g
    have e:=jP (cap:=[none,some 3]) (fi:=iIt (aB 7)) (T:=gB 0) (t:=dM) (f:=kB (aB 1) (aB 0) (aB 0)) (ρ:=vS (bkS ns ls b (s0 (knD kn)) L x4 (s0 (.str l.1)) (s0 (tK l.2)) x8 none none)) (xs:=l.2) (q:=kD) (fun _=>true) (fun k=>aU (tv (eT kn) k)) (tQ rfl) (by omega) fun k mk=>⟨[some (kD k),some (knD kn)],rfl,rfl,fun _=>RF tl mk⟩
    rw[nV.mpr fun _ _=>rfl] at e
    refine cR (d:=bF (l.2.map (tv (eT kn)))) (bD (bL e rfl) ?_) (by simp) ?_
    ·show some (dZ _)=some (dZ ((l.2.map (tv (eT kn))).map aU))
     rw[fM]
     rfl
    have rl:(l.2.map (tv (eT kn))).length=wdT l.1:=by rw[cZ,g.wd]
    generalize l.2.map (tv (eT kn))=row at rl
    have tk:ls.take (i+1)=ls.take i++[l]:=by rw[FW,hx]; rfl
    obtain⟨o',eo,L',oL,sub,ht,rfl⟩:=ZX (ns:=ns) (ls:=ls) (b:=b) (V:=s0 (knD kn)) o g.tab rl x4 (s0 (tK l.2)) none none
    refine⟨_,eo,_,.inl rfl,L',_,_,_,oL,fun l' m'=>?_,rfl⟩
    rw[tk] at m'
    rcases fY.mp m' with m' | m'
    ·exact sub _ (hne l' m')
    ·rw[cG.mp m']
     exact ht
   ·rintro _ ⟨L,x6,x7,x8,o,hne,rfl⟩
    rw[NT] at hne
    exact⟨_,rfl,L,x4,x6,x7,x8,none,none,o,hne,rfl⟩
  rintro _ ⟨L,x4,x6,x7,x8,x9,x10,o,hne,rfl⟩
  refine gD (fun ρ'=>∃ (L:List Tb) (x4 x6 x7 x8 x9 x10:L2.Slot),BkG L/\(∀ l∈ls,gF L l.1)/\ρ'=bkS ns ls b (s0 (knD kn)) L x4 x6 x7 x8 x9 x10) ?_ ?_
  ·refine jO (xs:=[(("p" : aC),(1:Nat)),("pp",2),("ppp",3),("q",4)]) (q:=fun p=>dZ [.str p.1,.int p.2]) (b0:=()) (fun _ _=>()) (fun i _ ρ'=>∃ (L:List Tb) (x4 x6 x8 x9 x10:L2.Slot),BkG L/\(∀ l∈ls,gF L l.1)/\ρ'=bkS ns ls b (s0 (knD kn)) L x4 x6 x7 x8 x9 x10) (avS (gP (tL (bL (qQ rfl) (bL (qQ rfl) (bL (qQ rfl) (bL (g:=aM) (qQ rfl) rfl))))))) ⟨L,x4,x6,x8,x9,x10,o,hne,rfl⟩ ?_ ?_
   ·rintro i p _ _ hx ⟨L,x4,x6,x8,x9,x10,o,hne,rfl⟩
    have hp:p.1∈TAB/\wdT p.1=p.2/\1≤p.2/\p.2≤4:=(by decide +kernel : ∀ p∈[(("p" : aC),(1:Nat)),("pp",2),("ppp",3),("q",4)],p.1∈TAB/\wdT p.1=p.2/\1≤p.2/\p.2≤4) p (fL hx)
    obtain⟨t,w⟩:=p
    obtain⟨ht,hw,w1,w4⟩:t∈TAB/\wdT t=w/\1≤w/\w≤4:=hp
    refine⟨bkS ns ls b (s0 (knD kn)) L x4 (s0 (.str t)) x7 x8 (s0 (.int w)) x10,rfl,?_⟩
    obtain⟨n,en⟩:=rY (jN (c24 / (w:Nat)) (show(0:Int)<(9:Nat) by decide)).1
    have hn9:n≤8:=by have:=(jN (c24 / (w:Nat)) (show(0:Int)<(9:Nat) by decide)).2; omega
    refine yP (n:=n) (fun i ρ'=>∃ (L:List Tb) (x4 x8 x10:L2.Slot),BkG L/\(∀ l∈ls,gF L l.1)/\ρ'=bkS ns ls b (s0 (knD kn)) L x4 (s0 (.str t)) x7 x8 (s0 (.int w)) x10) (avS (vN (n:=n) (bL (aZ (a:=.int (c24 / (w:Nat))) (b:=.int (9:Nat)) (aZ (a:=.int c24) (b:=.int (w:Nat)) (bD (ds:=[lI ns,.int 24]) rfl ec24) rfl (sS c24 w (by omega))) rfl ((iP _ 9 (by omega)).trans (by rw[en]))) rfl) (by omega))) ⟨L,x4,x8,x10,o,hne,rfl⟩ ?_ ?_
    ·rintro k _ hk ⟨L,x4,x8,x10,o,hne,rfl⟩
     refine⟨bkS ns ls b (s0 (knD kn)) L (s0 (.int k)) (s0 (.str t)) x7 x8 (s0 (.int w)) x10,rfl,?_⟩
     obtain⟨c,ec⟩:=oD ns (k:=25+8*((w:Int) - 1)+(k:Int)) (by omega) (by omega)
     refine cR (d:=.int c) (bD (ds:=[lI ns,.int (25+8*((w:Int) - 1)+(k:Int))]) (bL rfl (bL (aZ (a:=.int (25+8*((w:Int) - 1))) (b:=.int k) (aZ (a:=.int 25) (b:=.int (8*((w:Int) - 1))) rfl (aZ (a:=.int 8) (b:=.int ((w:Int) - 1)) rfl (aZ (a:=.int w) (b:=.int 1) rfl rfl rfl) (vC (by decide))) rfl) rfl rfl) rfl)) ec) (by simp) ?_
     have elc:=jP (cap:=[none,some 2,some 10]) (fi:=iR1 (aG (aB 9) aM)) (T:=gB 0) (t:=dM) (f:=eOp dI (aB 1) (eOp eA (eOp kA (aB 2) (eOp gIx (dP (aG (eC (.int 1)) (aG (eC (.int 2)) (aG (eC (.int 4)) (aG (eC (.int 8)) aM))))) (aB 0))) (eC (.int 2))))
      (ρ:=vS (bkS ns ls b (s0 (knD kn)) L (s0 (.int k)) (s0 (.str t)) x7 x8 (s0 (.int w)) (s0 (.int c)))) (xs:=cF w) (q:=fun(a:Nat)=>aU a) (fun _=>true) (fun(a:Nat)=>aU (b+c / ((2 ^ a:Nat):Int)%(2:Nat))) (vN (n:=w) rfl (by omega)) (by simp; omega) fun a ma=>⟨[some (.int a),some (.int b),some (.int c)],rfl,rfl,fun _=>by
       have:=qE.mp ma
       exact aZ (a:=.int b) (b:=.int (c / ((2 ^ a:Nat):Int)%(2:Nat))) rfl (aZ (a:=.int (c / ((2 ^ a:Nat):Int))) (b:=.int (2:Nat)) (aZ (a:=.int c) (b:=.int ((2 ^ a:Nat):Int)) rfl (aZ (a:=.list [.int 1,.int 2,.int 4,.int 8]) (b:=.int a) rfl rfl (Hu a (by omega))) (sS c (2 ^ a) (Nat.two_pow_pos a) (by have:2 ^ a≤2 ^ 3:=FV (by decide) (by omega); omega))) rfl (iP _ 2 (by omega))) rfl⟩
     rw[nV.mpr fun _ _=>rfl] at elc
     have eq:(cF w).map (fun(a:Nat)=>aU (b+c / ((2 ^ a:Nat):Int)%(2:Nat)))=((cF w).map fun(a:Nat)=>b+c / ((2 ^ a:Nat):Int)%(2:Nat)).map aU:=by rw[fM]; rfl
     rw[eq] at elc
     have rl:((cF w).map fun(a:Nat)=>b+c / ((2 ^ a:Nat):Int)%(2:Nat)).length=wdT t:=by rw[cZ,NX,hw]
     generalize((cF w).map fun(a:Nat)=>b+c / ((2 ^ a:Nat):Int)%(2:Nat))=row at elc rl
     refine cR (d:=bF row) (bD (bL elc rfl) rfl) (by simp) ?_
     obtain⟨o',eo,L',oL,sub,ht',rfl⟩:=ZX (ns:=ns) (ls:=ls) (b:=b) (V:=s0 (knD kn)) o ht rl (s0 (.int k)) x7 (s0 (.int w)) (s0 (.int c))
     exact⟨_,eo,_,.inl rfl,L',_,_,_,oL,fun l' m'=>sub _ (hne l' m'),rfl⟩
    ·rintro _ ⟨L,x4,x8,x10,o,hne,rfl⟩
     exact⟨_,.inl rfl,L,x4,_,x8,_,x10,o,hne,rfl⟩
   ·rintro _ ⟨L,x4,x6,x8,x9,x10,o,hne,rfl⟩
    exact⟨_,rfl,L,x4,x6,x7,x8,x9,x10,o,hne,rfl⟩
  rintro _ ⟨L,x4,x6,x7,x8,x9,x10,o,hne,rfl⟩
  refine gD (fun ρ'=>∃ (L:List Tb),BkG L/\(∀ l∈ls,gF L l.1)/\ρ'=bkS ns ls b (s0 (knD kn)) L x4 x6 x7 x8 x9 x10) ?_ ?_
  ·have tb:bV .s (bOf (eOp gEq (eOp eA (aO gX (aG (aB 0) (aG (eC (.int 24)) aM))) (eC (.int 11))) (eC (.int 0)))) (bkS ns ls b (s0 (knD kn)) L x4 x6 x7 x8 x9 x10)=some (decide (c24%(11:Nat)=0)):=fO (aZ (a:=.int (c24%(11:Nat))) (b:=.int 0) (aZ (a:=.int c24) (b:=.int (11:Nat)) (bD (ds:=[lI ns,.int 24]) rfl ec24) rfl (iP _ 11 (by omega))) rfl (qW _ _))
   by_cases h:c24%(11:Nat)=0
   ·refine gL (tb.trans (by rw[decide_eq_true h])) ?_
    obtain⟨o',eo,L',oL,sub,rfl⟩:=Jp (ns:=ns) (ls:=ls) (b:=b) (V:=s0 (knD kn)) o x4 x6 x7 x8 x9 x10
    exact⟨_,eo,_,rfl,L',oL,fun l m=>sub _ (hne l m),rfl⟩
   ·exact kS (tb.trans (by rw[decide_eq_false h])) (mI ⟨_,rfl,L,o,hne,rfl⟩)
  rintro _ ⟨L,o,hne,rfl⟩
  exact JC rfl ⟨_,rfl,L,rfl,o,hne⟩
 obtain⟨d,e,L,rfl,h⟩:=this
 exact⟨L,e,h⟩
end
theorem Kq {A:List Tb}{t:aC}(h:t∉A.map (·.1))(R:List (List Int)):putD (kdL A) (.inr t) (bX R)=kdL (A++[(t,R)]):=by
 unfold putD
 have hn : ¬ ((kdL A).any fun kd=>decide (bP kd.1=some (.inr t)))=true:=fun q=>by
  obtain⟨kd,m,e⟩:=GF.mp q
  obtain⟨p,mp,rfl⟩:=dC.mp m
  have e:=of_decide_eq_true e
  have e:some (fW p.1:aI)=some (fW t):=e
  injection e with e
  injection e with e
  exact h (dC.mpr ⟨p,mp,e⟩)
 rw[if_neg hn]
 unfold kdL
 rw[kN]
 rfl
theorem VT : ∀ (M A:List Tb),((A++M).map (·.1)).Nodup->tM (M.map fun p=>(fW p.1,bX p.2)) (kdL A)=kdL (A++M)
 | [],A,_=>by simp[tM]
 | p::M,A,h=>by
  show tM (M.map fun p=>(fW p.1,bX p.2)) (putD (kdL A) (.inr p.1) (bX p.2))=_
  have hn:p.1∉A.map (·.1):=fun m=>by
   rw[kN] at h
   exact(mQ.mp h).2.2 p.1 m p.1 (by simp) rfl
  rw[Kq hn,VT M (A++[(p.1,p.2)]) (by simpa using h)]
  simp
theorem RT : ∀ L:List Tb,sN (L.map fun p=>dZ [.str p.1,bX p.2])=some (L.map fun p=>(fW p.1,bX p.2))
 | []=>rfl
 | p::L=>by
  show((sN (L.map fun p=>dZ [.str p.1,bX p.2])).bind fun r=>some ((fW p.1,bX p.2)::r))=_
  rw[RT L]
  rfl
theorem Vr(nd:(L.map (·.1)).Nodup):CH [.list (L.map fun p=>dZ [.str p.1,bX p.2])]=some (.dict (kdL L)):=by
 show((sN (L.map fun p=>dZ [.str p.1,bX p.2])).bind fun ps=>some (PyData.dict (tM ps [])))=_
 rw[RT,bE,show([]:List (aA×aA))=kdL [] from rfl,VT L [] (by simpa using nd)]
 rfl
theorem Nv(ly : ∀ p∈L,cQ (.str p.1)=true){ρ:List (Option aA)}(h:f ρ=some (.dict (kdL L))):iDI f ρ=some (L.map fun p=>dZ [.str p.1,bX p.2]):=by
 unfold iDI
 rw[h]
 show(if (plK (kdL L)&&(kdL L).all fun kd=>cQ kd.1)=true then some ((kdL L).map fun kd=>dZ [kd.1,kd.2]) else none)=_
 rw[ZA,xW,if_pos (fH.mpr fun kd m=>by
  obtain⟨p,mp,rfl⟩:=dC.mp m
  exact ly p mp)]
 unfold kdL
 rw[fM]
 rfl
structure GdB (L:List Tb):Prop where
 bk:Bk (kdL L) (atL L) wdT
 six : ∀ t,(atL L t).length≤6
 once : ∀ t,(atL L t).Nodup
theorem Em(h6 : ∀ t,(atL L t).length≤6)(nd : ∀ t,(atL L t).Nodup)(w : ∀ t,∀ r∈atL L t,r.length=wdT t):GdB L:=⟨⟨ZA L,Ip L,fun t=>by have:=h6 t; omega,Mn,w⟩,h6,nd⟩
theorem Lh {t:aC}(h:t∈TAB):cQ (.str t)=true:=(by decide +kernel : ∀ t∈TAB,cQ (.str t)=true) t h
theorem Gi(nd:(L.map (·.1)).Nodup):uP false (.dict (kdL L)) (.dict (kdL L))=some (.bool true):=
 (Gc nd).eqK (fun d ⟨T,e⟩=>by rw[e]; exact Od T) (fun d ⟨T,e⟩=>by rw[e]; exact Lu T) false
theorem Fe(o:BkG L):GdB L:=Em (fun t=>(o.atR t).1) (fun t=>(o.atR t).2.1) fun t r m=>(o.atR t).2.2 r m
theorem JZ(o:BkG L)(K:Lok ls)(hls : ∀ l∈ls,LnG N l):pM [.dict (kdL L),lsD ls]=some (.bool true):=by
 have G:=Fe o
 have hlen:=o.len
 have hw0 : ∀ l∈ls,∀ r∈atL L l.1,r.length=l.2.length:=fun l m r mr=>((o.atR l.1).2.2 r mr).trans (hls l m).wd
 have : ∃ d,pM [.dict (kdL L),lsD ls]=some d/\d = .bool true:=by
  refine eR rfl ?_
  have e:=jP (cap:=[none,none]) (fi:=iDI (aB 0)) (T:=gB2 0 1) (t:=dM) (f:=gA (aG (aB 0) (aG (aO sR (aG (aB 1) aM)) aM))) (ρ:=vS [s0 (.dict (kdL L)),s0 (lsD ls),none,none]) (xs:=L) (q:=fun p=>dZ [.str p.1,bX p.2]) (fun _=>true) (fun p=>dZ [.str p.1,bX p.2]) (Nv (fun p m=>Lh (o.tab p m)) rfl) (by omega) fun p mp=>⟨[some (.str p.1),some (bX p.2)],rfl,rfl,fun _=>qQ (bL rfl (bL (g:=aM) (bD (ds:=[bX p.2]) rfl rfl) rfl))⟩
  rw[nV.mpr fun _ _=>rfl] at e
  refine cR (d:=.dict (kdL L)) (bD (bL e rfl) (Vr o.nd)) (by simp) ?_
  have em:=Uv G.bk G.six G.once K
  have ech:=Py G.bk G.six K hw0
  generalize(kR (atL L) ls).length=n at em ech
  refine cR (d:=.int n) (bD (ds:=[.dict (kdL L),lsD ls]) rfl em) (by simp) ?_
  have tb:bV .s (bOr (oK (bOf (eUn (fS "int") (aB 3)))) (bOf (eUn (fS "bool") (aB 3)))) [s0 (.dict (kdL L)),s0 (lsD ls),s0 (.dict (kdL L)),s0 (.int n)]=some (!true||false):=
   Jo (RN (x:=true) (vG (a:=.int n) rfl rfl)) fun _=>fO (vG (a:=.int n) rfl rfl)
  refine gK (mC tb) ?_
  refine dG (d:=.bool (true&&true)) (IG (aZ (a:=.int n) (b:=.int n) rfl (bD (ds:=[.dict (kdL L),lsD ls]) rfl ech) ((qW _ _).trans (by rw[decide_eq_true rfl]))) fun _=>aZ (a:=.dict (kdL L)) (b:=.dict (kdL L)) rfl rfl (Gi o.nd)) ⟨_,rfl,rfl⟩
 obtain⟨d,e,rfl⟩:=this
 exact e
theorem Mz(h:0<ls.length):gIx (lsD ls) (.int (-1))=some (bC (ls.getD (ls.length - 1) lnD)):=by
 show atI (ls.map bC) (-1)=_
 unfold atI
 have:ixN (ls.map bC).length (-1)=some (ls.length - 1):=by
  rw[cZ]
  unfold ixN
  rw[if_neg (by omega),if_pos (by omega)]
  congr 1
  omega
 rw[this,bE,eQ,getD_some lnD (by omega)]
 rfl
theorem Wj{t:aC}(hg:lF i ρ=some (kdL L))(hk:g (vS ρ)=some (.str t))(ht:t∈L.map (·.1))(hf:f (vA ρ)=some (.int j))(hj:ixN (atL L t).length j=some n)(hz:(atL L t).length≤100000)(k:P (.nx (ρ.set i (some (2,.dict (kdL (iY L t ((atL L t).eraseIdx n)))))))):Goes (EX i .s g .a f) ρ P:=⟨_,by
 have e1:eV 0 .a f ρ=some (.int j):=evA hf rfl
 have e2:eV 0 .s g ρ=some (.str t):=hk
 unfold EX
 rw[hg,bE,e2,bE,show bP (.str t)=some (.inr t) from rfl,bE,tW ht,bE]
 show((eV 0 .a f ρ).bind fun d=>match d with
  | .int j=>(ixN ((atL L t).map bF).length j).bind fun n=>if ((atL L t).map bF).length≤sizeLine then some (Out.nx (ρ.set i (some (2,.dict (iI (kdL L) (.inr t) (.list (((atL L t).map bF).eraseIdx n))))))) else none
  | _=>none)=_
 rw[e1,bE]
 show((ixN ((atL L t).map bF).length j).bind fun n=>if ((atL L t).map bF).length≤sizeLine then some (Out.nx (ρ.set i (some (2,.dict (iI (kdL L) (.inr t) (.list (((atL L t).map bF).eraseIdx n))))))) else none)=_
 rw[cZ,hj,bE,if_pos (nC hz),VZ]
 show some (Out.nx (ρ.set i (some (2,.dict (iI (kdL L) (.inr t) (bX ((atL L t).eraseIdx n)))))))=_
 rw[DC],k⟩
theorem Gm (ns:List Int)(hl:ns.length≤63)(hb:yI ns):FH [.list (ns.map .int)]=some (.bool true):=by
 have : ∃ d,FH [lI ns]=some d/\d = .bool true:=by
  refine eR rfl ?_
  obtain⟨N,hN⟩:=Ji ns
  obtain⟨ls,els,n4,hls⟩:=Vg ns hN
  obtain⟨L,eL,o,hk⟩:=Jz hN hls n4
  obtain⟨c2,ec2⟩:=oD ns (k:=2) (by omega) (by omega)
  have lok : ∀ {ls:List Ln},ls.length≤4->(∀ l∈ls,LnG N l)->Lok ls:=fun n4 hls=>⟨fun l m=>⟨dS (hls l m).w4 (by decide),fun k mk=>by
   rcases(hls l m).trm k mk with⟨i,rfl⟩ | ⟨j,hj,rfl⟩
   ·rfl
   ·exact(hN j hj).2⟩,fun l m=>(hls l m).w1,n4⟩
  have K:=lok n4 hls
  refine cR (d:=lsD ls) (bD (ds:=[lI ns]) rfl els) (by simp) ?_
  refine cR (n:=2) (d:=.dict (kdL L)) (bD (ds:=[lI ns,lsD ls]) rfl eL) (by simp) ?_
  have tb:bV .a (oK (bOf (aO pM (aG (aB 2) (aG (aB 1) aM))))) [s0 (lI ns),s0 (lsD ls),some (2,.dict (kdL L))]=some (!true):=RN (x:=true) (bD (ds:=[.dict (kdL L),lsD ls]) rfl (JZ o K hls))
  refine gK (mC tb) ?_
  refine gD (fun ρ'=>∃ M:List Tb,BkG M/\ρ'=[s0 (lI ns),s0 (lsD ls),some (2,.dict (kdL M))]) ?_ ?_
  ·have t1:bOf (eOp gGt (aO cV (aG (aB 1) aM)) (eC (.int 0))) (vA [s0 (lI ns),s0 (lsD ls),some (2,.dict (kdL L))])=some (decide (0<ls.length)):=fO (aZ (a:=.int ls.length) (b:=.int 0) (bD (ds:=[lsD ls]) rfl ((CQ _).trans (by rw[cZ]))) rfl (by
    show some (lA (decide ((ls.length:Int) > 0)))=_
    congr 2
    rw[decide_eq_decide]
    omega))
   by_cases h0:0<ls.length
   ·have mlast:ls.getD (ls.length - 1) lnD∈ls:=by
     have h1:ls.length - 1<ls.length:=by omega
     have:ls.getD (ls.length - 1) lnD=ls[ls.length - 1]:=by simp[qH,h1]
     rw[this]
     exact qG h1
    have elast:=Mz h0
    generalize ls.getD (ls.length - 1) lnD=l at mlast elast
    have hkl:=hk l mlast
    have ek : ∀ ρ:List (Option aA),ρ[1]?.join=some (lsD ls)->eOp gIx (eOp gIx (aB 1) (eUn pO (eC (.int 1)))) (eC (.int 0)) ρ=some (.str l.1):=fun ρ h=>aZ (a:=bC l) (b:=.int 0) (aZ (a:=lsD ls) (b:=.int (-1)) h rfl elast) rfl rfl
    have elen : ∀ ρ:List (Option aA),ρ[1]?.join=some (lsD ls)->ρ[2]?.join=some (.dict (kdL L))->aO cV (aG (eOp gIx (aB 2) (eOp gIx (eOp gIx (aB 1) (eUn pO (eC (.int 1)))) (eC (.int 0)))) aM) ρ=some (.int (atL L l.1).length):=fun ρ h h2=>bD (ds:=[bX (atL L l.1)]) (bL (aZ (a:=.dict (kdL L)) (b:=.str l.1) h2 (ek ρ h) (tW hkl)) rfl) ((vE _).trans (by rw[cZ]))
    have t2:bV .a (lX (bOf (eOp gGt (aO cV (aG (aB 1) aM)) (eC (.int 0)))) (bOf (eOp gGt (aO cV (aG (eOp gIx (aB 2) (eOp gIx (eOp gIx (aB 1) (eUn pO (eC (.int 1)))) (eC (.int 0)))) aM)) (eC (.int 0))))) [s0 (lI ns),s0 (lsD ls),some (2,.dict (kdL L))]=some (decide (0<ls.length)&&decide (0<(atL L l.1).length)):=Aj t1 fun _=>fO (aZ (a:=.int (atL L l.1).length) (b:=.int 0) (elen _ rfl rfl) rfl (by
     show some (lA (decide (((atL L l.1).length:Int) > 0)))=_
     congr 2
     rw[decide_eq_decide]
     omega))
    rw[decide_eq_true h0,xW] at t2
    by_cases h2:0<(atL L l.1).length
    ·have hz:(0:Int)<((atL L l.1).length:Int):=by omega
     obtain⟨i,ei⟩:=rY (jN c2 hz).1
     have hi:i<(atL L l.1).length:=by have:=(jN c2 hz).2; omega
     have a:=o.atR l.1
     refine gL (t2.trans (by rw[decide_eq_true h2])) (Wj (L:=L) (t:=l.1) (j:=(i:Int)) (n:=i) rfl (ek _ rfl) hkl (aZ (a:=.int c2) (b:=.int (atL L l.1).length) (bD (ds:=[lI ns,.int 2]) rfl ec2) (elen _ rfl rfl) ((iP _ _ h2).trans (by rw[ei]))) (ML hi) (by omega) ⟨_,rfl,iY L l.1 ((atL L l.1).eraseIdx i),o.upd ?_ ?_ ?_,rfl⟩)
     ·exact dS (Cp _ _).length_le a.1
     ·exact a.2.1.sublist (Cp _ _)
     ·exact fun r m=>a.2.2 r ((Cp _ _).subset m)
    ·exact kS (t2.trans (by rw[decide_eq_false h2])) (mI ⟨_,rfl,L,o,rfl⟩)
   ·have t2:bV .a (lX (bOf (eOp gGt (aO cV (aG (aB 1) aM)) (eC (.int 0)))) (bOf (eOp gGt (aO cV (aG (eOp gIx (aB 2) (eOp gIx (eOp gIx (aB 1) (eUn pO (eC (.int 1)))) (eC (.int 0)))) aM)) (eC (.int 0))))) [s0 (lI ns),s0 (lsD ls),some (2,.dict (kdL L))]=some (decide (0<ls.length)&&false):=Aj t1 fun z=>absurd (of_decide_eq_true z) h0
    exact kS (t2.trans (by rw[Bool.and_false])) (mI ⟨_,rfl,L,o,rfl⟩)
  rintro _ ⟨M,oM,rfl⟩
  refine qT ?_
  have es:sI (aB 1) (oS (eC (.int 1))) oN (vS [s0 (lI ns),s0 (lsD ls),s0 (.dict (kdL M))])=some (lsD (ls.drop 1)):=by
   have:=IP (ds:=ls.map bC) (f:=aB 1) (lo:=oS (eC (.int 1))) (hi:=oN) (ρ:=vS [s0 (lI ns),s0 (lsD ls),s0 (.dict (kdL M))]) (l:=some (1:Int)) (u:=none) rfl rfl rfl
   rw[this]
   cases ls with
   | nil=>rfl
   | cons l r=>
    rw[show(1:Int)=((1:Nat):Int) from rfl,TX 1 (by simp),← List.map_drop]
  refine dG (d:=.bool (true&&true)) (IG (bD (ds:=[.dict (kdL M),lsD ls]) rfl (JZ oM K hls)) fun _=>bD (ds:=[.dict (kdL M),lsD (ls.drop 1)]) (bL rfl (bL es rfl)) (JZ oM (lok (by rw[NZ]; omega) fun l m=>hls l (Ca m)) fun l m=>hls l (Ca m))) ⟨_,rfl,rfl⟩
 obtain⟨d,e,rfl⟩:=this
 exact e
def EW (K:aK):Sp:=fun vs H Q _=>∃ (a:aD) (ns:List Int),vs=[.ref a]/\SqL K H a (ns.map V.int)/\ns.length≤63/\yI ns /\ ∀ H',Q (.bl true) H'
theorem Hy : ∀ vs H Q E,EW K vs H Q E->spF K 0 FH vs H Q E:=fun vs H Q E gh=>by
 obtain⟨a,ns,ev,hS,hl,hb,k⟩:=gh
 subst ev
 have e0:hid H (fun _=>False)=H:=by
  funext b
  unfold hid
  rw[if_neg (fun z=>z)]
 refine⟨fun _=>False,[.list (ns.map aU)],.bool true,fun _ z=>z.elim,?_,Gm ns hl hb,dU fun v H' _ r=>?_⟩
 ·rw[e0]
  exact Aah.mpr ⟨_,_,rfl,Abk.mpr ⟨a,_,rfl,hS,WG ns⟩,Aao.mpr rfl⟩
 ·rw[Aay.mp r]
  exact k H'
def Hl (K:aK)(n:aC)(st:bZ)(f:aD):Prop:=∃ (od an:Option aD) (sl:Array (Option aE)) (oc kV dc pm cd ct:aE),fP K dW n=some (some (.ref f))/\K.lookup f=some ⟨oc,od,.func (lU n n (mJ st) (kX st) (bY st) .none kV dc pm an cd ct),sl⟩/\AX K cd n=true/\uI K (.ref f)=true
def Hs (K:aK)(n:aC)(st:bZ)(f:aD):Prop:=∃ fd,Fun K n n st f fd/\fP K dW n=some (some (.ref f))/\uI K (.ref f)=true
section
variable {n:aC}{f:aD}
theorem Bh4 {od an:Option aD}{sl:Array (Option aE)}{oc kV dc pm cd ct:aE}(a:fP K dW n=some (some (.ref f)))(l:K.lookup f=some ⟨oc,od,.func (lU n n (mJ st) (kX st) (bY st) .none kV dc pm an cd ct),sl⟩)(c:AX K cd n=true)(k:uI K (.ref f)=true):Hl K n st f:=⟨_,_,_,_,_,_,_,_,_,a,l,c,k⟩
theorem Adq {od an:Option aD}{sl:Array (Option aE)}{oc kV dc pm cd ct:aE}(a:fP K dW n=some (some (.ref f)))(l:K.lookup f=some ⟨oc,od,.func (lU n n (mJ st) (kX st) (bY st) .none kV dc pm an cd ct),sl⟩)(c:AX K cd n=true)(k:uI K (.ref f)=true):Hs K n st f:=⟨_,YL (st:=st) l c k,a,k⟩
def Hs.fd (h:Hs K n st f):hE:=Classical.choose h
theorem Hs.fn (h:Hs K n st f):Fun K n n st f h.fd:=(Ct h).1
theorem Hs.df {P:cB}{w:bN}{mg:aC->Option aE}{h base:aY}{sp:Sp}(X:K.In h)(G:h.Ns dW mg)(H:Hs K n st f)(ok:FnOk P w K mg base CX0 k f H.fd ps sp)(b:Binds K H.fd ps []):Def P w K mg base n k ps sp:=⟨_,_,ok,Bg X G (Ct H).2.1,(Ct H).2.2,b⟩
end
theorem oG {us:List aE}(h:us.length=n+1) : ∃ a r,us=a::r/\r.length=n:=by
 cases us with
 | nil=>exact absurd h (by simp)
 | cons a r=>exact⟨a,r,rfl,Nat.succ.inj h⟩
theorem uR{f:aD}{fd:hE}(F:Fun K x qual st f fd)(hp:ps.length=1)(h : ∀ (kV doc pm:aE) (an:Option aD) (cdv ct:aE) a,AW (lU x qual (mJ st) (kX st) (bY st) .none kV doc pm an cdv ct) ⟨[a],[]⟩=pure (ps.zip [a])):Binds K fd ps []:=F.binds fun kV doc pm an cdv ct u0 hl=>by
 have g0:=hl.trans hp
 clear hl
 obtain⟨a,u1,rfl,g1⟩:=oG g0
 cases OG g1
 exact h kV doc pm an cdv ct a
theorem iL{f:aD}{fd:hE}(F:Fun K x qual st f fd)(hp:ps.length=2)(h : ∀ (kV doc pm:aE) (an:Option aD) (cdv ct:aE) a b,AW (lU x qual (mJ st) (kX st) (bY st) .none kV doc pm an cdv ct) ⟨[a,b],[]⟩=pure (ps.zip [a,b])):Binds K fd ps []:=F.binds fun kV doc pm an cdv ct u0 hl=>by
 have g0:=hl.trans hp
 clear hl
 obtain⟨a,u1,rfl,g1⟩:=oG g0
 obtain⟨b,u2,rfl,g2⟩:=oG g1
 cases OG g2
 exact h kV doc pm an cdv ct a b
theorem sM{f:aD}{fd:hE}(F:Fun K x qual st f fd)(hp:ps.length=3)(h : ∀ (kV doc pm:aE) (an:Option aD) (cdv ct:aE) a b c,AW (lU x qual (mJ st) (kX st) (bY st) .none kV doc pm an cdv ct) ⟨[a,b,c],[]⟩=pure (ps.zip [a,b,c])):Binds K fd ps []:=F.binds fun kV doc pm an cdv ct u0 hl=>by
 have g0:=hl.trans hp
 clear hl
 obtain⟨a,u1,rfl,g1⟩:=oG g0
 obtain⟨b,u2,rfl,g2⟩:=oG g1
 obtain⟨c,u3,rfl,g3⟩:=oG g2
 cases OG g3
 exact h kV doc pm an cdv ct a b c
theorem Dv{f:aD}{fd:hE}(F:Fun K x qual st f fd)(hp:ps.length=4)(h : ∀ (kV doc pm:aE) (an:Option aD) (cdv ct:aE) a b c d,AW (lU x qual (mJ st) (kX st) (bY st) .none kV doc pm an cdv ct) ⟨[a,b,c,d],[]⟩=pure (ps.zip [a,b,c,d])):Binds K fd ps []:=F.binds fun kV doc pm an cdv ct u0 hl=>by
 have g0:=hl.trans hp
 clear hl
 obtain⟨a,u1,rfl,g1⟩:=oG g0
 obtain⟨b,u2,rfl,g2⟩:=oG g1
 obtain⟨c,u3,rfl,g3⟩:=oG g2
 obtain⟨d,u4,rfl,g4⟩:=oG g3
 cases OG g4
 exact h kV doc pm an cdv ct a b c d
set_option maxHeartbeats 4000000 in
theorem all_mk {l:Bo}{w:bN}{h:aY}{mg:aC->Option aE}{fa f_names_of f_put_in f_fits f_rows_of f_ways_of f__law_cell f__law_draw f__law_some f__law_choices f_shared f_refuse_rows f_extended f_fitting f_common f_key_of f__law_name f_parent_of f_refuse_ways f_walked f_all_fitting f_summed f_times f__law_lines f__law_book f_first_ear f_ears f_ring f_walk_rest f_count_parents f_refuse_ring f_many f__law_right f_law:aD}(X:K.In h)(G:h.Ns dW mg)(hfa:mg "law" = some (.ref fa)){t_MOST_WAYS:Tok}
  (h_names_of:Hs K "names_of" LA f_names_of) (h_put_in:Hs K "put_in" DY f_put_in) (h_fits:Hs K "fits" HX f_fits) (h_rows_of:Hs K "rows_of" KC f_rows_of) (h_ways_of:Hs K "ways_of" KI f_ways_of) (h__law_cell:Hs K "_law_cell" LK f__law_cell) (h__law_draw:Hs K "_law_draw" LO f__law_draw) (h__law_some:Hs K "_law_some" LL f__law_some) (h__law_choices:Hs K "_law_choices" MD f__law_choices) (h_shared:Hs K "shared" DZ f_shared) (h_refuse_rows:Hs K "refuse_rows" LZ f_refuse_rows) (h_extended:Hs K "extended" KZ f_extended) (h_fitting:Hs K "fitting" EB f_fitting) (h_common:Hs K "common" DM f_common) (h_key_of:Hs K "key_of" JM f_key_of) (h__law_name:Hs K "_law_name" LU f__law_name) (h_parent_of:Hs K "parent_of" AC f_parent_of) (h_refuse_ways:Hs K "refuse_ways" ET f_refuse_ways) (h_walked:Hs K "walked" JU f_walked) (h_all_fitting:Hs K "all_fitting" EU f_all_fitting) (h_summed:Hs K "summed" JE f_summed) (h_times:Hs K "times" CP f_times) (h__law_lines:Hs K "_law_lines" LW f__law_lines) (h__law_book:Hs K "_law_book" AB f__law_book) (h_first_ear:Hs K "first_ear" LN f_first_ear) (h_ears:Hs K "ears" MN f_ears) (h_ring:Hs K "ring" MJ f_ring) (h_walk_rest:Hs K "walk_rest" zT f_walk_rest) (h_count_parents:Hs K "count_parents" AK f_count_parents) (h_refuse_ring:Hs K "refuse_ring" EV f_refuse_ring) (h_many:Hs K "many" MM f_many) (h__law_right:Hs K "_law_right" ER f__law_right) (h_law:Hl K "law" sU f_law)
  (z_isinstance:fP K dW "isinstance" = some none) (z_int:fP K dW "int" = some none) (z_bool:fP K dW "bool" = some none) (z_abs:fP K dW "abs" = some none) (z_range:fP K dW "range" = some none) (z_len:fP K dW "len" = some none) (z_str:fP K dW "str" = some none) (z_all:fP K dW "all" = some none) (z_any:fP K dW "any" = some none) (z_list:fP K dW "list" = some none) (z_tuple:fP K dW "tuple" = some none) (z_dict:fP K dW "dict" = some none) (z_set:fP K dW "set" = some none) (z_sorted:fP K dW "sorted" = some none) (z_sum:fP K dW "sum" = some none) (z_min:fP K dW "min" = some none) (z_max:fP K dW "max" = some none) (z_enumerate:fP K dW "enumerate" = some none) (z_zip:fP K dW "zip" = some none) (z_reversed:fP K dW "reversed" = some none) (z_ValueError:fP K dW "ValueError" = some none) (g_MOST_WAYS:fP K dW "MOST_WAYS" = some (some (.int 4096 t_MOST_WAYS))) :
  ∃ fd:hE,(∀ (s:aJ) (v:aE),BindsTo s fd ⟨[v],[]⟩ [("_law_script",v)]) /\ ∀ base:aY,K.In base->base.Ns dW mg->FnOk l.prog w K mg base CX0 10 fa fd ["_law_script"] (EW K):=by
 obtain⟨_,an_law,_,_,kV_law,dc_law,pm_law,cd_law,ct_law,a_law,l_law,c_law,k_law⟩:=h_law
 have e:=hfa.symm.trans (Bg X G a_law)
 cases e
 have B:Blt mg:=⟨gY X G z_isinstance,gY X G z_int,gY X G z_bool,gY X G z_abs,gY X G z_range,gY X G z_len,gY X G z_str,gY X G z_all,gY X G z_any,gY X G z_list,gY X G z_tuple,gY X G z_dict,gY X G z_set,gY X G z_sorted,gY X G z_sum,gY X G z_min,gY X G z_max,gY X G z_enumerate,gY X G z_zip,gY X G z_reversed,gY X G z_ValueError⟩
 have C:Cst mg:=⟨⟨_,Bg X G g_MOST_WAYS⟩⟩
 refine⟨lU "law" "law" (mJ sU) (kX sU) (bY sU) .none kV_law dc_law pm_law an_law cd_law ct_law,fun s v=>.of_eq rfl,fun base _ _=>?_⟩
 have D_names_of:Def l.prog w K mg base "names_of" 1 wY (spF K 1 pL):=h_names_of.df X G (Re h_names_of.fn B C ) (uR h_names_of.fn (ps:=wY) rfl fun _ _ _ _ _ _ _=>rfl)
 have D_put_in:Def l.prog w K mg base "put_in" 1 wF (spF K 0 oF):=h_put_in.df X G (Ol h_put_in.fn B C ) (iL h_put_in.fn (ps:=wF) rfl fun _ _ _ _ _ _ _ _=>rfl)
 have D_fits:Def l.prog w K mg base "fits" 1 sX (spF K 1 mY):=h_fits.df X G (Nh h_fits.fn B C ) (sM h_fits.fn (ps:=sX) rfl fun _ _ _ _ _ _ _ _ _=>rfl)
 have D_rows_of:Def l.prog w K mg base "rows_of" 1 wJ (spF K 0 mK):=h_rows_of.df X G (Ph h_rows_of.fn B C ) (iL h_rows_of.fn (ps:=wJ) rfl fun _ _ _ _ _ _ _ _=>rfl)
 have D_ways_of:Def l.prog w K mg base "ways_of" 1 zL (spF K 0 tX):=h_ways_of.df X G (Os h_ways_of.fn B C ) (uR h_ways_of.fn (ps:=zL) rfl fun _ _ _ _ _ _ _=>rfl)
 have D__law_cell:Def l.prog w K mg base "_law_cell" 1 rD (spF K 0 gX):=h__law_cell.df X G (Ro h__law_cell.fn B C ) (iL h__law_cell.fn (ps:=rD) rfl fun _ _ _ _ _ _ _ _=>rfl)
 have D__law_draw:Def l.prog w K mg base "_law_draw" 1 AA (spF K 0 wR):=h__law_draw.df X G (Ry h__law_draw.fn B C ) (sM h__law_draw.fn (ps:=AA) rfl fun _ _ _ _ _ _ _ _ _=>rfl)
 have D__law_some:Def l.prog w K mg base "_law_some" 1 zY (spF K 1 wU):=h__law_some.df X G (Rx h__law_some.fn B C ) (sM h__law_some.fn (ps:=zY) rfl fun _ _ _ _ _ _ _ _ _=>rfl)
 have D__law_choices:Def l.prog w K mg base "_law_choices" 1 AD (spF K 0 xE):=h__law_choices.df X G (Sz h__law_choices.fn B C ) (iL h__law_choices.fn (ps:=AD) rfl fun _ _ _ _ _ _ _ _=>rfl)
 have D_shared:Def l.prog w K mg base "shared" 2 zH (spF K 1 wA):=h_shared.df X G (Xy h_shared.fn B C D_names_of) (iL h_shared.fn (ps:=zH) rfl fun _ _ _ _ _ _ _ _=>rfl)
 have D_refuse_rows:Def l.prog w K mg base "refuse_rows" 2 AE (spF K 0 xD):=h_refuse_rows.df X G (Sl h_refuse_rows.fn B C D_ways_of) (uR h_refuse_rows.fn (ps:=AE) rfl fun _ _ _ _ _ _ _=>rfl)
 have D_extended:Def l.prog w K mg base "extended" 2 zU (spF K 1 wZ):=h_extended.df X G (Qh h_extended.fn B C D_fits) (sM h_extended.fn (ps:=zU) rfl fun _ _ _ _ _ _ _ _ _=>rfl)
 have D_fitting:Def l.prog w K mg base "fitting" 2 zM (spF K 1 tY):=h_fitting.df X G (Pc h_fitting.fn B C D_fits D_rows_of) (iL h_fitting.fn (ps:=zM) rfl fun _ _ _ _ _ _ _ _=>rfl)
 have D_common:Def l.prog w K mg base "common" 2 yY (spF K 1 wH):=h_common.df X G (Yk h_common.fn B C D_names_of) (iL h_common.fn (ps:=yY) rfl fun _ _ _ _ _ _ _ _=>rfl)
 have D_key_of:Def l.prog w K mg base "key_of" 2 wG (spF K 0 pK):=h_key_of.df X G (Oe h_key_of.fn B C D_put_in D_fits) (sM h_key_of.fn (ps:=wG) rfl fun _ _ _ _ _ _ _ _ _=>rfl)
 have D__law_name:Def l.prog w K mg base "_law_name" 2 wQ (spF K 0 oH):=h__law_name.df X G (Rn h__law_name.fn B C D__law_cell) (iL h__law_name.fn (ps:=wQ) rfl fun _ _ _ _ _ _ _ _=>rfl)
 have D_parent_of:Def l.prog w K mg base "parent_of" 3 zQ (spF K 0 wX):=h_parent_of.df X G (Ri h_parent_of.fn B C D_shared) (sM h_parent_of.fn (ps:=zQ) rfl fun _ _ _ _ _ _ _ _ _=>rfl)
 have D_refuse_ways:Def l.prog w K mg base "refuse_ways" 3 AH (spF K 0 xC):=h_refuse_ways.df X G (Su h_refuse_ways.fn B C D_rows_of D_refuse_rows) (iL h_refuse_ways.fn (ps:=AH) rfl fun _ _ _ _ _ _ _ _=>rfl)
 have D_walked:Def l.prog w K mg base "walked" 3 zG (spF K 0 wD):=h_walked.df X G (Xj h_walked.fn B C D_extended) (iL h_walked.fn (ps:=zG) rfl fun _ _ _ _ _ _ _ _=>rfl)
 have D_all_fitting:Def l.prog w K mg base "all_fitting" 3 AG (spF K 1 uB):=h_all_fitting.df X G (So h_all_fitting.fn B C D_fitting) (iL h_all_fitting.fn (ps:=AG) rfl fun _ _ _ _ _ _ _ _=>rfl)
 have D_summed:Def l.prog w K mg base "summed" 3 yZ (spF K 0 wC):=h_summed.df X G (Xs h_summed.fn B C D_key_of) (sM h_summed.fn (ps:=yZ) rfl fun _ _ _ _ _ _ _ _ _=>rfl)
 have D_times:Def l.prog w K mg base "times" 3 yU (spF K 0 vT):=h_times.df X G (Wb h_times.fn B C D_key_of) (Dv h_times.fn (ps:=yU) rfl fun _ _ _ _ _ _ _ _ _ _=>rfl)
 have D__law_lines:Def l.prog w K mg base "_law_lines" 3 zV (spF K 0 xB):=h__law_lines.df X G (Sh h__law_lines.fn B C D__law_cell D__law_some D__law_name) (uR h__law_lines.fn (ps:=zV) rfl fun _ _ _ _ _ _ _=>rfl)
 have D__law_book:Def l.prog w K mg base "_law_book" 3 zX (spF K 2 wW):=h__law_book.df X G (Rq h__law_book.fn B C D__law_cell D__law_draw D__law_name) (iL h__law_book.fn (ps:=zX) rfl fun _ _ _ _ _ _ _ _=>rfl)
 have D_first_ear:Def l.prog w K mg base "first_ear" 4 zZ (spF K 0 mL):=h_first_ear.df X G (Rl h_first_ear.fn B C D_parent_of) (iL h_first_ear.fn (ps:=zZ) rfl fun _ _ _ _ _ _ _ _=>rfl)
 have D_ears:Def l.prog w K mg base "ears" 5 qR (spF K 2 kT):=h_ears.df X G (Kk h_ears.fn B C D_first_ear) (uR h_ears.fn (ps:=qR) rfl fun _ _ _ _ _ _ _=>rfl)
 have D_ring:Def l.prog w K mg base "ring" 6 yK (spF K 1 qU):=h_ring.df X G (Lc h_ring.fn B C D_ears) (uR h_ring.fn (ps:=yK) rfl fun _ _ _ _ _ _ _=>rfl)
 have D_walk_rest:Def l.prog w K mg base "walk_rest" 6 zR (spF K 0 wV):=h_walk_rest.df X G (Rt h_walk_rest.fn B C D_walked D_ears) (iL h_walk_rest.fn (ps:=zR) rfl fun _ _ _ _ _ _ _ _=>rfl)
 have D_count_parents:Def l.prog w K mg base "count_parents" 6 AJ (spF K 1 xF):=h_count_parents.df X G (Ta h_count_parents.fn B C D_common D_summed D_times D_ears) (iL h_count_parents.fn (ps:=AJ) rfl fun _ _ _ _ _ _ _ _=>rfl)
 have D_refuse_ring:Def l.prog w K mg base "refuse_ring" 7 AI (spF K 0 rJ):=h_refuse_ring.df X G (Sy h_refuse_ring.fn B C D_refuse_ways D_ring) (iL h_refuse_ring.fn (ps:=AI) rfl fun _ _ _ _ _ _ _ _=>rfl)
 have D_many:Def l.prog w K mg base "many" 8 yH (spF K 0 sZ):=h_many.df X G (Jw h_many.fn B C D_put_in D_all_fitting D_ears D_walk_rest D_count_parents D_refuse_ring) (iL h_many.fn (ps:=yH) rfl fun _ _ _ _ _ _ _ _=>rfl)
 have D__law_right:Def l.prog w K mg base "_law_right" 9 zW (spF K 0 pM):=h__law_right.df X G (Se h__law_right.fn B C D__law_choices D_many) (iL h__law_right.fn (ps:=zW) rfl fun _ _ _ _ _ _ _ _=>rfl)
 exact(Kc (YL (st:=sU) l_law c_law k_law) B C D__law_cell D__law_lines D__law_book D__law_right).imp Hy
theorem walk {l:Bo}{q:cB}{loose:List aC}{XP:(aC->Option aE)->aY->Prop}{YP:bN->aY->Prop}{d:DefRec}{K:Params->aK}(hn:l.most=some 63)(hdf:d.params.defaults=[])
  (hY : ∀ (w:bN) (h:aY),YP w h->(K w.params).In h)
  (F : ∀ (w:bN) (mg:aC->Option aE) (fa:aD) (h:aY),(K w.params).In h->h.Ns dW mg->mg d.name=some (.ref fa) ->
   ∃ fd:hE,(∀ (s:aJ) (u:aE),BindsTo s fd ⟨[u],[]⟩ [("_law_script",u)]) /\ ∀ base:aY,(K w.params).In base->base.Ns dW mg->FnOk l.prog w (K w.params) mg base CX0 10 fa fd ["_law_script"] (EW (K w.params))) :
  PySem.W.WalkO q loose XP YP l.row.toRowW d [] (fun f vs=>PySem.call f vs):=
 L2.A8g (n:=63) (k:=10) (x:="_law_script") (CX:=fun _=>CX0) (sp:=fun w=>EW (K w.params)) hn (by decide) hdf ⟨rfl,by decide,by decide⟩ hY F (fun _ _ a ns hb hl _ hS=>⟨a,ns,rfl,hS,hl,hb,fun _=>rfl⟩) fun _ _ _ _ _ z=>z
end Aw
def PySem.W.Fast.tw12885989842845826387:=0
def PySem.W.Fast.tw14112385612375235873:=0
def PySem.W.Fast.tw7331491225455929518:=0
def PySem.W.Fast.tw16011472472460574399:=0
def PySem.W.Fast.tw14979264128896348609:=0
def PySem.W.Fast.tw2182963211873512166:=0
def PySem.W.Fast.tw8437035347511380592:=0
def PySem.W.Fast.tw16834811355831633306:=0
def PySem.W.Fast.tw1936537849501451657:=0
def PySem.W.Fast.tw16922931597093471775:=0
def PySem.W.Fast.tw8344608465370789881:=0
def PySem.W.Fast.tw2917886219196691843:=0
def PySem.W.Fast.tw7877286589965023817:=0
def PySem.W.Fast.tw7374238520429238494:=0
def PySem.W.Fast.tw8572607632957757303:=0
def PySem.W.Fast.tw11133421037095730233:=0
def PySem.W.Fast.tw18265538113737218665:=0
def PySem.W.Fast.tw14683168692189659998:=0
def PySem.W.Fast.tw8063363759815032775:=0
def PySem.W.Fast.tw97766891848410026:=0
def PySem.W.Fast.tw4119337160677435801:=0
def PySem.W.Fast.tw16856492631025146590:=0
def PySem.W.Fast.tw13890155078827890471:=0
def PySem.W.Fast.tw4614294250871992396:=0
def PySem.W.Fast.tw14913248472216715712:=0
def PySem.W.Fast.tw4722648615239573811:=0
def PySem.W.Fast.tw5638733141434890538:=0
def PySem.W.Fast.tw3158706300106622878:=0
def PySem.W.Fast.tw12085325707900275818:=0
def PySem.W.Fast.tw7225671250413387338:=0
def PySem.W.Fast.tw1576184846879367985:=0
def PySem.W.Fast.tw5739587192389442911:=0
def PySem.W.Fast.tw17589047817317265260:=0
def PySem.W.Fast.tw10969913514887984300:=0
def PySem.W.Fast.tw16946052233128179049:=0
def PySem.W.Fast.tw10966789619573779289:=0
def PySem.W.Fast.tw15570712693880058224:=0
def PySem.W.Fast.tw17276481772710779119:=0
def PySem.W.Fast.tw15421323060670150048:=0
def PySem.W.Fast.tw8172276430615024627:=0
def PySem.W.Fast.tw9799540857769467905:=0
def PySem.W.Fast.tw8553218300210718012:=0
def PySem.W.Fast.tw777182148283940709:=0
def PySem.W.Fast.tw763284165159261851:=0
def PySem.W.Fast.tw8774257802398219216:=0
def PySem.W.Fast.tw3476053455195288783:=0
def PySem.W.Fast.tw7483030330760741776:=0
def PySem.W.Fast.tw4358685329516016458:=0
def PySem.W.Fast.tw9942456452570517479:=0
def PySem.W.Fast.tw5616984103886531770:=0
def PySem.W.Fast.tw12571003528560879728:=0
def PySem.W.Fast.tw1777551848800499295:=0
def PySem.W.Fast.tw6904256544987629761:=0
def PySem.W.Fast.tw804940665938796951:=0
def PySem.W.Fast.tw11859840105440650948:=0
def PySem.W.Fast.tw17516307259965996088:=0
def PySem.W.Fast.tw680929820857555461:=0
def PySem.W.Fast.tw18402161042649493452:=0
def PySem.W.Fast.tw12080155261457071962:=0
def PySem.W.Fast.tw4720974801351786338:=0
def PySem.W.Fast.tw799233329427870806:=0
def PySem.W.Fast.tw11272983839576968231:=0
def PySem.W.Fast.tw10577269851243770903:=0
def PySem.W.Fast.tw6020750453150719765:=0
def PySem.W.Fast.tw12109453734442535375:=0
def PySem.W.Fast.tw8946798536928728556:=0
def PySem.W.Fast.tw9652227460926103041:=0
def PySem.W.Fast.tw8000803539614001809:=0
def PySem.W.Fast.tw12891804904675587620:=0
def PySem.W.Fast.tw11741644795151963006:=0
def PySem.W.Fast.tw16373953503369364:=0
def PySem.W.Fast.tw420853498430334401:=0
def PySem.W.Fast.tw3495789014288015120:=0
def PySem.W.Fast.tw17540294819680396462:=0
def PySem.W.Fast.tw6196749547727702176:=0
def PySem.W.Fast.tw5966433713261234267:=0
def PySem.W.Fast.tw12815099879735353083:=0
def PySem.W.Fast.tw4286888039930970968:=0
def PySem.W.Fast.tw16146527466529414023:=0
def PySem.W.Fast.tw18159433559896784305:=0
def PySem.W.Fast.tw3833679652908680075:=0
def PySem.W.Fast.tw17532051021238880459:=0
def PySem.W.Fast.tw5426609466461532254:=0
def PySem.W.Fast.tw12128211527762741909:=0
def PySem.W.Fast.tw282193340478842324:=0
def PySem.W.Fast.tw1231708545639560870:=0
def PySem.W.Fast.tw15882028174045422207:=0
def PySem.W.Fast.tw10331285784001999757:=0
def PySem.W.Fast.tw8631094194358445123:=0
def PySem.W.Fast.tw15207962196158664927:=0
def PySem.W.Fast.tw5975451834472914256:=0
def PySem.W.Fast.tw17704401833254419726:=0
def PySem.W.Fast.tw2300934666148454330:=0
def PySem.W.Fast.tw2508216585473596928:=0
def PySem.W.Fast.tw17577904715593788405:=0
def PySem.W.Fast.tw6413078080843471440:=0
def PySem.W.Fast.tw13110742690475108502:=0
def PySem.W.Fast.tw6344422881335252074:=0
def PySem.W.Fast.tw9937362069303305399:=0
def PySem.W.Fast.tw12217180239294257564:=0
def PySem.W.Fast.tw16560449384991100702:=0
def PySem.W.Fast.tw12091712267625388077:=0
def PySem.W.Fast.tw12128909914209714252:=0
def PySem.W.Fast.tw5691331590817965789:=0
def PySem.W.Fast.tw2671795598918691518:=0
def PySem.W.Fast.tw5662421888882102366:=0
def PySem.W.Fast.tw12753723527737098775:=0
def PySem.W.Fast.tw3818562251898290211:=0
def PySem.W.Fast.tw7939865323664891360:=0
def PySem.W.Fast.tw3478725573334262331:=0
def PySem.W.Fast.tw15464330401734194954:=0
def PySem.W.Fast.tw2996126240507171157:=0
def PySem.W.Fast.tw17941678915701971434:=0
def PySem.W.Fast.tw675633072778377668:=0
def PySem.W.Fast.tw11722271562938543646:=0
def PySem.W.Fast.tw11847514968504046883:=0
def PySem.W.Fast.tw14346811993215118392:=0
def PySem.W.Fast.tw7500794894932807436:=0
def PySem.W.Fast.tw10332140402181458374:=0
def PySem.W.Fast.tw10302166642041001731:=0
def PySem.W.Fast.tw10671736103896909044:=0
def PySem.W.Fast.tw2093162518683225399:=0
def PySem.W.Fast.tw5327501021205601518:=0
def PySem.W.Fast.tw2224474298846029974:=0
def PySem.W.Fast.tw15191837237276044324:=0
def PySem.W.Fast.tw8210422418521727253:=0
def PySem.W.Fast.tw1075920952185522115:=0
def PySem.W.Fast.tw2959224730932618788:=0
def PySem.W.Fast.tw11870109131123876780:=0
def PySem.W.Fast.tw3328818868868997036:=0
def PySem.W.Fast.tw1887945950322133566:=0
def PySem.W.Fast.tw18399041333751986943:=0
def PySem.W.Fast.tw3796530515849573781:=0
def PySem.W.Fast.tw13604733019326194192:=0
def PySem.W.Fast.tw5522898736929673702:=0
def PySem.W.Fast.tw12817727410587292444:=0
def PySem.W.Fast.tw2687352069393078177:=0
def PySem.W.Fast.tw3530779744554056432:=0
def PySem.W.Fast.tw3515289694382277410:=0
def PySem.W.Fast.tw16052584756775840040:=0
def PySem.W.Fast.tw6096157728294386232:=0
def PySem.W.Fast.tw787454216880341453:=0
def PySem.W.Fast.tw1962716821918835723:=0
def PySem.W.Fast.tw318042337770064454:=0
def PySem.W.Fast.tw1808829905715634692:=0
def PySem.W.Fast.tw14537769174897859637:=0
def PySem.W.Fast.tw5920889526752887953:=0
def PySem.W.Fast.tw1460374523810289398:=0
def PySem.W.Fast.tw15437884072091333011:=0
def PySem.W.Fast.tw14445574082560285190:=0
def PySem.W.Fast.tw8241820950609129853:=0
def PySem.W.Fast.tw14233170808156587529:=0
def PySem.W.Fast.tw7767046064685515603:=0
def PySem.W.Fast.tw16729410832060139831:=0
def PySem.W.Fast.tw6287409759332334187:=0
def PySem.W.Fast.tw12838370658711037693:=0
def PySem.W.Fast.tw649941891194099598:=0
def PySem.W.Fast.tw13879921397115074589:=0
def PySem.W.Fast.tw13897099355362378195:=0
def PySem.W.Fast.tw986282813484873401:=0
def PySem.W.Fast.tw7458560730254079643:=0
def PySem.W.Fast.tw2227609043436831793:=0
def PySem.W.Fast.tw13781928284231446277:=0
def PySem.W.Fast.tw17506617965561924063:=0
def PySem.W.Fast.tw16420872276767215469:=0
def PySem.W.Fast.tw8913939496882263720:=0
def PySem.W.Fast.tw16014309089680443292:=0
def PySem.W.Fast.tw8516579089861298250:=0
def PySem.W.Fast.tw16380614927178715876:=0
def PySem.W.Fast.tw4753360810607471157:=0
def PySem.W.Fast.tw17980992544783784180:=0
def PySem.W.Fast.tw11307696009545219327:=0
def PySem.W.Fast.tw2648141355311239799:=0
def PySem.W.Fast.tw14579437364314323088:=0
def PySem.W.Fast.tw9353230061705962172:=0
def PySem.W.Fast.tw12701456597764470483:=0
def PySem.W.Fast.tw2074627236744111590:=0
def PySem.W.Fast.tw15681792929579875559:=0
def PySem.W.Fast.tw2195059800783026753:=0
def PySem.W.Fast.tw10145760644407731260:=0
def PySem.W.Fast.tw3433189365578781979:=0
def PySem.W.Fast.tw15451609517980459849:=0
def PySem.W.Fast.tw18285387438904704634:=0
def PySem.W.Fast.tw10500954781195728341:=0
def PySem.W.Fast.tw13125701824156129974:=0
def PySem.W.Fast.tw5791033027662012496:=0
def PySem.W.Fast.tw13854324493831249368:=0
def PySem.W.Fast.tw5742748872077334479:=0
def PySem.W.Fast.tw1000669946576559378:=0
def PySem.W.Fast.tw9396046583629086269:=0
def PySem.W.Fast.tw476440487994958016:=0
def PySem.W.Fast.tw16329611983029931212:=0
def PySem.W.Fast.tw9327162773799887584:=0
def PySem.W.Fast.tw16341836164118378782:=0
def PySem.W.Fast.tw12399089235972045661:=0
def PySem.W.Fast.tw2199689989188838666:=0
def PySem.W.Fast.tw17257698150800275990:=0
def PySem.W.Fast.tw3582979033165044194:=0
def PySem.W.Fast.tw11863969030047538247:=0
def PySem.W.Fast.tw18345252307068691007:=0
def PySem.W.Fast.tw10109811388377951169:=0
def PySem.W.Fast.tw15494507431215003491:=0
def PySem.W.Fast.tw15746338856774358979:=0
def PySem.W.Fast.tw11860785317091413318:=0
def PySem.W.Fast.tw16013662085657940936:=0
def PySem.W.Fast.tw11476990183617048759:=0
def PySem.W.Fast.tw7832898725072774482:=0
def PySem.W.Fast.tw15909739269285050848:=0
def PySem.W.Fast.tw3295493643631286037:=0
def PySem.W.Fast.tw15751540840878207623:=0
def PySem.W.Fast.tw14567610616102626621:=0
def PySem.W.Fast.tw5812769929291432400:=0
def PySem.W.Fast.tw11910672537503924851:=0
def PySem.W.Fast.tw3538229621368123787:=0
def PySem.W.Fast.tw3840378635444247271:=0
def PySem.W.Fast.tw6566979578551946813:=0
def PySem.W.Fast.tw11378082523543628008:=0
def PySem.W.Fast.tw8923754790254907942:=0
def PySem.W.Fast.tw15335318608383998101:=0
def PySem.W.Fast.tw6435750330378847991:=0
def PySem.W.Fast.tw13261889585247559826:=0
def PySem.W.Fast.tw15628990104062123944:=0
open PySem PySem.W PyProof.Rows
set_option maxRecDepth 100000 in
set_option maxHeartbeats 0 in
theorem PySem.Challenge.cw_askwithin_k29_matches_counted_holds : PySem.Challenge.rw_askwithin_k29_matches_counted.Holds := by
 w_on; o_law; k_head; (case hw=>w_witness2)
 k_fill
 refine Aw.walk (l:=PySem.Challenge.rw_askwithin_k29_matches_counted) rfl rfl (fun w h Y=>PySem.W.kIn_of Y) ?F
 case F=>
  intro w mg fa h KX G hmg
  refine' Aw.all_mk KX G hmg (Aw.Adq ?_ ?_ ?_ ?_) (Aw.Adq ?_ ?_ ?_ ?_) (Aw.Adq ?_ ?_ ?_ ?_) (Aw.Adq ?_ ?_ ?_ ?_) (Aw.Adq ?_ ?_ ?_ ?_) (Aw.Adq ?_ ?_ ?_ ?_) (Aw.Adq ?_ ?_ ?_ ?_) (Aw.Adq ?_ ?_ ?_ ?_) (Aw.Adq ?_ ?_ ?_ ?_) (Aw.Adq ?_ ?_ ?_ ?_) (Aw.Adq ?_ ?_ ?_ ?_) (Aw.Adq ?_ ?_ ?_ ?_) (Aw.Adq ?_ ?_ ?_ ?_) (Aw.Adq ?_ ?_ ?_ ?_) (Aw.Adq ?_ ?_ ?_ ?_) (Aw.Adq ?_ ?_ ?_ ?_) (Aw.Adq ?_ ?_ ?_ ?_) (Aw.Adq ?_ ?_ ?_ ?_) (Aw.Adq ?_ ?_ ?_ ?_) (Aw.Adq ?_ ?_ ?_ ?_) (Aw.Adq ?_ ?_ ?_ ?_) (Aw.Adq ?_ ?_ ?_ ?_) (Aw.Adq ?_ ?_ ?_ ?_) (Aw.Adq ?_ ?_ ?_ ?_) (Aw.Adq ?_ ?_ ?_ ?_) (Aw.Adq ?_ ?_ ?_ ?_) (Aw.Adq ?_ ?_ ?_ ?_) (Aw.Adq ?_ ?_ ?_ ?_) (Aw.Adq ?_ ?_ ?_ ?_) (Aw.Adq ?_ ?_ ?_ ?_) (Aw.Adq ?_ ?_ ?_ ?_) (Aw.Adq ?_ ?_ ?_ ?_) (Aw.Bh4 ?_ ?_ ?_ ?_)  ?_ ?_ ?_ ?_ ?_ ?_ ?_ ?_ ?_ ?_ ?_ ?_ ?_ ?_ ?_ ?_ ?_ ?_ ?_ ?_ ?_ ?_
  any_goals k_is
