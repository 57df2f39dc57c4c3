import PyProof.Rows.All
import Wide.All
import OpenK.AllK
import Wide.FinOn
import Lean
import PyProof.EqAt
import PyProof.EqKinds
import PyProof.TupleCall
import PyProof.TupleOfStr
import PyProof.ListStr
import PyProof.ZipIter
import PyProof.TupleIter
import PyProof.EnumMake
import PyProof.ListRange
import PyProof.AttrMissHeap
import KE.KSortTup
import PyProof.Rows.SortShellK
import PyProof.SetKind
import PyProof.Rows.SetFrom
import PyProof.AutoListH
import PyProof.ListNew
import PyProof.FactsAll.list_2
import PyProof.CollectWalk
import PyProof.MeetsSeq2
import PyProof.FactsAll.list_4
import PyProof.AutoSeq1
import PyProof.ConsumeWalk
import PyProof.IsRules
import PyProof.DictItemsLoops
import PySem.Builtin.SmallTypes.W2All
import PyProof.ListMulRoad
import PyProof.Rows.SeqMore
import PyProof.FactsAll.tuple_2
import PyProof.StrOps2
import PyProof.WalksMore
import KE.KMinKey
import PyProof.Rows.CallKwBuiltin
import PyProof.FactsAll.zip_1
import PyProof.MeetsDictList
import PySem.Challenge.RW_askwithin_k37_papers_written
open PySem renaming PyData->aA,Addr->aC,Str->aE,Value->aF,Shared->aI,wpAny_bind->aJ,Expr->aQ,wpAny->aT,Heap->aU,model->aX,wpAny_pure->bA,World->bD,Pos->bH,Obj->bI,Program->bN,eval->bZ,starEach->cC,Around->cE,Paired->dM,Stmt->dU,Env->eQ,Scope->gA,rawInt->gR,wpAny_field->gZ,assignEach->hJ,swapsWith->iG,compareOp->iH,sysModules->jE,mainGlobals->jF,backTo->jG,binaryOp->jQ,wpAny_holding->jW,wpAny_call_entry->jX,pyNext->jY,assign->jZ,NameKind->kA,FuncData->kC,wpAny_mono->kO,foldedSetIterable->kP,bootBuiltins->lC,Spec->lF,wpAny_seqItems->mE,IsPair->mN,wpAny_setField_rec->nH,merged->nJ,holding->nK,codeAny->nL,atKey->nM,wpAny_newObj_type->oZ,wpAny_callSpecial?_slot->pA,storedH->pB,getItem->pC,ReadsAll->pD,Reads->pE,IsPart->pJ,IsEnum->pK,DictEntry->pM,wpAny_typeOf->sM,wpAny_rule->sN,stored->sO,pyIter->sP,behindInMarks->sQ,PassesOwn->sT,wpAny_passesOwn->uZ,valueAt->vB,sliceBounds->vC,sizeLine_eq->vD,relabel->vE,callerA->vF,attributeBase->vG,wpAny_attempt->xZ,plainId_quiet->yA,codeAny_builtin->yB,SetTable->yC,GenState->yS,wpAny_specialOf->CC,wpAny_letGo->CD,wpAny_isInstance->CF,call_meets->CG,mem_of_lookup->CH,wpAny_typeNameOf_keyiter->KM,wpAny_typeNameOfWhole_keyiter->KN,wpAny_truthy_bool->KO,wpAny_setField->KP,wpAny_pyIter_list->KQ,wpAny_onRaise->KR,wpAny_newTuple->KS,wpAny_newList->KU,wpAny_execs_nil->KW,swapsWithSole->KY,swappedStores->KZ,subscripted->LA,letOwnedTupleGo->LC,concat_meets->LD,call_meetsIn->LF,wpAny_updateSeq_pair->Br,wpAny_dictEntries->Bs,wpAny_Call_Name_kw->Bt,noFill_tuple_add->Bu
open PySem.W renaming Frag->aK,kia_one->lE,fnOf->vI,nsIn->yD,keepIn->CI,mg_of->LG,codeIn->LH,methodObj->Bv,lookIn->Bw,kitx_list->By,kitx_dict->Bz,kitOne->Ca,instObj->Cb
open Option renaming bind_some->bE,map_eq_some_iff->mJ,map_some->CL,map_eq_none_iff->CN,isSome_iff_exists->CO,none->LN,isSome_map->LO
open PySem.PyData renaming int->bF,eqv->bU,canLay0->cF,depthAll->cX,str->dB,tuple->dJ,bool->hV,eqvAll->mH,depth->mI,list->vK,canLayAll0->yF
open Nat renaming le_refl->bJ,le_trans->cM,zero_le->eA,ne_of_lt->eB,lt_of_lt_of_le->iV,lt_irrefl->mK,le_of_lt->nQ,ne_of_gt->pF,le_succ->yG,mul_le_mul->CP,lt_of_le_of_lt->CQ,pow_le_pow_right->LQ,le_of_eq->LS,add_assoc->LU
open List renaming mem_cons_of_mem->bM,mem_cons_self->bO,mem_map->cB,length_map->cD,mem_singleton->cP,range->cQ,getElem?_eq_some_iff->cR,mem_cons->cV,map_cons->cY,size_toArray->dW,map_map->dX,mem_append->eM,mem_of_getElem?->fC,mem_flatten->fI,length_cons->fJ,all_eq_true->fV,nodup_cons->gC,find?_cons->gD,getElem?_map->gJ,getElem?_eq_getElem->hX,toArray->iJ,map_append->iK,flatten_cons->iL,getElem?_set_ne->iO,getElem?_set_self->iW,append_nil->jJ,mem_filter->jR,filter_eq_self->kR,getElem_mem->lG,replicate->mL,mem_append_right->mM,nodup_append->nR,mem_range->nU,map_congr_left->nV,getD_eq_getElem?_getD->nW,take_length->pG,length_append->pH,foldl_cons->pI,mem_filterMap->qR,any_cons->qS,take_succ->sV,not_mem_nil->sW,length_filter_le->sX,getElem_of_mem->sY,eraseIdx_cons_succ->sZ,mem_flatMap->vL,any_eq_true->vM,zipWith->yH,length_zip->yI,length_take->yJ,length_range->yK,length_filterMap_le->yL,length_eq_zero_iff->yM,findSome?_cons->yN,cons_lt_cons_iff->yO,flatten_append->CS,find?_eq_none->CT,take_add_one->LX,of_mem_zip->LY,mem_append_left->LZ,length_set->MA,foldl_append->MB,filterMap_cons->MC,ext_getElem->MD,drop_length->ME,drop_eq_getElem_cons->MF,cons_append->MG,append_assoc->MH,zip_cons_cons->Ck,nodup_nil->Cp,ne_nil_of_mem->Cq,mem_of_mem_erase->Cr,mem_of_mem_drop->Cs,mem_of_find?_eq_some->Ct,mem_iff_getElem?->Cu,map_inj_left->Cv,map_drop->Cw,length_erase_of_mem->Cy,length_erase_le->Cz,forIn_cons->Da,flatten_nil->Dc,flatMap_cons->Dd,exists_mem_of_ne_nil->De,contains_iff_mem->Df,any_eq_false->Dg,pairwise_iff_getElem->Yy,getElem?_append_left->Yz,exists_of_findSome?_eq_some->Za,eraseIdxIfInBounds_toArray->Zb
open PySem.Heap renaming lt_size->bW,get?_push_of_some->bX,get?_push_size->dG,size_push->tD,get?_update_self->yP,SameBut->yR,get?_update_other->CU,ExtBut->CV,get?_push_ne->Di
open Or renaming inl->fG,inr->iU
open Option.some renaming inj->fH
open PySem.Value renaming ref->fR,none->fT,type->mG,str->sR,int->sS
open PySem.Obj renaming mapSeq->iI,data_mapFields->LP
open Bool renaming and_eq_true_iff->iM,eq_iff_iff->iP,false_ne_true->kE,false_eq_true->tH,true_and->yW,and_self->yX,and_eq_true->CY,eq_false_iff->MU
open PyProof.Rows renaming seqObj->iT,AllBare->qT,envOfC->yE,boot_dict->CK,slot_tuple_getitem->LB,callWith_type1->LL,boot_list->LM,slot_tuple_getitem->Ci,mulOk_of_bits->Yv,boot_tuple->Yw,boot_sorted->Yx
open Sum renaming inr->jH,inl->vH
open Ne renaming symm->jI
open PySem.NameKind renaming free->kQ
open PySem.Builtin.Int renaming intBits->lH
open True renaming intro->nN
open PySem.PassesOwn renaming never->nO
open PySem.Paired renaming length->nP
open Int renaming ofNat->nX,toNat_natCast->MJ,natCast_mul->MK,eq_ofNat_of_zero_le->Dh
open False renaming elim->pL
open PySem.F renaming plainAttrs_list->vJ,plainAttrs_dict->CJ,slot_dict_keyiterator_next->CW,type_list_append->LI,slot_list_append->LJ,slot_dict_setdefault->LK,slot_zip_next->ML,slot_tuple_iterator_next->MM,slot_tuple_hash->MN,slot_enumerate_next->MO,type_dict_setdefault->Cc,slot_tuple_add->Cd,slot_dict_get->Ce,entry_tuple_add->Cf,args_tuple_add_2->Cg,slot_list_getattribute->Dj,slot_list_index->Ys,slot_dict_update->Yt,args_dict_get_3->Yu,slot_dict_itemiterator_iter->Zd,entry_dict_keyiterator_next->Ze,args_dict_keyiterator_next_1->Zf
open PySem.Heap.SameBut renaming update->yQ
open ForInStep renaming yield->yT
open PySem.Builtin.Tuple renaming tupleHashOf->yU,tupleExact->MP,tupleItemsOf->Dm
open PySem.Builtin.SmallTypes renaming nextOf->yV,ownedTupleIsFree->MR,ownedTupleHandOut->Dn
open PySem.Around renaming under_plainId->yY
open Array.Perm renaming refl->CZ
open PySem.MeetsSeq renaming plain_index_loop->LV,EqGives->LW
open List.Sublist renaming refl->MI
open PySem.Builtin.Str renaming occurrences->MQ
open PySem.Builtin.Slice renaming slicePlaces->MS,sliceAdjust->Do
open PySem.Builtin.List renaming listExtendWith->MT
open PySem.PyData.tuple renaming inj->Cj
open PySem.Calls renaming spliced_cons->Dk,callWith_builtin->Dl
open Array renaming toList_inj->Dp,length_toList->Dq,getElem?_toList->Dr,getElem?_eq_getElem->Zh
open List.Nodup renaming length_le_of_subset->Zc
open Classical renaming byContradiction->Zg
theorem aj {α β:Type}{x:Option α}{f:α->Option β}{b:β}(h:x.bind f=some b) : ∃ a,x=some a/\f a=some b:=Option.bind_eq_some_iff.1 h
set_option Elab.async false
set_option compiler.extract_closed false
set_option bootstrap.genMatcherCode false
set_option genSizeOfSpec false
set_option linter.all false
set_option maxRecDepth 100000
set_option exponentiation.threshold 2000
noncomputable section
local macro_rules|`(())=>`(by lia)
local macro_rules|`(nofun)=>`(by decide)
set_option hygiene false in
local macro_rules|`(tactic|rw[0])=>`(tactic|decide +kernel)
set_option hygiene false in
local macro_rules
|`(tactic|rw[1])=>`(tactic|(
 intro X hP hw hK hc i ad s Z H E I hf st hg;subst hP hw hK))
|`(tactic|rw[2])=>`(tactic|(
 obtain⟨d,e,rfl⟩:=this;exact e))
|`(tactic|rw[3])=>`(tactic|intro ad s Z H x y v u Q I rx ry h)
|`(tactic|rw[4])=>`(tactic|obtain⟨B0,Y,fp,o,S,ef,k⟩:=gh)
|`(tactic|rw[5])=>`(tactic|obtain⟨P,Y,d,hP,rs,ef,k⟩:=gh)
|`(tactic|rw[6])=>`(tactic|intro ad s Z H xs us Q I r h)
|`(tactic|rw[7])=>`(tactic|refine dC rfl ?_)
|`(tactic|rw[8])=>`(tactic|intro ad s Z H Q I h)
|`(tactic|rw[9])=>`(tactic|sleep 0)
open Option renaming some->aa,none->ae
open Bool renaming true->af,false->ag
namespace L2
open PySem PySem.Spec PyProof.Rows
variable {h h' base:aU}{ks:List aA}{a b f C dx:aC}{xs:List (List aA×aC×aF)}{us:List aF}{x:aE}{u:aF}{o:bI}{t' i j ep:Nat}{ch fp:List aC}{e c tg:aQ}{M:Model}{A:cE}{E Q:aF->aI->Prop}{s' s:aI}{pos p:bH}{ad:List (aC×bI)}{K:aK}{es:List aQ}{body:List dU}{op:CmpOp}{mg:aE->Option aF}{fd:kC}{ps:List aE}{prog:bN}
instance decEqData:DecidableEq aA:=λa b=>Classical.propDecidable (a=b)
mutual
def bS:aA->Bool
 |.int _=>af
 |.str x=>cF (.str x)
 |.tuple ds=>bY ds
 |_=>ag
def bY:List aA->Bool
 |[]=>af
 |d::r=>bS d&&bY r
end
mutual
theorem HB:∀ d:aA,bS d=af->d.canLay0=af
 |.int _,_=>by simp[cF]
 |.str x,h=>by simpa [bS] using h
 |.tuple ds,h=>by
  simp only[cF];exact VI ds (by simpa [bS] using h)
 |.none,h=>by simp[bS] at h
 |.bool _,h=>by simp[bS] at h
 |.list _,h=>by simp[bS] at h
 |.dict _,h=>by simp[bS] at h
theorem VI:∀ ds:List aA,bY ds=af->yF ds=af
 |[],_=>by simp[yF]
 |d::r,h=>by
  have h':bS d=af/\bY r=af:=by simpa [bY] using h
  simp only[yF,HB d h'.1,VI r h'.2,yX]
end
mutual
theorem HM:∀ x y:aA,bS x=af->bS y=af->bU x y=decide (x=y)
 |.int i,.int j,_,_=>by
  by_cases e:i=j
  .subst e;simp[bU]
  .have:¬ bF i=.int j:=λq=>e (PyData.int.inj q)
   simp[bU,e]
 |.str i,.str j,_,_=>by
  by_cases e:i=j
  .subst e;simp[bU]
  .simp[bU,e]
 |.tuple xs,.tuple ys,h1,h2=>by
  have e:=xN xs ys (by simpa [bS] using h1) (by simpa [bS] using h2)
  simp only[bU,e]
  grind
 |.int _,.str _,_,_=>by simp[bU]
 |.int _,.tuple _,_,_=>by simp[bU]
 |.str _,.int _,_,_=>by simp[bU]
 |.str _,.tuple _,_,_=>by simp[bU]
 |.tuple _,.int _,_,_=>by simp[bU]
 |.tuple _,.str _,_,_=>by simp[bU]
 |.none,_,h,_=>by simp[bS] at h
 |.bool _,_,h,_=>by simp[bS] at h
 |.list _,_,h,_=>by simp[bS] at h
 |.dict _,_,h,_=>by simp[bS] at h
 |.int _,.none,_,h=>by simp[bS] at h
 |.int _,.bool _,_,h=>by simp[bS] at h
 |.int _,.list _,_,h=>by simp[bS] at h
 |.int _,.dict _,_,h=>by simp[bS] at h
 |.str _,.none,_,h=>by simp[bS] at h
 |.str _,.bool _,_,h=>by simp[bS] at h
 |.str _,.list _,_,h=>by simp[bS] at h
 |.str _,.dict _,_,h=>by simp[bS] at h
 |.tuple _,.none,_,h=>by simp[bS] at h
 |.tuple _,.bool _,_,h=>by simp[bS] at h
 |.tuple _,.list _,_,h=>by simp[bS] at h
 |.tuple _,.dict _,_,h=>by simp[bS] at h
theorem xN:∀ xs ys:List aA,bY xs=af->bY ys=af->mH xs ys=decide (xs=ys)
 |[],[],_,_=>by simp[mH]
 |[],_::_,_,_=>by simp[mH]
 |_::_,[],_,_=>by simp[mH]
 |x::xs,y::ys,h1,h2=>by
  have yf:bS x=af/\bY xs=af:=by simpa [bY] using h1
  have tq:bS y=af/\bY ys=af:=by simpa [bY] using h2
  simp only[mH,HM x y yf.1 tq.1,xN xs ys yf.2 tq.2]
  grind
end
mutual
def pS (w:bD):aA->Int
 |.int i=>hashInt i
 |.str x=>hashStr w x
 |.tuple ds=>reduceHash (yU (kH w ds))
 |_=>0
def kH (w:bD):List aA->List Int
 |[]=>[]
 |d::r=>pS w d::kH w r
end
mutual
def rF:aA->Nat
 |.tuple ds=>mU ds+1
 |_=>1
def mU:List aA->Nat
 |[]=>0
 |d::r=>rF d+mU r
end
theorem YK (a b:List aA):mU (a++b)=mU a+mU b:=by
 induction a with
 |nil=>simp[mU]
 |cons x r ih=>simp only[MG,mU,ih];lia
theorem YG (w:bD)(a b:List aA):kH w (a++b)=kH w a++kH w b:=by
 induction a with
 |nil=>rfl
 |cons x r ih=>simp only[MG,kH,ih]
section
variable {w:bD}
theorem uU{v:aF}{as:List aC}(r:pE h v (.tuple ks) as):∃ a o vs n,v=.ref a/\h.get? a=aa o/\o.cls=.type "tuple" /\ o.data=.seq vs n/\pD h vs.toList ks as:=by
 cases r with
 |tuple h1 h2 h3 h4=>exact⟨_,_,_,_,rfl,h1,h2,h3,h4⟩
mutual
theorem WM:∀ (d:aA) {A:cE} {E:aF->aI->Prop} {s:aI} {v:aF} {as:List aC} {Q:Int->aI->Prop},A.units+d.depth<cLine->bS d=af->pE s.heap v d as ->
  Q (pS w d) { s with toks:=s.toks+rF d }->aT (aX prog w) A (pyHash v) Q E s
 |.int i,A,E,s,v,as,Q,hu,hk,r,h=>by
  cases r with
  |int _ t=>exact wpAny_pyHash_int (by simpa [pS,rF] using h)
 |.str x,A,E,s,v,as,Q,hu,hk,r,h=>by
  cases r with
  |str _ t=>exact wpAny_pyHash_str (by simpa [pS,rF] using h)
 |.tuple ks,A,E,s,v,as,Q,hu,hk,r,h=>by
  obtain⟨a,o,ai,n,rfl,ho,hc,hd,hi⟩:=uU r;have hT:s.TypeIs (.ref a) "tuple":=⟨o,ho,hc⟩;have m5:A.units+(cX ks+1)<cLine:=by simpa [mI] using hu
  unfold pyHash
  first|unfold pyHashByItsType|skip
  first|refine aJ (wpAny_cRoomFor_or (.inr ()) ?_)|skip
  refine aJ (CC hT MN.lookup ?_);rw[if_neg (by rw[beq_builtin_none];exact kE)]
  refine aJ (CC hT MN.lookup ?_);refine aJ (wpAny_callSpecialIfBoundUnlessNone?_slot hT MN (jX MN hT F.entry_tuple_hash ?_ (F.args_tuple_hash_1 _)));show aT _ _ (Dm (.ref a)>>=_) _ _ s;refine aJ (wpAny_tupleItemsOf ho hd ?_);refine aJ ?_;rw[<-Array.forIn_toList];refine wpAny_forIn_list _
   (λrest (b:Array Int) s'=>∃ done left bs,ks=done++left/\pD s.heap rest left bs/\b.toList=kH w done/\s'={ s with toks:=s.toks+mU done })
   _ ?_ ?_ _ _ ⟨[],ks,as,rfl,hi,rfl,rfl⟩
  .rintro x rest b s' ⟨done,left,bs,e,hl,hb,rfl⟩;cases hl with
   |@cons _ _ d ds A9 tu h1 o5=>
    have hm:d∈ks:=by rw[e];exact mM _ bO
    have fq:bY ks=af:=by simpa [bS] using hk
    refine aJ (XG ks hm (by
     have:A.in1.units=A.units+1:=rfl
     lia) fq h1 ?_)
    first
     |exact bA ⟨done++[d],ds,tu,by simp[e],o5,by simp[hb,YG,kH],by simp[YK,mU,LU]⟩
     |exact aJ (bA (bA ⟨done++[d],ds,tu,by simp[e],o5,by simp[hb,YG,kH],by simp[YK,mU,LU]⟩))
  .rintro b s' ⟨done,left,bs,e,hl,hb,rfl⟩;cases hl;rw[jJ] at e;subst e;show aT _ _ (retInt (yU b.toList)) _ _ _;rw[hb];refine wpAny_ret_mkInt ?_;show aT _ _ (if (decide (-(2:Int)^63<=yU (kH w ks))&&decide (yU (kH w ks)<2^63))=af then _ else _) Q E _
   simp only[pS,rF] at h;unfold reduceHash at h;by_cases hr:(decide (-(2:Int)^63<=yU (kH w ks))&&decide (yU (kH w ks)<2^63))=af
   .rw[if_pos hr];rw[if_pos hr] at h;exact bA (by simpa [LU] using h)
   .rw[if_neg hr];rw[if_neg hr] at h;exact aJ (sN (bA (by simpa [LU] using h)))
 |.none,A,E,s,v,as,Q,hu,hk,r,h=>by simp[bS] at hk
 |.bool _,A,E,s,v,as,Q,hu,hk,r,h=>by simp[bS] at hk
 |.list _,A,E,s,v,as,Q,hu,hk,r,h=>by simp[bS] at hk
 |.dict _,A,E,s,v,as,Q,hu,hk,r,h=>by simp[bS] at hk
theorem XG:∀ (ks:List aA) {d:aA},d∈ks->∀ {A:cE} {E:aF->aI->Prop} {s:aI} {v:aF} {as:List aC} {Q:Int->aI->Prop},A.units+cX ks<cLine->bY ks=af->pE s.heap v d as ->
  Q (pS w d) { s with toks:=s.toks+rF d }->aT (aX prog w) A (pyHash v) Q E s
 |[],_,hm,_,_,_,_,_,_,_,_,_,_=>by simp at hm
 |k::ks,d,hm,A,E,s,v,as,Q,hu,hk,r,h=>by
  have fq:bS k=af/\bY ks=af:=by simpa [bY] using hk
  have m5:A.units+max k.depth (cX ks)<cLine:=by simpa [cX] using hu
  by_cases e:d=k
  .exact WM k () fq.1 (e ▸ r) (by rw[<-e];exact h)
  .have qc:d∈ks:=by
    grind
   exact XG ks qc () fq.2 r h
end
end
section
variable {w:bD}
mutual
theorem UH:∀ (d:aA) (n:Nat) {A:cE} {E:aF->aI->Prop} {s:aI} {v:aF} {as:List aC} {Q:Bool->aI->Prop},d.depth<=n->bS d=af->pE s.heap v d as ->
  Q af s->aT (aX prog w) A (eqIsQuiet n v) Q E s
 |.int i,n,A,E,s,v,as,Q,hu,hk,r,h=>by
  cases r with
  |int _ t=>
   rw[eqIsQuiet_byValue n (by rfl)]
   exact bA h
 |.str x,n,A,E,s,v,as,Q,hu,hk,r,h=>by
  cases r with
  |str _ t=>
   rw[eqIsQuiet_byValue n (by rfl)]
   exact bA h
 |.tuple ks,n,A,E,s,v,as,Q,hu,hk,r,h=>by
  obtain⟨a,o,ai,m,rfl,ho,hc,hd,hi⟩:=uU r;have hT:s.TypeIs (.ref a) "tuple":=⟨o,ho,hc⟩;have m5:cX ks+1<=n:=by simpa [mI] using hu
  obtain⟨n,rfl⟩:∃ m,n=m+1:=⟨n-1,by omega⟩
  have fq:bY ks=af:=by simpa [bS] using hk
  unfold eqIsQuiet;refine aJ (CC hT F.slot_tuple_eq.lookup ?_);refine aJ (CF hT isSubtype_tuple_tuple ?_);simp only[Bool.not_true,tH,if_false];refine aJ (mE ho hd ?_);refine aJ ?_;rw[<-Array.forIn_toList];refine wpAny_forIn_list _ (λrest r s'=>r.1=ae/\s'=s/\∃ ds bs,pD s.heap rest ds bs/\∀ d∈ds,d∈ks) _ ?_ ?_ _ _ ⟨rfl,rfl,ks,as,hi,λ_ h=>h⟩
  .rintro v rest r s' ⟨hr,rfl,ds,bs,hl,gk⟩;cases hl with
   |@cons _ _ d ds A9 tu h1 o5=>
    refine aJ (VW ks (gk d bO) n (by omega) fq h1 ?_)
    simp only[Bool.not_true,tH,if_false];exact bA ⟨rfl,rfl,ds,tu,o5,λu BT=>gk u (bM _ BT)⟩
  .rintro⟨r1,r2⟩ s' ⟨hr,rfl,_⟩;simp only at hr;subst hr;exact bA h
 |.none,n,A,E,s,v,as,Q,hu,hk,r,h=>by simp[bS] at hk
 |.bool _,n,A,E,s,v,as,Q,hu,hk,r,h=>by simp[bS] at hk
 |.list _,n,A,E,s,v,as,Q,hu,hk,r,h=>by simp[bS] at hk
 |.dict _,n,A,E,s,v,as,Q,hu,hk,r,h=>by simp[bS] at hk
theorem VW:∀ (ks:List aA) {d:aA},d∈ks->∀ (n:Nat) {A:cE} {E:aF->aI->Prop} {s:aI} {v:aF} {as:List aC} {Q:Bool->aI->Prop},cX ks<=n->bY ks=af->pE s.heap v d as ->
  Q af s->aT (aX prog w) A (eqIsQuiet n v) Q E s
 |[],_,hm,_,_,_,_,_,_,_,_,_,_,_=>by simp at hm
 |k::ks,d,hm,n,A,E,s,v,as,Q,hu,hk,r,h=>by
  have fq:bS k=af/\bY ks=af:=by simpa [bY] using hk
  have m5:max k.depth (cX ks)<=n:=by simpa [cX] using hu
  by_cases e:d=k
  .exact UH k n (by omega) fq.1 (e ▸ r) h
  .have qc:d∈ks:=by
    grind
   exact VW ks qc n (by omega) fq.2 r h
end
mutual
theorem WG(kp:∀ b o vs n,h.get? b=aa o->o.cls=.type "tuple" -> o.data=.seq vs n->h'.get? b=aa o):∀ (d:aA) {v:aF} {as:List aC},bS d=af->pE h v d as->pE h' v d as
 |.int i,v,as,hk,r=>by
  cases r with
  |int _ t=>exact .int i t
 |.str x,v,as,hk,r=>by
  cases r with
  |str _ t=>exact .str x t
 |.tuple ks,v,as,hk,r=>by
  obtain⟨a,o,ai,m,rfl,ho,hc,hd,hi⟩:=uU r;exact .tuple (kp _ _ _ _ ho hc hd) hc hd (YH kp ks (by simpa [bS] using hk) hi)
 |.none,v,as,hk,r=>by simp[bS] at hk
 |.bool _,v,as,hk,r=>by simp[bS] at hk
 |.list _,v,as,hk,r=>by simp[bS] at hk
 |.dict _,v,as,hk,r=>by simp[bS] at hk
theorem YH(kp:∀ b o vs n,h.get? b=aa o->o.cls=.type "tuple" -> o.data=.seq vs n->h'.get? b=aa o):∀ (ds:List aA) {vs:List aF} {as:List aC},bY ds=af->pD h vs ds as->pD h' vs ds as
 |[],vs,as,hk,r=>by
  cases r with
  |nil=>exact .nil
 |d::ds,vs,as,hk,r=>by
  have fq:bS d=af/\bY ds=af:=by simpa [bY] using hk
  cases r with
  |cons r1 r2=>exact .cons (WG kp d fq.1 r1) (YH kp ds fq.2 r2)
end
def Aeu (h:aU)(ks:List aA)(a:aC):Prop:=bY ks=af/\cX ks<=6/\∃ as,pE h (.ref a) (.tuple ks) as
theorem Aeu.keep(kp:∀ b o vs n,h.get? b=aa o->o.cls=.type "tuple" -> o.data=.seq vs n->h'.get? b=aa o)(k:Aeu h ks a):Aeu h' ks a:=
 ⟨k.1,k.2.1,k.2.2.choose,WG kp (.tuple ks) (by simpa [bS] using k.1) k.2.2.choose_spec⟩
def kN (prog:bN)(w:bD):HeapKind prog w (List aA) where
 is:=Aeu
 hash:=λks=>pS w (.tuple ks)
 draws:=λks=>rF (.tuple ks)
 room:=λA=>A.units+20<cLine
 inj:=λ{h a x y} hx hy=>by
  obtain⟨k1,_,as,r1⟩:=hx;obtain⟨k2,_,bs,r2⟩:=hy;exact Cj (reads_det (λ_ _ e _=>e) r2 r1).1
 keeps:=λ{h h' k a d o es ep} x ho hd hs=>x.keep λb ob vs n hb _ m6=>by
  have gu:b≠d:=by
   rintro rfl;rw[ho] at hb;cases hb;rw[hd] at m6;cases m6
  exact(hs.2 b gu).trans hb
 pyHash:=λ{A E s k a Q} hu hk h=>by
  obtain⟨k1,k2,as,r⟩:=hk;exact WM (.tuple k) (by simp only[mI];omega) (by simpa [bS] using k1) r h
 eqBool:=λ{A E s x y a b Q} hu hx hy h=>by
  obtain⟨k1,d1,as,r1⟩:=hx;obtain⟨k2,d2,bs,r2⟩:=hy;have e:=HM (.tuple x) (.tuple y) (by simpa [bS] using k1) (by simpa [bS] using k2)
  have e2:decide ((dJ x)=.tuple y)=decide (x=y):=by
   by_cases q:x=y
   .subst q;simp
   .rw[decide_eq_false q,decide_eq_false (λz=>q (Cj z))]
  have:=SeqAt.eqAt_reads (.tuple x) (.tuple y) A s (.ref a) (.ref b) as bs r1 r2 (HB _ (by simpa [bS] using k1)) (HB _ (by simpa [bS] using k2)) (by simp only[mI];omega)
  rw[e,e2] at this;exact this prog w E Q h
 quiet:=λ{A E s k a Q} hk h=>by
  obtain⟨k1,k2,as,r⟩:=hk;exact UH (.tuple k) 8 (by simp only[mI];omega) (by simpa [bS] using k1) r h
end
abbrev aG:=Sum Int aE
def tY:aG->aF->Bool
 |.inl k,v=>Value.isInt k v
 |.inr x,v=>Value.isStrOf x v
def Dz (w:bD):aG->Int
 |.inl k=>hashInt k
 |.inr x=>hashStr w x
theorem mD:∀ {k:aG} {v:aF},tY k v=af->(∃ i t,k=vH i/\v=sS i t)\/(∃ x t,k=jH x/\v=sR x t)
 |.inl i,v,h=>by
  obtain⟨t,e⟩:=Value.isInt_shape (k:=i) (v:=v) h
  grind
 |.inr x,v,h=>by
  obtain⟨t,e⟩:=Value.isStrOf_shape (x:=x) (v:=v) h
  grind
theorem Xy (i:Int)(t:Tok):tY (.inl i) (.int i t)=af:=by simp[tY,Value.isInt]
theorem Xx (x:aE)(t:Tok):tY (.inr x) (.str x t)=af:=by simp[tY,Value.isStrOf]
theorem Ik (a b:Int):decide ((vH a:aG)=vH b)=(a==b):=by
 grind
theorem Hx (a b:aE):decide ((jH a:aG)=jH b)=decide (a=b):=by
 grind
theorem Jl (a:Int)(b:aE):decide ((vH a:aG)=jH b)=ag:=decide_eq_false (λq=>nomatch q)
theorem Kh (a:aE)(b:Int):decide ((jH a:aG)=vH b)=ag:=decide_eq_false (λq=>nomatch q)
def fF (prog:bN)(w:bD):PySem.KeyKind prog w aG where
 is:=tY
 hash:=Dz w
 inj:=λv a b ha hb=>by
  rcases mD ha with⟨i,t,rfl,rfl⟩|⟨x,t,rfl,rfl⟩
  .rcases mD hb with⟨j,u,rfl,e⟩|⟨y,u,rfl,e⟩
   .injection e with e1 _;rw[e1]
   .exact nomatch e
  .rcases mD hb with⟨j,u,rfl,e⟩|⟨y,u,rfl,e⟩
   .exact nomatch e
   .injection e with e1 _;rw[e1]
 byValue:=λk v h=>by
  rcases mD h with⟨i,t,rfl,rfl⟩|⟨x,t,rfl,rfl⟩<;>rfl
 pyHash:=λhv h=>by
  rcases mD hv with⟨i,t,rfl,rfl⟩|⟨x,t,rfl,rfl⟩
  .exact wpAny_pyHash_int h
  .exact wpAny_pyHash_str h
 eqBool:=λhu hv h=>by
  rcases mD hu with⟨i,t,rfl,rfl⟩|⟨x,t,rfl,rfl⟩
  .rcases mD hv with⟨j,u,rfl,rfl⟩|⟨y,u,rfl,rfl⟩
   .rw[Ik] at h;exact wpAny_eqBool_int h
   .rw[Jl] at h;exact SeqAt.EqAt.int_str i t y u _ _ _ _ h
  .rcases mD hv with⟨j,u,rfl,rfl⟩|⟨y,u,rfl,rfl⟩
   .rw[Kh] at h;exact SeqAt.EqAt.str_int x t j u _ _ _ _ h
   .rw[Hx] at h;exact wpAny_eqBool_str h
 «strs»:=λk x t v h=>by
  rcases mD h with⟨i,u,rfl,e⟩|⟨y,u,rfl,e⟩
  .exact nomatch e
  .injection e with e1 _;subst e1;cases v<;>rfl
theorem JD (prog:bN)(w:bD)(i:Int)(t:Tok):(fF prog w).is (.inl i) (.int i t)=af:=Xy i t
theorem JE (prog:bN)(w:bD)(x:aE)(t:Tok):(fF prog w).is (.inr x) (.str x t)=af:=Xx x t
inductive V where
 |non|bl (b:Bool)|int (i:Int)|str (x:aE)|byt (b:Array UInt8)|flt (b:UInt64)|ref (a:aC)|ty (n:String)
 deriving DecidableEq
def RelV:V->aF->Prop
 |.non,u=>u=fT
 |.bl b,u=>u=Value.bool b
 |.int i,u=>∃ t,u=sS i t
 |.str x,u=>∃ t,u=sR x t
 |.byt b,u=>∃ t,u=Value.bytes b t
 |.flt b,u=>∃ t,u=Value.float b t
 |.ref a,u=>u=fR a
 |.ty n,u=>u=mG n
abbrev Vals:List V->List aF->Prop:=dM RelV
theorem Vals.length {xs:List V}(r:Vals xs us):xs.length=us.length:=nP r
theorem Vals.get:∀ {xs:List V} {us:List aF} {i:Nat} {x:V},Vals xs us->xs[i]?=aa x->∃ u,us[i]?=aa u/\RelV x u
 |_,_,_,_,.nil,e=>by simp at e
 |_,_,0,_,.cons r _,e=>by simp at e;subst e;exact⟨_,rfl,r⟩
 |_,_,i+1,x,.cons _ t,e=>by
  obtain⟨u,h1,h2⟩:=Vals.get (i:=i) (x:=x) t (by simpa using e)
  grind
theorem Vals.set {x:V}(r:RelV x u):∀ {xs:List V} {us:List aF} (i:Nat),Vals xs us->Vals (xs.set i x) (us.set i u)
 |_,_,_,.nil=>.nil
 |_,_,0,.cons _ t=>.cons r t
 |_,_,i+1,.cons q t=>.cons q (Vals.set r i t)
theorem Vals.append:∀ {xs ys:List V} {us ws:List aF},Vals xs us->Vals ys ws->Vals (xs++ys) (us++ws)
 |_,_,_,_,.nil,s=>s
 |_,_,_,_,.cons r t,s=>.cons r (Vals.append t s)
theorem Vals.take:∀ {xs:List V} {us:List aF} (n:Nat),Vals xs us->Vals (xs.take n) (us.take n)
 |_,_,0,_=>.nil
 |_,_,_+1,.nil=>.nil
 |_,_,n+1,.cons r t=>.cons r (Vals.take n t)
theorem Vals.drop:∀ {xs:List V} {us:List aF} (n:Nat),Vals xs us->Vals (xs.drop n) (us.drop n)
 |_,_,0,r=>r
 |_,_,_+1,.nil=>.nil
 |_,_,n+1,.cons _ t=>Vals.drop n t
theorem Vals.none_of:∀ {xs:List V} {us:List aF} {i:Nat},Vals xs us->xs[i]?=ae->us[i]?=ae:=λ{xs us i} r e=>by
 have h1:=r.length
 grind
def Arj:Option V->Option aF->Prop
 |some v,aa u=>RelV v u
 |none,ae=>True
 |_,_=>False
def KV {κ:Type}:List (κ×V)->List (κ×aF)->Prop:=dM λ(p:κ×V) (q:κ×aF)=>p.1=q.1/\RelV p.2 q.2
def kV:aG->V
 |.inl i=>.int i
 |.inr x=>.str x
inductive HO where
 |lst (xs:List V)
 |tup (xs:List V)
 |dK (ep:Nat) (kvs:List (aG×V))|dT (ep:Nat) (kvs:List (List aA×V))
 |set (S:Int->Bool) (n:Nat)
 |ins (C dx:aC) (fs:List (aE×V))
 |own (x:aC)
 |xd (fs:List (aE×V))
 |met (f x:aC)
 |rng (lo hi:Int)
 |frz (o:bI) (u:HO)
 |tbl (ps:Array aF)
 |ext (φ:aU->Prop)
abbrev Hp:=aC->Option HO
def upd (H:Hp)(a:aC)(o:HO):Hp:=λb=>if b=a then aa o else H b
theorem cN {H:Hp}{o:HO}:upd H a o a=aa o:=by unfold upd;rw[if_pos rfl]
theorem bP {H:Hp}{o:HO}(h:b≠a):upd H a o b=H b:=by unfold upd;rw[if_neg h]
theorem Fj {H:Hp}{o u:HO}(h:H a=aa o)(h':H b=aa u)(d:o≠u):a≠b:=by
 grind
theorem gQ {H:Hp}{o:HO}(h:H a=aa o)(h':H b=ae):a≠b:=by
 intro e;subst e;rw[h] at h';cases h'
mutual
def Aiu (H:Hp):aA->V->Prop
 |.int i,v=>v=.int i
 |.str x,v=>v=.str x
 |.tuple ds,v=>∃ a xs,v=.ref a/\H a=aa (.tup xs)/\Agc H ds xs
 |_,_=>False
def Agc (H:Hp):List aA->List V->Prop
 |[],vs=>vs=[]
 |d::r,vs=>∃ x rr,vs=x::rr/\Aiu H d x/\Agc H r rr
end
mutual
theorem Aiu.keep {H H':Hp}(ht:∀ b xs,H b=aa (.tup xs)->H' b=aa (.tup xs)):∀ {d:aA} {v:V},Aiu H d v->Aiu H' d v
 |.int _,_,k=>by simpa [Aiu] using k
 |.str _,_,k=>by simpa [Aiu] using k
 |.tuple ds,_,k=>by
  simp only[Aiu] at k ⊢;obtain⟨a,xs,e,h,ks⟩:=k;exact⟨a,xs,e,ht _ _ h,Agc.keep ht ks⟩
 |.none,_,k=>by simp[Aiu] at k
 |.bool _,_,k=>by simp[Aiu] at k
 |.list _,_,k=>by simp[Aiu] at k
 |.dict _,_,k=>by simp[Aiu] at k
theorem Agc.keep {H H':Hp}(ht:∀ b xs,H b=aa (.tup xs)->H' b=aa (.tup xs)):∀ {ds:List aA} {vs:List V},Agc H ds vs->Agc H' ds vs
 |[],_,k=>by simpa [Agc] using k
 |d::ds,_,k=>by
  simp only[Agc] at k ⊢;obtain⟨x,r,e,k1,k2⟩:=k;exact⟨x,r,e,Aiu.keep ht k1,Agc.keep ht k2⟩
end
def Anx (H:Hp)(ks:List aA)(a:aC):Prop:=bY ks=af/\cX ks<=6/\∃ xs,H a=aa (.tup xs)/\Agc H ks xs
theorem Anx.keep {H H':Hp}(k:Anx H ks a)(ht:∀ b xs,H b=aa (.tup xs)->H' b=aa (.tup xs)):Anx H' ks a:=
 ⟨k.1,k.2.1,k.2.2.choose,ht _ _ k.2.2.choose_spec.1,k.2.2.choose_spec.2.keep ht⟩
def A4w (h:aU)(a:aC)(its:Array aF):Prop:=IsTup h a its/\∃ o,h.get? a=aa o/\o.dict=ae
theorem A4w.new (h:aU)(its:Array aF):A4w (h.push { cls:=.type "tuple",data:=.seq its }) h.objs.size its:=⟨IsTup.new _ _,_,dG _ rfl,rfl⟩
section
variable (P:bN)(w:bD)
def Acu (H:Hp)(h:aU)(a:aC):HO->Prop
 |.lst xs=>xs.length<=sizeLine/\∃ (its:List aF) (n:Nat),Vals xs its/\h.get? a=aa { cls:=.type "list",data:=.seq its.toArray n }
 |.tup xs=>xs.length<=sizeLine/\∃ its:List aF,Vals xs its/\A4w h a its.toArray
 |.dK ep kvs=>kvs.length<=sizeLine/\(a==jE)=ag/\∃ vs,KV kvs vs/\h.DictAt (fF P w) a vs ep
 |.dT ep kvs=>kvs.length<=sizeLine/\(a==jE)=ag/\∃ xs:List (List aA×aC×aF),
   dM (λ(p:List aA×V) (q:List aA×aC×aF)=>p.1=q.1/\Anx H p.1 q.2.1/\RelV p.2 q.2.2) kvs xs /\
   ∃ o es,h.get? a=aa o/\o.ExactDict/\o.data=.dict es ep/\es.toList=xs.map (entryOfKey (kN P w))/\(xs.map (·.1)).Nodup
 |.set S n=>h.SetOf (intKind P w) a S n
 |.ins C dx fs=>H dx=aa (.own a)/\fs.length<=1000/\dx≠a/\h.get? a=aa (Cb C dx) /\
   ∃ mA,h.Ns1 dx mA/\(∀ f,Arj (fs.lookup f) (mA f))/\PySem.Within mA (fs.map (·.1))
 |.own _=>∃ o,h.get? a=aa o
 |.xd fs=>∃ mA,h.Ns1 a mA/\∀ f,Arj (fs.lookup f) (mA f)
 |.rng lo hi=>∃ t u v,h.get? a=aa { cls:=.type "range",data:=.fields #[.int lo t,.int hi u,.int 1 v] }
 |.frz o u=>h.get? a=aa o/\Acu H h a u
 |.tbl ps=>h.get? a=aa { cls:=.none,data:=.fields ps }
 |.met f x=>h.get? a=aa (Bv (.ref f) (.ref x))
 |.ext φ=>φ h/\(∃ o,h.get? a=aa o)/\∀ h1 h2:aU,φ h1->(∀ o,h1.get? a=aa o->h2.get? a=aa o)->φ h2
def HOk (H:Hp)(h:aU):Prop:=∀ a o,H a=aa o->Acu P w H h a o
end
section
variable {P:bN}{w:bD}{H H':Hp}{o:HO}
theorem Acu.lt (x:Acu P w H h a o):a<h.objs.size:=by
 cases o with
 |lst xs=>obtain⟨_,_,_,_,e⟩:=x;exact bW e
 |tup xs=>obtain⟨_,_,_,p⟩:=x;exact p.1.lt
 |dK ep kvs=>obtain⟨_,_,_,_,o,_,e,_⟩:=x;exact bW e
 |dT ep kvs=>obtain⟨_,_,_,_,o,_,e,_⟩:=x;exact bW e
 |set S n=>obtain⟨o,_,_,_,e,_⟩:=x;exact bW e
 |ins C dx fs=>obtain⟨_,_,_,e,_⟩:=x;exact bW e
 |own y=>obtain⟨_,e⟩:=x;exact bW e
 |xd fs=>obtain⟨_,⟨_,_,_,e,_⟩,_⟩:=x;exact bW e
 |rng lo hi=>obtain⟨_,_,_,e⟩:=x;exact bW e
 |frz ob u=>obtain⟨e,_⟩:=x;exact bW e
 |tbl ps=>exact bW (show h.get? a=aa _ from x)
 |met f y=>exact bW (show h.get? a=aa _ from x)
 |ext φ=>obtain⟨_,⟨_,e⟩,_⟩:=x;exact bW e
theorem Paired.mapP {α β:Type}{F G:α->β->Prop}:∀ {l₁:List α} {l₂:List β},dM F l₁ l₂->(∀ a b,F a b->G a b)->dM G l₁ l₂:=by
 intro l₁ l₂ h;induction h with
 |nil=>exact λ_=>.nil
 |cons r _ ih=>exact λf=>.cons (f _ _ r) (ih f)
theorem Paired.imp' {α β:Type}{F G:α->β->Prop}(f:∀ a b,F a b->G a b){l₁:List α}{l₂:List β}(r:dM F l₁ l₂):dM G l₁ l₂:=Paired.mapP r f
theorem Acu.stay (x:Acu P w H h a o)(k:∀ b u,(b=a\/H b=aa (.own a))->h.get? b=aa u->h'.get? b=aa u)
  (ho:∀ b,H b=aa (.own a)->H' b=aa (.own a)) (ht:∀ b xs,H b=aa (.tup xs)->H' b=aa (.tup xs)):Acu P w H' h' a o:=by
 induction o with
 |lst xs=>obtain⟨z,its,n,r,e⟩:=x;exact⟨z,its,n,r,k _ _ (.inl rfl) e⟩
 |tup xs=>obtain⟨z,its,r,⟨ob,e,c⟩,B2,e2,c2⟩:=x;exact⟨z,its,r,⟨ob,k _ _ (.inl rfl) e,c⟩,B2,k _ _ (.inl rfl) e2,c2⟩
 |dK ep kvs=>obtain⟨z,y,vs,r,ob,es,e,c⟩:=x;exact⟨z,y,vs,r,ob,es,k _ _ (.inl rfl) e,c⟩
 |dT ep kvs=>
  obtain⟨z,y,xs,r,ob,es,e,c⟩:=x;exact⟨z,y,xs,Paired.mapP r λp q z=>⟨z.1,z.2.1.keep ht,z.2.2⟩,ob,es,k _ _ (.inl rfl) e,c⟩
 |set S n=>obtain⟨ob,es,ep,t,e,c⟩:=x;exact⟨ob,es,ep,t,k _ _ (.inl rfl) e,c⟩
 |ins C dx fs=>
  obtain⟨d,z,ne,e,mA,⟨od,es,ep,e2,c⟩,r⟩:=x;exact⟨ho _ d,z,ne,k _ _ (.inl rfl) e,mA,⟨od,es,ep,k _ _ (.inr d) e2,c⟩,r⟩
 |own y=>obtain⟨ob,e⟩:=x;exact⟨ob,k _ _ (.inl rfl) e⟩
 |xd fs=>obtain⟨mA,⟨od,es,ep,e,c⟩,r⟩:=x;exact⟨mA,⟨od,es,ep,k _ _ (.inl rfl) e,c⟩,r⟩
 |rng lo hi=>obtain⟨t,u,v,e⟩:=x;exact⟨t,u,v,k _ _ (.inl rfl) e⟩
 |frz ob u ih=>obtain⟨e,q⟩:=x;exact⟨k _ _ (.inl rfl) e,ih q⟩
 |tbl ps=>
  have e:h.get? a=aa { cls:=.none,data:=.fields ps }:=x;show h'.get? a=aa { cls:=.none,data:=.fields ps };exact k a _ (.inl rfl) e
 |met f y=>
  have e:h.get? a=aa (Bv (.ref f) (.ref y)):=x;show h'.get? a=aa (Bv (.ref f) (.ref y));exact k a _ (.inl rfl) e
 |ext φ=>obtain⟨p,⟨o,e⟩,st⟩:=x;exact⟨st _ _ p λo q=>k _ _ (.inl rfl) q,⟨o,k _ _ (.inl rfl) e⟩,st⟩
theorem HOk.lt (x:HOk P w H h)(e:H a=aa o):a<h.objs.size:=(x a o e).lt
theorem HOk.fresh (x:HOk P w H h)(e:h.objs.size<=a):H a=ae:=by
 cases q:H a with
 |none=>rfl
 |some u=>exact absurd (iV (x.lt q) e) (mK _)
theorem HOk.kept (x:HOk P w H h)(k:∀ b u,h.get? b=aa u->h'.get? b=aa u):HOk P w H h':=λa o e=>
 (x a o e).stay (λb u _ q=>k b u q) (λ_ q=>q) λ_ _ q=>q
theorem HOk.laid (x:HOk P w H h)(k:∀ b u,h.get? b=aa u->h'.get? b=aa u)(hp:h.objs.size<=a)(new:Acu P w (upd H a o) h' a o):HOk P w (upd H a o) h':=λb u e=>by
 have hn:=x.fresh hp;by_cases hb:b=a
 .subst hb;rw[cN] at e;cases e;exact new
 .rw[bP hb] at e;exact(x b u e).stay (λc v _ q=>k c v q) (λc q=>by rw[bP (gQ q hn)];exact q) λc xs q=>by rw[bP (gQ q hn)];exact q
end
def Rd (H:Hp)(a:aC)(u:HO):Prop:=H a=aa u\/∃ o,H a=aa (.frz o u)
theorem Rd.ok {P:bN}{w:bD}{H:Hp}{u:HO}(r:Rd H a u)(x:HOk P w H h):Acu P w H h a u:=by
 rcases r with r|⟨o,r⟩
 .exact x a u r
 .obtain⟨_,q⟩:=x a _ r;exact q
def vO:Option HO->Prop
 |some (.lst _)=>True
 |some (.dK _ _)=>True
 |some (.dT _ _)=>True
 |some (.set _ _)=>True
 |some (.ins _ _ _)=>True
 |some (.ext _)=>True
 |_=>False
section
variable {P:bN}{w:bD}{H:Hp}{x e:aC}{o':HO}
theorem HOk.write (ok:HOk P w H h)(mu:vO (H x))(he:e=x\/H e=aa (.own x))(k:∀ b u,b≠e->h.get? b=aa u->h'.get? b=aa u)(qd:∃ u,h'.get? e=aa u)
  (new:Acu P w (upd H x o') h' x o'):HOk P w (upd H x o') h':=λb u q=>by
 have u5:∀ c y,H c=aa (.own y)->c≠x:=λc y r z=>by subst z;rw[r] at mu;exact mu
 have u6:∀ c xs,H c=aa (.tup xs)->c≠x:=λc xs r z=>by subst z;rw[r] at mu;exact mu
 by_cases hb:b=x
 .subst hb;rw[cN] at q;cases q;exact new
 .rw[bP hb] at q;by_cases B3:b=e
  .have q':H b=aa (.own x):=by
    grind
   rw[q] at q';cases q';obtain⟨v,hv⟩:=qd;exact⟨v,by rw[B3];exact hv⟩
  .refine(ok b u q).stay (λc v hc r=>k c v ?_ r) (λc r=>by rw[bP (u5 c b r)];exact r) λc xs r=>by rw[bP (u6 c xs r)];exact r
   grind
end
structure Un (fs ex:List aC)(H H':Hp)(h h':aU):Prop where
 keep:∀ b o,h.get? b=aa o->H b=ae->b∉fs->b∉ex->h'.get? b=aa o
 slot:∀ b o,h.get? b=aa o->H b=ae->b∈fs->b∉ex->∃ sl,h'.get? b=aa { o with slots:=sl }
 free:∀ b o,h.get? b=aa o->H b=ae->b∉ex->H' b=ae
 there:∀ b o,h.get? b=aa o->b∉ex->∃ o',h'.get? b=aa o'
 tups:∀ b xs,H b=aa (.tup xs)->H' b=aa (.tup xs)
 frzs:∀ b o u,H b=aa (.frz o u)->H' b=aa (.frz o u)
 tbls:∀ b ps,H b=aa (.tbl ps)->∃ more,H' b=aa (.tbl (ps++more))
section
variable {fs u7 ex yg:List aC}{H H1 H2:Hp}{h1 h2:aU}{x e:aC}{o:HO}
theorem Un.any (u:Un fs ex H H1 h h1){ob:bI}(q:h.get? b=aa ob)(n:H b=ae)(hx:b∉ex):∃ sl,h1.get? b=aa { ob with slots:=sl }:=by
 by_cases hb:b∈fs
 .exact u.slot b ob q n hb hx
 .exact⟨ob.slots,u.keep b ob q n hb hx⟩
theorem Un.trans (a:Un fs ex H H1 h h1)(b:Un fs ex H1 H2 h1 h2):Un fs ex H H2 h h2 where
 keep:=λc ob q n hc hx=>b.keep c ob (a.keep c ob q n hc hx) (a.free c ob q n hx) hc hx
 slot:=λc ob q n hc hx=>by
  obtain⟨sl,e1⟩:=a.slot c ob q n hc hx;obtain⟨u8,e2⟩:=b.slot c _ e1 (a.free c ob q n hx) hc hx;exact⟨u8,e2⟩
 free:=λc ob q n hx=>by
  obtain⟨o',e1⟩:=a.there c ob q hx;exact b.free c o' e1 (a.free c ob q n hx) hx
 there:=λc ob q hx=>by
  obtain⟨o',e1⟩:=a.there c ob q hx;exact b.there c o' e1 hx
 tups:=λc xs q=>b.tups c xs (a.tups c xs q)
 frzs:=λc ob xs q=>b.frzs c ob xs (a.frzs c ob xs q)
 tbls:=λc ps q=>by
  obtain⟨m1,e1⟩:=a.tbls c ps q;obtain⟨m2,e2⟩:=b.tbls c _ e1
  grind
theorem Un.kept (k:∀ b u,h.get? b=aa u->h'.get? b=aa u):Un fs ex H H h h':=
 ⟨λb ob q _ _ _=>k b ob q,λb ob q _ _ _=>⟨ob.slots,k b ob q⟩,λ_ _ _ n _=>n,λb ob q _=>⟨ob,k b ob q⟩,λ_ _ q=>q,λ_ _ _ q=>q,λ_ ps q=>⟨#[],by rw[q];simp⟩⟩
theorem Un.refl:Un fs ex H H h h:=Un.kept λ_ _ q=>q
theorem Un.laid (k:∀ b u,h.get? b=aa u->h'.get? b=aa u)(hp:h.objs.size<=a)(hn:H a=ae):Un fs ex H (upd H a o) h h' where
 keep:=λb u q _ _ _=>k b u q
 slot:=λb u q _ _ _=>⟨u.slots,k b u q⟩
 free:=λb u q n _=>by rw[bP (eB (iV (bW q) hp))];exact n
 there:=λb u q _=>⟨u,k b u q⟩
 tups:=λb xs q=>by rw[bP (gQ q hn)];exact q
 frzs:=λb u xs q=>by rw[bP (gQ q hn)];exact q
 tbls:=λb ps q=>⟨#[],by rw[bP (gQ q hn),q];simp⟩
theorem Un.write (mu:vO (H x))(he:e=x\/H e=aa (.own x))(k:∀ b u,b≠e->h.get? b=aa u->h'.get? b=aa u)(qd:∃ u,h'.get? e=aa u):Un fs ex H (upd H x o) h h':=by
 have hx:∀ b,H b=ae->b≠x:=λb n z=>by subst z;rw[n] at mu;exact mu
 have hb:∀ b,H b=ae->b≠e:=λb n z=>by
  grind
 have hm:∀ b u,H b=aa u->¬ vO (aa u)->b≠x:=λb u q nm z=>by subst z;rw[q] at mu;exact nm mu
 refine⟨λb u q n _ _=>k b u (hb b n) q,λb u q n _ _=>⟨u.slots,k b u (hb b n) q⟩,λb u q n _=>by rw[bP (hx b n)];exact n,λb u q _=>?_,
  λb xs q=>by rw[bP (hm b _ q λz=>z)];exact q,λb u xs q=>by rw[bP (hm b _ q λz=>z)];exact q,λb ps q=>⟨#[],by rw[bP (hm b _ q λz=>z),q];simp⟩⟩
 grind
theorem Un.mono (u:Un fs ex H H1 h h1)(hs:∀ b∈fs,b∈u7)(hx:∀ b∈ex,b∈yg):Un u7 yg H H1 h h1:=
 ⟨λb ob q n hb he=>u.keep b ob q n (λz=>hb (hs b z)) λz=>he (hx b z),λ_ _ q n _ he=>u.any q n λz=>he (hx _ z),λb ob q n he=>u.free b ob q n λz=>he (hx b z),λb ob q he=>u.there b ob q λz=>he (hx b z),u.tups,u.frzs,u.tbls⟩
end
def u4 (h:aU)(H:Hp):List aC:=(cQ h.objs.size).filter λa=>(H a).isSome
def oU (h:aU)(H:Hp):aU:=PySem.W.hideAll h (u4 h H)
theorem Nk (h:aU)(H:Hp):(oU h H).objs.size=h.objs.size:=PySem.W.hideAll_size _ _
theorem Wp{H:Hp}(e:h.get? b=aa o)(n:H b=ae):(oU h H).get? b=aa o:=
 PySem.W.hideAll_get _ e λhm=>by
  have q:(H b).isSome=af:=(jR.1 hm).2;rw[n] at q;simp at q
theorem Mz{H:Hp}(e:(oU h H).get? b=aa o):h.get? b=aa o/\H b=ae:=by
 have e':h.get? b=aa o:=PySem.W.of_hideAll (u4 h H) e;refine⟨e',?_⟩;cases q:H b with
 |none=>rfl
 |some x=>
  have hm:b∈u4 h H:=jR.2 ⟨nU.2 (bW e'),by simp[q]⟩
  have z:(oU h H).get? b=ae:=PySem.W.hideAll_none (u4 h H) hm;rw[z] at e;cases e
def Ud (g h:aU)(L:aC):List (aC×bI):=(cQ h.objs.size).filterMap λa=>if a=L\/(g.get? a).isSome=af then ae else(h.get? a).map λo=>(a,o)
def rest (g h:aU)(L d:aC):List (aC×bI):=(Ud g h L).filter λp=>decide (p.1≠d)
structure Mod (K:aK)(mg:aE->Option aF)(base:aU):Prop where
 kin:K.In base
 glob:base.Ns jF mg
 blt:∃ mb,base.Ns builtinsNs mb/\∀ x:aE,x ≠ "__name__" -> mb x=lC x
 nolimit:base.NoLimit
structure Cx where
 prog:bN
 w:bD
 K:aK
 mg:aE->Option aF
 base:aU
 A:cE
 N:List aE
 s₀:aI
 H₀:Hp
 env:eQ
 outer:List eQ
 stack:List eQ
 ex:List aC
 fn:aE->Bool
 calm:Bool
 pn:List (aC×bI)
 xe:aF->aI->Prop
def jq (l:List eQ):List aC:=l.filterMap (·.frame)
abbrev Cx.fs (X:Cx):List aC:=jq X.outer
def vN (sc:gA)(x:aE):Prop:=sc.names.lookup x=aa .local\/sc.names.lookup x=aa .cell\/sc.names.lookup x=aa .free
def iQ (sc:gA)(x:aE):Prop:=sc.names.lookup x=aa .local\/sc.names.lookup x=aa .cell
def Look (env:eQ)(h:aU)(m:aE->Option aF)(x:aE)(u:aF):Prop:=
 (env.kindOf x=aa .local/\m x=aa u)\/((env.kindOf x=aa .cell\/env.kindOf x=aa .free)/\∃ c,env.cells.lookup x=aa c/\h.IsCell c (aa u))
structure Cx.Ok (X:Cx):Prop where
 mod:Mod X.K X.mg X.base
 kind:X.env.scope.kind=.function
 glob:X.env.globals=jF
 blt:X.env.builtins=builtinsNs
 above:X.s₀.heap.objs.size<=X.env.locals
 inj:∀ x y c,X.env.cells.lookup x=aa c->X.env.cells.lookup y=aa c->x=y
 has:∀ x,(X.env.kindOf x=aa .cell\/X.env.kindOf x=aa .free)->∃ c,X.env.cells.lookup x=aa c
 cab:∀ x c,X.fn x=af->X.env.cells.lookup x=aa c->X.s₀.heap.objs.size<=c
 hd:X.calm=af->X.A.handled=ae
 frames:X.A.frames=aa X.stack
 stk:X.stack=X.outer\/(X.stack=X.env::X.outer/\X.env.frame=aa X.env.locals)
 exf:∀ b∈X.ex,b≠X.env.locals/\∀ x c,X.env.cells.lookup x=aa c->c≠b
 bs:∀ b o,X.base.get? b=aa o->X.s₀.heap.get? b=aa o/\X.H₀ b=ae
 bsz:X.base.objs.size<=X.s₀.heap.objs.size
 noex:∀ b o,X.base.get? b=aa o->b∉X.ex
 exfs:∀ b∈X.ex,b∉X.fs
 funs:X.s₀.heap.FunFrames X.base X.outer
 frf:∀ b∈X.fs,X.H₀ b=ae
structure Inv (X:Cx)(ad:List (aC×bI))(Z:List (Option V))(H:Hp)(s:aI):Prop where
 ok:X.Ok
 os:s.os=X.s₀.os
 bare:qT s.gens
 base:Un X.fs X.ex X.H₀ H X.s₀.heap s.heap
 loc:∃ m,s.heap.Ns X.env.locals m/\∀ (i:Nat) (x:aE) (v:V),X.N[i]?=aa x->Z[i]?=aa (aa v)->vN X.env.scope x->∃ u,RelV v u/\Look X.env s.heap m x u
 cell:∀ x c,X.env.cells.lookup x=aa c->∃ v,s.heap.IsCell c v
 free:H X.env.locals=ae
 freeC:∀ x c,X.env.cells.lookup x=aa c->H c=ae
 pin:∀ p∈X.pn++ad,s.heap.get? p.1=aa p.2/\H p.1=ae/\p.1≠X.env.locals/\p.1∉X.fs/\∀ v,p.2.data ≠ .cell v
 hok:HOk X.prog X.w H s.heap
 len:Z.length=X.N.length
section
variable {X:Cx}{Z:List (Option V)}{H H':Hp}
theorem Cx.Ok.nofr (ok:X.Ok)(e:X.base.get? b=aa o):b∉X.fs:=λhb=>by
 have:=(ok.funs.mem hb).1;rw[e] at this;cases this
theorem Inv.bs (I:Inv X ad Z H s):∀ b o,X.base.get? b=aa o->s.heap.get? b=aa o/\H b=ae:=λb o e=>
 ⟨I.base.keep b o (I.ok.bs b o e).1 (I.ok.bs b o e).2 (I.ok.nofr e) (I.ok.noex b o e),I.base.free b o (I.ok.bs b o e).1 (I.ok.bs b o e).2 (I.ok.noex b o e)⟩
theorem Inv.bk (I:Inv X ad Z H s):∀ b o,X.base.get? b=aa o->s.heap.get? b=aa o:=λb o e=>(I.bs b o e).1
theorem Inv.mod (I:Inv X ad Z H s):Mod X.K X.mg X.base:=I.ok.mod
theorem Inv.kIn (I:Inv X ad Z H s):X.K.In s.heap:=I.ok.mod.kin.keeps I.bk
theorem Inv.lt (I:Inv X ad Z H s):X.env.locals<s.heap.objs.size:=let ⟨_,hn,_⟩:=I.loc;hn.lt
theorem Inv.sz (I:Inv X ad Z H s):X.s₀.heap.objs.size<=s.heap.objs.size:=cM I.ok.above (nQ I.lt)
theorem Inv.nofs (I:Inv X ad Z H s)(h:s.heap.objs.size<=a):a∉X.fs:=λhb=>by
 obtain⟨_,o,ho,_⟩:=I.ok.funs.mem hb;exact absurd (iV (bW ho) (cM I.sz h)) (mK _)
theorem Inv.cne (I:Inv X ad Z H s):∀ x c,X.env.cells.lookup x=aa c->c≠X.env.locals:=λx c e z=>by
 obtain⟨v,o,ho,hd⟩:=I.cell x c e;obtain⟨m,⟨o',es,ep,k9,m6,_⟩,_⟩:=I.loc
 grind
theorem Inv.funs (I:Inv X ad Z H s):s.heap.FunFrames X.base X.outer:=by
 have all:∀ (l:List eQ),(∀ b∈jq l,b∈X.fs)->X.s₀.heap.FunFrames X.base l->s.heap.FunFrames X.base l:=by
  intro l;induction l with
  |nil=>intro _ _;trivial
  |cons env r ih=>
   intro hs hl;obtain⟨hk,⟨L,o,hf,hn,ho,hd⟩,hr⟩:=hl;have hL:L∈X.fs:=hs L (by unfold jq;rw[MC,hf];exact bO)
   obtain⟨sl,e⟩:=I.base.slot L o ho (I.ok.frf L hL) hL λz=>I.ok.exfs L z hL
   exact⟨hk,⟨L,_,hf,hn,e,hd⟩,ih (λb hb=>hs b (by unfold jq;rw[MC,hf];exact bM _ hb)) hr⟩
 exact all X.outer (λ_ hb=>hb) I.ok.funs
theorem Inv.stack (I:Inv X ad Z H s):s.heap.FunFrames X.base X.stack:=by
 rcases I.ok.stk with e|⟨e,hf⟩
 .rw[e];exact I.funs
 .rw[e];obtain⟨m,hn,_⟩:=I.loc;refine .cons (by rw[I.ok.kind];decide) hf hn ?_ I.funs
  exact Heap.get?_none_of_le (cM I.ok.bsz I.ok.above)
theorem Inv.stkSub (I:Inv X ad Z H s):∀ b∈jq X.stack,b∈X.env.locals::X.fs:=λb hb=>by
 rcases I.ok.stk with e|⟨e,hf⟩
 .rw[e] at hb;exact bM _ hb
 .rw[e] at hb;unfold jq at hb;rw[MC,hf] at hb;exact hb
theorem Inv.stkFree (I:Inv X ad Z H s):∀ b∈jq X.stack,H b=ae:=λb hb=>by
 rcases cV.1 (I.stkSub b hb) with e|hb
 .rw[e];exact I.free
 .obtain⟨_,o,ho,_⟩:=I.ok.funs.mem hb;exact I.base.free b o ho (I.ok.frf b hb) λz=>I.ok.exfs b z hb
theorem Inv.step {g':Array yS}{d':Drawn}(I:Inv X ad Z H s)
  (kq:∀ b∈ch,(b∈X.ex\/X.s₀.heap.objs.size<=b)/\b≠X.env.locals/\(∀ x c,X.env.cells.lookup x=aa c->c≠b)/\∀ p∈X.pn++ad,p.1≠b)
  (keep:∀ b o,b≠X.env.locals->b∉X.fs->b∉ch->s.heap.get? b=aa o->H b=ae->h'.get? b=aa o)
  (slot:∀ b o,b≠X.env.locals->b∈X.fs->b∉ch->s.heap.get? b=aa o->H b=ae->∃ sl,h'.get? b=aa { o with slots:=sl }) (free:∀ b o,b∉ch->s.heap.get? b=aa o->H b=ae->H' b=ae)
  (there:∀ b o,b∉ch->s.heap.get? b=aa o->∃ o',h'.get? b=aa o')
  (tups:∀ b xs,H b=aa (.tup xs)->H' b=aa (.tup xs)) (frzs:∀ b o u,H b=aa (.frz o u)->H' b=aa (.frz o u)) (tbls:∀ b ps,H b=aa (.tbl ps)->∃ more,H' b=aa (.tbl (ps++more)))
  (ns:∀ m,s.heap.Ns X.env.locals m->h'.Ns X.env.locals m) (hok:HOk X.prog X.w H' h') (hg:qT g') :
  Inv X ad Z H' { s with heap:=h',gens:=g',drawn:=d',toks:=t' }:=by
 have yh:∀ b o,X.s₀.heap.get? b=aa o->b≠X.env.locals:=λb o e=>eB (iV (bW e) I.ok.above)
 have tw:∀ b o,X.s₀.heap.get? b=aa o->b∉X.ex->b∉ch:=λb o e hx hb=>by
  rcases(kq b hb).1 with z|z
  .exact hx z
  .exact absurd (iV (bW e) z) (mK _)
 have ld:∀ x c,X.env.cells.lookup x=aa c->∀ v,s.heap.IsCell c v->h'.IsCell c v:=λx c e v gh=>by
  obtain⟨o,ho,hd⟩:=gh;have yi:c∉ch:=λz=>(kq c z).2.2.1 x c e rfl
  by_cases hc:c∈X.fs
  .obtain⟨sl,q⟩:=slot c o (I.cne x c e) hc yi ho (I.freeC x c e);exact⟨_,q,hd⟩
  .exact⟨o,keep c o (I.cne x c e) hc yi ho (I.freeC x c e),hd⟩
 refine⟨I.ok,I.os,hg,⟨λb o e n hb hx=>?_,λb o e n hb hx=>?_,λb o e n hx=>?_,λb o e hx=>?_,λb xs e=>tups b xs (I.base.tups b xs e),λb o xs e=>frzs b o xs (I.base.frzs b o xs e),λb ps e=>?_⟩,?_,λx c e=>?_,?_,λx c e=>?_,λp hp=>?_,hok,I.len⟩
 .exact keep b o (yh b o e) hb (tw b o e hx) (I.base.keep b o e n hb hx) (I.base.free b o e n hx)
 .obtain⟨sl,e1⟩:=I.base.slot b o e n hb hx;obtain⟨u8,e2⟩:=slot b _ (yh b o e) hb (tw b o e hx) e1 (I.base.free b o e n hx);exact⟨u8,e2⟩
 .obtain⟨o',e1⟩:=I.base.there b o e hx;exact free b o' (tw b o e hx) e1 (I.base.free b o e n hx)
 .obtain⟨o',e1⟩:=I.base.there b o e hx;exact there b o' (tw b o e hx) e1
 .obtain⟨m1,e1⟩:=I.base.tbls b ps e
  grind
 .obtain⟨m,hn,hl⟩:=I.loc;refine⟨m,ns m hn,λi x v e1 e2 e3=>?_⟩
  obtain⟨u,r,l⟩:=hl i x v e1 e2 e3;refine⟨u,r,?_⟩;rcases l with l|⟨k,c,e,z⟩
  .exact .inl l
  .exact .inr ⟨k,c,e,ld x c e _ z⟩
 .obtain⟨v,z⟩:=I.cell x c e;exact⟨v,ld x c e v z⟩
 .obtain⟨m,⟨o,_,_,ho,_⟩,_⟩:=I.loc;exact free _ o (λz=>(kq _ z).2.1 rfl) ho I.free
 .obtain⟨v,o,ho,hd⟩:=I.cell x c e;exact free c o (λz=>(kq c z).2.2.1 x c e rfl) ho (I.freeC x c e)
 .obtain⟨e,n,ne,nf,d⟩:=I.pin p hp
  grind
theorem Inv.un(I:Inv X ad Z H s)(u:Un X.fs [] H H' s.heap h')(hok:HOk X.prog X.w H' h'):Inv X ad Z H' { s with heap:=h',toks:=t' }:=by
 obtain⟨m,⟨o,es,ep,ho,r⟩,_⟩:=id I.loc;obtain⟨sl,hL⟩:=u.any ho I.free (by simp)
 exact I.step (g':=s.gens) (d':=s.drawn) (ch:=[]) (λ_ z=>nomatch z) (λb o _ hb _ e n=>u.keep b o e n hb (by simp)) (λb o _ hb _ e n=>u.slot b o e n hb (by simp)) (λb o _ e n=>u.free b o e n (by simp)) (λb o _ e=>u.there b o e (by simp)) u.tups u.frzs u.tbls (λm' hm=>by
  obtain⟨o',lg,jt,k9,r'⟩:=hm;rw[ho] at k9;cases k9;exact⟨_,lg,jt,hL,r'⟩) hok I.bare
theorem Inv.call {g':Array yS}{d':Drawn}(I:Inv X ad Z H s)(u:Un (jq X.stack) ch H H' s.heap h')(hok:HOk X.prog X.w H' h')(hg:qT g')
  (kq:∀ b∈ch,(b∈X.ex\/X.s₀.heap.objs.size<=b)/\b≠X.env.locals/\(∀ x c,X.env.cells.lookup x=aa c->c≠b)/\∀ p∈X.pn++ad,p.1≠b) :
  Inv X ad Z H' { s with heap:=h',gens:=g',drawn:=d',toks:=t' }:=by
 obtain⟨m,⟨o,es,ep,ho,r⟩,_⟩:=id I.loc;obtain⟨sl,hL⟩:=u.any ho I.free λz=>(kq _ z).2.1 rfl
 exact I.step (ch:=ch) kq (λb o hL hb hc e n=>u.keep b o e n (λz=>(cV.1 (I.stkSub b z)).elim hL hb) hc) (λb o _ _ hc e n=>u.any e n hc) (λb o hc e n=>u.free b o e n hc) (λb o hc e=>u.there b o e hc) u.tups u.frzs u.tbls (λm' hm=>by
  obtain⟨o',lg,jt,k9,r'⟩:=hm;rw[ho] at k9;cases k9;exact⟨_,lg,jt,hL,r'⟩) hok hg
theorem Inv.turned{it:aC}(I:Inv X ad Z H s)(k:∀ b o,b≠it->s.heap.get? b=aa o->h'.get? b=aa o)(hn:H it=ae)(hL:it≠X.env.locals)
  (h1:it∈X.ex\/X.s₀.heap.objs.size<=it) (h2:∀ x c,X.env.cells.lookup x=aa c->c≠it) (h3:∀ p∈X.pn++ad,p.1≠it):Inv X ad Z H { s with heap:=h',toks:=t' }:=by
 have nit:∀ b u,H b=aa u->b≠it:=λb u e z=>by rw[z,hn] at e;cases e
 refine I.step (g':=s.gens) (d':=s.drawn) (ch:=[it]) (λb hb=>?_) (λb o _ _ hc e _=>k b o (λz=>hc (by simp[z])) e) (λb o _ _ hc e _=>⟨o.slots,k b o (λz=>hc (by simp[z])) e⟩) (λ_ _ _ _ n=>n)
  (λb o hc e=>⟨o,k b o (λz=>hc (by simp[z])) e⟩) (λ_ _ e=>e) (λ_ _ _ e=>e) (λb ps e=>⟨#[],by rw[e];simp⟩) (λm hm=>?_) (λb u e=>?_) I.bare
 .grind
 .obtain⟨o,es,ep,ho,r⟩:=hm;exact⟨o,es,ep,k _ o (jI hL) ho,r⟩
 .refine(I.hok b u e).stay (λc v hc q=>k c v ?_ q) (λ_ q=>q) λ_ _ q=>q
  grind
theorem Inv.tok (I:Inv X ad Z H s)(t:Nat):Inv X ad Z H { s with toks:=t }:=I.un (h':=s.heap) (t':=t) Un.refl I.hok
theorem Inv.kept(I:Inv X ad Z H s)(k:∀ b u,s.heap.get? b=aa u->h'.get? b=aa u):Inv X ad Z H { s with heap:=h',toks:=t' }:=I.un (Un.kept k) (I.hok.kept k)
theorem Inv.laid{o:HO}(I:Inv X ad Z H s)(k:∀ b u,s.heap.get? b=aa u->h'.get? b=aa u)(hp:s.heap.objs.size<=a)(new:Acu X.prog X.w (upd H a o) h' a o) :
  Inv X ad Z (upd H a o) { s with heap:=h',toks:=t' }:=I.un (Un.laid k hp (I.hok.fresh hp)) (I.hok.laid k hp new)
theorem Inv.write {x e:aC}{o:HO}(I:Inv X ad Z H s)(mu:vO (H x))(he:e=x\/H e=aa (.own x))(k:∀ b u,b≠e->s.heap.get? b=aa u->h'.get? b=aa u)(qd:∃ u,h'.get? e=aa u)
  (new:Acu X.prog X.w (upd H x o) h' x o):Inv X ad Z (upd H x o) { s with heap:=h',toks:=t' }:=I.un (Un.write mu he k qd) (I.hok.write mu he k qd new)
theorem Inv.pins_of {lh:List (aC×bI)}(I:Inv X ad Z H s)(h:∀ p∈lh,s.heap.get? p.1=aa p.2/\H p.1=ae/\p.1≠X.env.locals/\p.1∉X.fs/\∀ v,p.2.data ≠ .cell v):Inv X lh Z H s:=
 ⟨I.ok,I.os,I.bare,I.base,I.loc,I.cell,I.free,I.freeC,λp hp=>(eM.1 hp).elim (λz=>I.pin p (LZ _ z)) (h p),I.hok,I.len⟩
theorem QY {N:List aE}(hN:N.Nodup)(a:N[i]?=aa x)(b:N[j]?=aa x):i=j:=by
 obtain⟨h1,e1⟩:=cR.1 a;obtain⟨h2,e2⟩:=cR.1 b;exact(List.getElem_inj hN).1 (e1.trans e2.symm)
theorem UL{v:V}{Q:Unit->aI->Prop}(I:Inv X ad Z H s)(hN:X.N.Nodup)(hi:X.N[i]?=aa x)(hx:iQ X.env.scope x)(r:RelV v u)
  (h:∀ s',Inv X ad (Z.set i (aa v)) H s'->(∃ a,yR a s.heap s'.heap/\(a=X.env.locals\/X.env.cells.lookup x=aa a))->Q Unit.unit s') (hf:X.fn x=af\/X.env.scope.names.lookup x=aa .local:=by first|exact .inl rfl|exact .inr rfl|assumption):aT M A (storeName X.env x u) Q E s:=by
 obtain⟨m,hn,hl⟩:=id I.loc;have u9:(X.env.scope.kind==.class||(X.env.scope.kind==.module&&X.env.locals != X.env.globals))=ag:=by rw[I.ok.kind];rfl
 have qe:i<Z.length:=by rw[I.len];exact(cR.1 hi).1
 have cne:=I.cne;have iw:∀ {a:aC} {h':aU},(∃ o,s.heap.get? a=aa o/\H a=ae)->yR a s.heap h'->HOk X.prog X.w H h':=λ{a h'} ha hs b ob e=>by
  obtain⟨_,_,gl⟩:=ha;refine(I.hok b ob e).stay (λc w' hc q=>(hs.2 c ?_).trans q) (λ_ q=>q) λ_ _ q=>q
  rintro rfl;rcases hc with rfl|hc
  .rw[gl] at e;cases e
  .rw[gl] at hc;cases hc
 rcases hx with hk|hk
 .refine wpAny_storeName_local hk hn (λh' B4 hs=>?_) u9
  obtain⟨oL,_,_,m7,_⟩:=id hn;refine h _ ⟨I.ok,I.os,I.bare,⟨λb o e n hb hx=>?_,λb o e n hb hx=>?_,I.base.free,λb o e hx=>?_,I.base.tups,I.base.frzs,I.base.tbls⟩,⟨_,B4,λj y v' e1 e2 e3=>?_⟩,λy c e=>?_,I.free,I.freeC,λp hp=>?_,iw ⟨oL,m7,I.free⟩ hs,by simpa using I.len⟩ ⟨_,hs,.inl rfl⟩
  .exact(hs.2 b (eB (iV (bW e) I.ok.above))).trans (I.base.keep b o e n hb hx)
  .obtain⟨sl,e1⟩:=I.base.slot b o e n hb hx;exact⟨sl,(hs.2 b (eB (iV (bW e) I.ok.above))).trans e1⟩
  .obtain⟨o',e1⟩:=I.base.there b o e hx;exact⟨o',(hs.2 b (eB (iV (bW e) I.ok.above))).trans e1⟩
  .by_cases hj:j=i
   .subst hj;rw[hi] at e1;cases e1;rw[iW qe] at e2;cases e2;exact⟨u,r,.inl ⟨hk,by simp⟩⟩
   .rw[iO (jI hj)] at e2;obtain⟨u',r',q⟩:=hl j y v' e1 e2 e3;refine⟨u',r',?_⟩;rcases q with⟨k,e⟩|⟨k,c,e,z⟩
    .refine .inl ⟨k,?_⟩;have:y≠x:=λe=>hj (QY hN e1 (e ▸ hi))
     simp[this,e]
    .exact .inr ⟨k,c,e,z.sameBut hs (cne y c e)⟩
  .obtain⟨w',z⟩:=I.cell y c e;exact⟨w',z.sameBut hs (cne y c e)⟩
  .obtain⟨e,n,ne,nf,d⟩:=I.pin p hp;exact⟨(hs.2 p.1 ne).trans e,n,ne,nf,d⟩
 .have vc:X.fn x=af:=by
   rcases hf with z|z
   .exact z
   .rw[z] at hk;cases hk
  obtain⟨c,hc⟩:=I.ok.has x (.inl hk);obtain⟨w',z⟩:=I.cell x c hc;refine wpAny_storeName_cell I.ok.kind hk hc z (λh' de hs=>?_)
  obtain⟨oc,yj,vd⟩:=id z;refine h { s with heap:=h' } ⟨I.ok,I.os,I.bare,⟨λb o e n hb hx=>?_,λb o e n hb hx=>?_,I.base.free,λb o e hx=>?_,I.base.tups,I.base.frzs,I.base.tbls⟩,⟨m,hn.sameBut hs (jI (cne x c hc)),λj y v' e1 e2 e3=>?_⟩,λy c' e=>?_,I.free,I.freeC,λp hp=>?_,iw ⟨oc,yj,I.freeC x c hc⟩ hs,by simpa using I.len⟩ ⟨c,hs,.inr hc⟩
  .exact(hs.2 b (eB (iV (bW e) (I.ok.cab x c vc hc)))).trans (I.base.keep b o e n hb hx)
  .obtain⟨sl,e1⟩:=I.base.slot b o e n hb hx;exact⟨sl,(hs.2 b (eB (iV (bW e) (I.ok.cab x c vc hc)))).trans e1⟩
  .obtain⟨o',e1⟩:=I.base.there b o e hx;exact⟨o',(hs.2 b (eB (iV (bW e) (I.ok.cab x c vc hc)))).trans e1⟩
  .by_cases hj:j=i
   .subst hj;rw[hi] at e1;cases e1;rw[iW qe] at e2;cases e2;exact⟨u,r,.inr ⟨.inl hk,c,hc,de⟩⟩
   .rw[iO (jI hj)] at e2;obtain⟨u',r',q⟩:=hl j y v' e1 e2 e3;refine⟨u',r',?_⟩;rcases q with q|⟨k,c',e,z'⟩
    .exact .inl q
    .refine .inr ⟨k,c',e,z'.sameBut hs ?_⟩;rintro rfl;exact hj (QY hN e1 (I.ok.inj _ _ _ e hc ▸ hi))
  .by_cases yk:c'=c
   .subst yk;exact⟨_,de⟩
   .obtain⟨w2,z2⟩:=I.cell y c' e;exact⟨w2,z2.sameBut hs yk⟩
  .obtain⟨e,n,ne,nf,d⟩:=I.pin p hp;refine⟨(hs.2 p.1 ?_).trans e,n,ne,nf,d⟩;intro q;rw[q,yj] at e;have q':oc=p.2:=fH e;exact d w' (by rw[<-q'];exact vd)
theorem SI{v:V}{Q:Unit->aI->Prop}(I:Inv X ad Z H s)(hN:X.N.Nodup)(hi:X.N[i]?=aa x)(hx:iQ X.env.scope x)(r:RelV v u)
  (h:∀ s',Inv X ad (Z.set i (aa v)) H s'->Q Unit.unit s') (hf:X.fn x=af\/X.env.scope.names.lookup x=aa .local:=by first|exact .inl rfl|exact .inr rfl|assumption):aT M A (storeName X.env x u) Q E s:=
 UL I hN hi hx r (λs' I' _=>h s' I') hf
theorem Inv.call'(I:Inv X ad Z H s)(ho:s'.os=s.os)(u:Un (jq X.stack) ch H H' s.heap s'.heap)(hok:HOk X.prog X.w H' s'.heap)(hg:qT s'.gens)
  (kq:∀ b∈ch,(b∈X.ex\/X.s₀.heap.objs.size<=b)/\b≠X.env.locals/\(∀ x c,X.env.cells.lookup x=aa c->c≠b)/\∀ p∈X.pn++ad,p.1≠b):Inv X ad Z H' s':=by
 obtain⟨h',g',d',t',o'⟩:=s';have e:o'=s.os:=ho;subst e;exact I.call (g':=g') (t':=t') (d':=d') u hok hg kq
end
abbrev XK:=aF->Option aC->Hp->Prop
abbrev St:=List (Option V)
abbrev VK:=V->Hp->Prop
abbrev TE:=St->Hp->VK->Prop
abbrev TT:=St->Hp->(Bool->Hp->Prop)->Prop
abbrev TA:=St->Hp->(List V->Hp->Prop)->Prop
structure Ends where
 nx:St->Hp->Prop
 rt:VK
 bk:St->Hp->Prop:=λ_ _=>False
 ct:St->Hp->Prop:=λ_ _=>False
abbrev TS:=Ends->St->Hp->Prop
def EP (X:Cx)(ad:List (aC×bI))(Z:St)(Q:VK)(u:aF)(s':aI):Prop:=∃ v H',Inv X ad Z H' s'/\RelV v u/\Q v H'
def TP (X:Cx)(ad:List (aC×bI))(Z:St)(Q:Bool->Hp->Prop)(b:Bool)(s':aI):Prop:=∃ H',Inv X ad Z H' s'/\Q b H'
def AP (X:Cx)(ad:List (aC×bI))(Z:St)(Q:List V->Hp->Prop)(us:List aF)(s':aI):Prop:=∃ vs H',Inv X ad Z H' s'/\Vals vs us/\Q vs H'
def SP (X:Cx)(ad:List (aC×bI))(D:Ends)(f:Flow)(s':aI):Prop:=
 match f with
 |.next=>∃ Z' H',Inv X ad Z' H' s'/\D.nx Z' H'
 |.brk=>∃ Z' H',Inv X ad Z' H' s'/\D.bk Z' H'
 |.cont=>∃ Z' H',Inv X ad Z' H' s'/\D.ct Z' H'
 |.ret u=>∃ v Z' H',Inv X ad Z' H' s'/\RelV v u/\D.rt v H'
def PE (X:Cx)(e:aQ)(t:TE):Prop:=
 ∀ (ad:List (aC×bI)) (s:aI) (Z:St) (H:Hp) (Q:VK),Inv X ad Z H s->t Z H Q->aT (aX X.prog X.w) X.A (bZ e X.env) (EP X ad Z Q) X.xe s
def PT (X:Cx)(e:aQ)(t:TT):Prop:=
 ∀ (ad:List (aC×bI)) (s:aI) (Z:St) (H:Hp) (Q:Bool->Hp->Prop),Inv X ad Z H s->t Z H Q->aT (aX X.prog X.w) X.A (isTrue e X.env (bZ e X.env)) (TP X ad Z Q) X.xe s
def PW (X:Cx)(e:aQ)(t:TT):Prop:=
 ∀ (dg:Sem aF) (ad:List (aC×bI)) (s:aI) (Z:St) (H:Hp) (Q:Bool->Hp->Prop),Inv X ad Z H s->t Z H Q->aT (aX X.prog X.w) X.A (isTrue e X.env dg) (TP X ad Z Q) X.xe s
theorem PW.pt {X:Cx}{t:TT}(h:PW X e t):PT X e t:=h _
def PA (X:Cx)(es:List aQ)(t:TA):Prop:=
 ∀ (pos:bH) (ad:List (aC×bI)) (s:aI) (Z:St) (H:Hp) (Q:List V->Hp->Prop),Inv X ad Z H s->t Z H Q->aT (aX X.prog X.w) X.A (spliced (jG pos (cC es X.env))) (AP X ad Z Q) X.xe s
def PS (X:Cx)(st:dU)(t:TS):Prop:=
 ∀ (ad:List (aC×bI)) (s:aI) (Z:St) (H:Hp) (D:Ends),Inv X ad Z H s->t D Z H->aT (aX X.prog X.w) X.A (exec st X.env) (SP X ad D) X.xe s
def PSs (X:Cx)(st:List dU)(t:TS):Prop:=
 ∀ (ad:List (aC×bI)) (s:aI) (Z:St) (H:Hp) (D:Ends),Inv X ad Z H s->t D Z H->aT (aX X.prog X.w) X.A (execs st X.env) (SP X ad D) X.xe s
theorem bb {α:Type}{t:Sem α}{Q Q':α->aI->Prop}(h:aT M A t Q E s)(hQ:∀ a s,Q a s->Q' a s):aT M A t Q' E s:=kO h hQ λ_ _ x=>x
section
variable {X:Cx}
abbrev vQ (i:Nat):TE:=λZ H Q=>∃ v,Z[i]?=aa (aa v)/\Q v H
abbrev tC (v:V):TE:=λ_ H Q=>Q v H
theorem zX(hN:X.N[i]?=aa x)(hv:vN X.env.scope x)(hd:(x==("__debug__" : aE))=ag:=by decide)(ju:(x==("__classdict__" : aE))=ag:=by decide):PE X (.Name x pos) (vQ i):=by
 rw[8];obtain⟨v,e,h⟩:=h;obtain⟨m,hn,hl⟩:=I.loc;obtain⟨u,r,l⟩:=hl i x v hN e hv;have fin:EP X ad Z Q u s:=⟨v,H,I,r,h⟩;rcases l with⟨hk,hm⟩|⟨hk,c,hc,ix⟩
 .exact wpAny_Name (wpAny_loadName_local I.ok.kind hk hn hm fin) hd
 .rcases hk with hk|hk
  .exact wpAny_Name (wpAny_loadName_cell I.ok.kind hk hc ix fin) hd
  .exact wpAny_Name (wpAny_loadName_free I.ok.kind hk hc ix fin ju) hd
structure Nm (X:Cx)(i:Nat)(x:aE):Prop where
 a:X.N[i]?=aa x
 v:vN X.env.scope x
 d:(x==("__debug__" : aE))=ag
 c:(x==("__classdict__" : aE))=ag
theorem fM(hN:X.N[i]?=aa x:=by rfl)(hv:vN X.env.scope x:=by first|exact fG rfl|exact iU (fG rfl)|exact iU (iU rfl))(hd:(x==("__debug__" : aE))=ag:=by decide)(ju:(x==("__classdict__" : aE))=ag:=by decide):Nm X i x:=⟨hN,hv,hd,ju⟩
theorem Nm.pe(h:Nm X i x):PE X (.Name x pos) (vQ i):=zX h.a h.v h.d h.c
theorem wC {i j pos}:PE X (.Constant (.int i) j pos) (tC (.int i)):=λ_ _ _ H _ I h=>wpAny_Constant_int ⟨.int i,H,I.tok _,⟨_,rfl⟩,h⟩
theorem Fl {b j pos}:PE X (.Constant (.bool b) j pos) (tC (.bl b)):=λ_ _ _ H _ I h=>Constant_bool ⟨.bl b,H,I,rfl,h⟩
theorem ZL {j pos}:PE X (.Constant .none j pos) (tC .non):=λ_ _ _ H _ I h=>Constant_none ⟨.non,H,I,rfl,h⟩
theorem ZN {x j pos}:PE X (.Constant (.str x) j pos) (tC (.str x)):=λ_ _ _ H _ I h=>Calls.Constant_str ⟨.str x,H,I.tok _,⟨_,rfl⟩,h⟩
def Gl (X:Cx)(x:aE):Prop:=X.env.kindOf x=aa .globalImplicit
theorem PR{Z:St}{H:Hp}(I:Inv X ad Z H s)(hg:Gl X x)(hm:X.mg x=aa u)(h:Q u s)
  (hd:(x==("__debug__" : aE))=ag:=by decide):aT (aX X.prog X.w) X.A (bZ (.Name x pos) X.env) Q E s:=
 Calls.Name_function_global I.ok.kind hg (Calls.loadGlobal_global (by rw[I.ok.glob];exact I.mod.glob.keeps I.bk) hm h) hd
theorem uC{Z:St}{H:Hp}(I:Inv X ad Z H s)(hg:Gl X x)(hm:X.mg x=ae)(hv:lC x=aa u)(h:Q u s)
  (hn:x ≠ "__name__":=by decide) (hd:(x==("__debug__" : aE))=ag:=by decide):aT (aX X.prog X.w) X.A (bZ (.Name x pos) X.env) Q E s:=by
 obtain⟨mb,h1,h2⟩:=I.mod.blt;exact Calls.Name_function_global I.ok.kind hg (Calls.loadGlobal_builtin (by rw[I.ok.glob];exact I.mod.glob.keeps I.bk) hm (by rw[I.ok.blt];exact h1.keeps I.bk) ((h2 x hn).trans hv) h) hd
theorem Uk{v:V}(hg:Gl X x)(hm:X.mg x=aa u)(r:RelV v u)(hd:(x==("__debug__" : aE))=ag:=by decide):PE X (.Name x pos) (tC v):=
 λ_ _ _ H _ I h=>PR I hg hm ⟨v,H,I,r,h⟩ hd
theorem Lu{v:V}(hg:Gl X x)(hm:X.mg x=ae)(hv:lC x=aa u)(r:RelV v u)(hn:x ≠ "__name__":=by decide)(hd:(x==("__debug__" : aE))=ag:=by decide):PE X (.Name x pos) (tC v):=
 λ_ _ _ H _ I h=>uC I hg hm hv ⟨v,H,I,r,h⟩ hn hd
variable {a b:aQ}{ta tb:TE}
def tB (t:TE):TT:=λZ H Q=>t Z H λx H1=>∃ c,x=.bl c/\Q c H1
theorem Iv{t:TE}(h:PE X e t)(he:∀ dg,isTrue e X.env dg=(do let v <-dg;standAt e.pos;nK [v] (truthy v)):=by intro _;rfl):PT X e (tB t):=by
 intro ad s Z H Q I hw;refine isTrue_plain (bb (h ad s Z H _ I hw) λv s1 ⟨x,H1,I1,r1,q1⟩=>?_) (he _)
 obtain⟨d,rfl,q⟩:=q1;cases r1;exact KO ⟨H1,I1,q⟩
variable {tA tB':TT}{rest:List aQ}
def Ee (t u:TT):TT:=λZ H Q=>t Z H λc H1=>if c=af then u Z H1 Q else Q ag H1
def L6 (t u:TT):TT:=λZ H Q=>t Z H λc H1=>if c=af then Q af H1 else u Z H1 Q
def Ek (t:TT):TT:=λZ H Q=>t Z H λc H1=>Q (!c) H1
theorem Bb (ha:PT X a tA):PW X (.BoolOp .And [a] pos) tA:=by
 intro wh ad s Z H Q I h;refine isTrue_and (bb (ha ad s Z H Q I h) λc s1 e=>?_)
 cases c with
 |true=>exact isTrue_and_nil e
 |false=>exact e
theorem Iq (ha:PT X a tA):PW X (.BoolOp .Or [a] pos) tA:=by
 intro wh ad s Z H Q I h;refine isTrue_or (bb (ha ad s Z H Q I h) λc s1 e=>?_)
 cases c with
 |false=>exact isTrue_or_nil e
 |true=>exact e
theorem ZT (ha:PT X a tA)(hb:PW X (.BoolOp .And (b::rest) pos) tB'):PW X (.BoolOp .And (a::b::rest) pos) (Ee tA tB'):=by
 intro wh ad s Z H Q I h;refine isTrue_and (bb (ha ad s Z H _ I h) λc s1 gh=>?_)
 obtain⟨H1,I1,q1⟩:=gh;cases c with
 |true=>exact hb wh ad s1 Z H1 Q I1 q1
 |false=>exact⟨H1,I1,q1⟩
theorem Fe (ha:PT X a tA)(hb:PW X (.BoolOp .Or (b::rest) pos) tB'):PW X (.BoolOp .Or (a::b::rest) pos) (L6 tA tB'):=by
 intro wh ad s Z H Q I h;refine isTrue_or (bb (ha ad s Z H _ I h) λc s1 gh=>?_)
 obtain⟨H1,I1,q1⟩:=gh;cases c with
 |true=>exact⟨H1,I1,q1⟩
 |false=>exact hb wh ad s1 Z H1 Q I1 q1
theorem Kj (ha:PT X a tA):PT X (.UnaryOp .Not a pos) (Ek tA):=by
 rw[8];exact isTrue_not (ha ad s Z H (λc H1=>Q (!c) H1) I h)
def Hq (ta tb:TE):TE:=λZ H Q=>ta Z H λx H1=>∃ c,x=.bl c/\if c=af then tb Z H1 Q else Q (.bl ag) H1
theorem Jh (ha:PE X a ta)(hb:PE X (.BoolOp .And (b::rest) pos) tb):PE X (.BoolOp .And (a::b::rest) pos) (Hq ta tb):=by
 rw[8];refine BoolOp_and (bb (ha ad s Z H _ I h) λv s1 gh=>?_)
 obtain⟨x,H1,I1,r1,q1⟩:=gh;obtain⟨c,rfl,q1⟩:=q1;cases r1;refine KO ?_;cases c with
 |true=>exact hb ad s1 Z H1 Q I1 q1
 |false=>exact⟨.bl ag,H1,I1,rfl,q1⟩
def L4 (t:TT)(ta tb:TE):TE:=λZ H Q=>t Z H λc H1=>if c=af then ta Z H1 Q else tb Z H1 Q
theorem SD(hc:PT X c tA)(ha:PE X a ta)(hb:PE X b tb):PE X (.IfExp c a b pos) (L4 tA ta tb):=by
 rw[8];refine wpAny_IfExp (bb (hc ad s Z H _ I h) λd s1 gh=>?_)
 obtain⟨H1,I1,q1⟩:=gh;cases d with
 |true=>exact ha ad s1 Z H1 Q I1 q1
 |false=>exact hb ad s1 Z H1 Q I1 q1
end
def SqL (K:aK)(H:Hp)(a:aC)(xs:List V):Prop:=
 Rd H a (.lst xs) \/
  ∃ (o:bI) (its:Array aF) (n:Nat),K.lookup a=aa o/\o.cls=.type "list" /\ o.dict=ae/\o.data=.seq its n/\its.size<=sizeLine/\Vals xs its.toList
def SqT (K:aK)(H:Hp)(a:aC)(xs:List V):Prop:=
 Rd H a (.tup xs) \/
  ∃ (o:bI) (its:Array aF) (n:Nat),K.lookup a=aa o/\o.cls=.type "tuple" /\ o.data=.seq its n/\its.size<=sizeLine/\Vals xs its.toList
def Ed:aF->Option V
 |.none=>aa .non
 |.bool b=>aa (.bl b)
 |.int i _=>aa (.int i)
 |.str x _=>aa (.str x)
 |.bytes b _=>aa (.byt b)
 |.float b _=>aa (.flt b)
 |.ref a=>aa (.ref a)
 |.type n=>aa (.ty n)
 |_=>ae
theorem RelV.abs {x:V}(r:RelV x u):Ed u=aa x:=by
 cases x with
 |non=>cases r;rfl
 |bl _=>cases r;rfl
 |int _=>obtain⟨t,rfl⟩:=r;rfl
 |str _=>obtain⟨t,rfl⟩:=r;rfl
 |byt _=>obtain⟨t,rfl⟩:=r;rfl
 |flt _=>obtain⟨t,rfl⟩:=r;rfl
 |ref _=>cases r;rfl
 |ty _=>cases r;rfl
theorem RelV.inj {x y:V}(r:RelV x u)(q:RelV y u):x=y:=fH (r.abs.symm.trans q.abs)
theorem Vals.inj:∀ {xs ys:List V} {us:List aF},Vals xs us->Vals ys us->xs=ys:=by
 intro xs ys us h;induction h generalizing ys with
 |nil=>intro h;cases h;rfl
 |cons r _ ih=>
  intro h;cases h with
  |cons r' t'=>rw[r.inj r',ih t']
section
variable {X:Cx}{Z:St}{H:Hp}{xs ys:List V}
theorem SqL.of(h:H a=aa (.lst xs)):SqL K H a xs:=.inl (.inl h)
theorem SqT.of(h:H a=aa (.tup xs)):SqT K H a xs:=.inl (.inl h)
theorem Inv.list (I:Inv X ad Z H s)(h:SqL X.K H a xs):∃ its:List aF,Vals xs its/\PlainL s.heap a its.toArray/\xs.length<=sizeLine:=by
 rcases h with h|⟨o,its,n,hk,hc,hd,hs,hz,r⟩
 .obtain⟨z,its,n,r,e⟩:=h.ok I.hok;exact⟨its,r,⟨_,n,e,rfl,rfl,rfl⟩,z⟩
 .refine⟨its.toList,r,⟨o,n,I.kIn a o hk,hc,hd,by simpa using hs⟩,?_⟩
  have e:=r.length
  grind
theorem Inv.tuple (I:Inv X ad Z H s)(h:SqT X.K H a xs):∃ its:List aF,Vals xs its/\IsTup s.heap a its.toArray/\xs.length<=sizeLine:=by
 rcases h with h|⟨o,its,n,hk,hc,hs,hz,r⟩
 .obtain⟨z,its,r,p⟩:=h.ok I.hok;exact⟨its,r,p.1,z⟩
 .refine⟨its.toList,r,⟨o,I.kIn a o hk,hc,n,by simpa using hs⟩,?_⟩
  have e:=r.length
  grind
theorem Inv.list_inj (I:Inv X ad Z H s)(h:SqL X.K H a xs)(h':SqL X.K H a ys):xs=ys:=by
 obtain⟨its,r,⟨o,n,e,_,_,d⟩,_⟩:=I.list h;obtain⟨its',r',⟨o',n',e',_,_,d'⟩,_⟩:=I.list h';rw[e] at e';cases e';rw[d] at d';injection d' with d1 _;have:its=its':=by simpa using congrArg Array.toList d1
 subst this;exact r.inj r'
theorem Inv.tuple_inj (I:Inv X ad Z H s)(h:SqT X.K H a xs)(h':SqT X.K H a ys):xs=ys:=by
 obtain⟨its,r,⟨o,e,_,n,d⟩,_⟩:=I.tuple h;obtain⟨its',r',⟨o',e',_,n',d'⟩,_⟩:=I.tuple h';rw[e] at e';cases e';rw[d] at d';injection d' with d1 _;have:its=its':=by simpa using congrArg Array.toList d1
 subst this;exact r.inj r'
end
abbrev Cx.wish (X:Cx)(E:aF->aI->Prop):Cx:={ X with xe:=E }
abbrev Cx.nox (X:Cx):Cx:=X.wish λ_ _=>False
theorem Cx.Ok.wish {X:Cx}(ok:X.Ok)(E:aF->aI->Prop):(X.wish E).Ok:=
 ⟨ok.mod,ok.kind,ok.glob,ok.blt,ok.above,ok.inj,ok.has,ok.cab,ok.hd,ok.frames,ok.stk,ok.exf,ok.bs,ok.bsz,ok.noex,ok.exfs,ok.funs,ok.frf⟩
theorem Cx.Ok.unwish {X:Cx}(ok:(X.wish E).Ok):X.Ok:=
 ⟨ok.mod,ok.kind,ok.glob,ok.blt,ok.above,ok.inj,ok.has,ok.cab,ok.hd,ok.frames,ok.stk,ok.exf,ok.bs,ok.bsz,ok.noex,ok.exfs,ok.funs,ok.frf⟩
section
variable {X:Cx}{Z:St}{H:Hp}
theorem Inv.wish (I:Inv X ad Z H s)(E:aF->aI->Prop):Inv (X.wish E) ad Z H s:=⟨I.ok.wish E,I.os,I.bare,I.base,I.loc,I.cell,I.free,I.freeC,I.pin,I.hok,I.len⟩
theorem Inv.unwish (I:Inv (X.wish E) ad Z H s):Inv X ad Z H s:=⟨I.ok.unwish,I.os,I.bare,I.base,I.loc,I.cell,I.free,I.freeC,I.pin,I.hok,I.len⟩
theorem SP.unwish {D:Ends}{f:Flow}(h:SP (X.wish E) ad D f s'):SP X ad D f s':=by
 cases f with
 |next=>obtain⟨Z',H',I,q⟩:=h;exact⟨Z',H',I.unwish,q⟩
 |brk=>obtain⟨Z',H',I,q⟩:=h;exact⟨Z',H',I.unwish,q⟩
 |cont=>obtain⟨Z',H',I,q⟩:=h;exact⟨Z',H',I.unwish,q⟩
 |ret u=>obtain⟨v,Z',H',I,r,q⟩:=h;exact⟨v,Z',H',I.unwish,r,q⟩
theorem PSs.nox {st:List dU}{t:TS}(h:PSs X.nox st t):PSs X st t:=λad s Z H D I hw=>
 kO (h ad s Z H D (I.wish _) hw) (λ_ _ q=>q.unwish) λ_ _ z=>pL z
end
section
variable {X:Cx}{st:dU}{rest:List dU}{t u:TS}{te:TE}
def OA:TS:=λD Z H=>D.nx Z H
def Ea (t u:TS):TS:=λD Z H=>t { D with nx:=u D } Z H
theorem FT:PSs X [] OA:=λ_ _ Z H _ I h=>KW ⟨Z,H,I,h⟩
theorem Vk (h1:PS X st t)(h2:PSs X rest u):PSs X (st::rest) (Ea t u):=by
 intro ad s Z H D I h;refine wpAny_execs_cons (bb (h1 ad s Z H { D with nx:=u D } I h) λf s1 q=>?_)
 cases f with
 |next=>
  obtain⟨Z',H',I',q⟩:=q;exact h2 ad s1 Z' H' D I' q
 |ret v=>exact q
 |brk=>exact q
 |cont=>exact q
theorem OV (h1:PS X st t):PSs X [st] t:=by
 intro ad s Z H D I h;refine wpAny_execs_cons (bb (h1 ad s Z H D I h) λf s1 q=>?_)
 cases f with
 |next=>exact KW q
 |ret v=>exact q
 |brk=>exact q
 |cont=>exact q
theorem Inv.quiet{Z:St}{H:Hp}(I:Inv X ad Z H s):interactive X.env=ag:=by simp[interactive,I.ok.kind]
def Gh (te:TE):TS:=λD Z H=>te Z H λ_ H1=>D.nx Z H1
theorem pX (he:PE X e te)(hs:iG e ae pos.line X.env=pure ag:=by rfl):PS X (.Expr e pos) (Gh te):=by
 intro ad s Z H D I h;exact wpAny_Expr_any (bb (he ad s Z H _ I h) λv s1 ⟨x,H1,I1,r1,q1⟩=>⟨Z,H1,I1,q1⟩) I.quiet hs
def Eu (te:TE):TS:=λD Z H=>te Z H D.rt
theorem rQ (he:PE X e te):PS X (.Return (aa e) pos) (Eu te):=by
 intro ad s Z H D I h;exact wpAny_Return_some (bb (he ad s Z H _ I h) λv s1 ⟨x,H1,I1,r1,q1⟩=>⟨x,Z,H1,I1,r1,q1⟩)
def Dw (c:TT)(t u:TS):TS:=λD Z H=>c Z H λb H1=>if b=af then t D Z H1 else u D Z H1
theorem EK{a b:List dU}{tc:TT}(hc:PT X c tc)(ha:PSs X a t)(hb:PSs X b u):PS X (.If c a b pos) (Dw tc t u):=by
 intro ad s Z H D I h;refine wpAny_If (bb (hc ad s Z H _ I h) λd s1 gh=>?_)
 obtain⟨H1,I1,q1⟩:=gh;cases d with
 |true=>exact ha ad s1 Z H1 D I1 q1
 |false=>exact hb ad s1 Z H1 D I1 q1
end
abbrev TG:=V->St->Hp->(St->Hp->Prop)->Prop
abbrev ou:=List V->St->Hp->(St->Hp->Prop)->Prop
def PG (X:Cx)(d5:aQ)(t:TG):Prop:=
 ∀ (ad:List (aC×bI)) (s:aI) (Z:St) (H:Hp) (v:V) (u:aF) (Q:St->Hp->Prop),Inv X ad Z H s->RelV v u->t v Z H Q ->
  aT (aX X.prog X.w) X.A (jZ d5 X.env u) (λ_ s'=>∃ Z' H',Inv X ad Z' H' s'/\Q Z' H') X.xe s
def ux (X:Cx)(ts:List aQ)(t:ou):Prop:=
 ∀ (ad:List (aC×bI)) (s:aI) (Z:St) (H:Hp) (vs:List V) (us:List aF) (Q:St->Hp->Prop),Inv X ad Z H s->Vals vs us->t vs Z H Q ->
  aT (aX X.prog X.w) X.A (assignInOrder ((hJ ts X.env).map (·.2)) us) (λ_ s'=>∃ Z' H',Inv X ad Z' H' s'/\Q Z' H') X.xe s
abbrev DY:=V->V->V->Hp->(Hp->Prop)->Prop
def MZ (X:Cx)(t:DY):Prop:=
 ∀ (ad:List (aC×bI)) (s:aI) (Z:St) (H:Hp) (o i v:V) (ov iv u:aF) (Q:Hp->Prop),Inv X ad Z H s->RelV o ov->RelV i iv->RelV v u->t o i v H Q ->
  aT (aX X.prog X.w) X.A (setItem ov iv u) (λ_ s'=>∃ H',Inv X ad Z H' s'/\Q H') X.xe s
section
variable {X:Cx}
def xY (i:Nat):TG:=λv Z H Q=>Q (Z.set i (aa v)) H
theorem oM(hN:X.N.Nodup)(hi:X.N[i]?=aa x)(hx:iQ X.env.scope x)(hf:X.fn x=af\/X.env.scope.names.lookup x=aa .local:=by first|exact .inl rfl|exact .inr rfl|assumption):PG X (.Name x pos) (xY i):=by
 intro ad s Z H v u Q I r h;exact wpAny_assign_Name (SI I hN hi hx r (λs' I'=>⟨_,H,I',h⟩) hf)
def NC:ou:=λvs Z H Q=>vs=[]/\Q Z H
def EI (t:TG)(u:ou):ou:=λvs Z H Q=>∃ v r,vs=v::r/\t v Z H λZ' H'=>u r Z' H' Q
theorem FR:ux X [] NC:=by
 intro ad s Z H vs us Q I r h;obtain⟨e,h⟩:=h;subst e;cases r;exact assignInOrder_nil ⟨Z,H,I,h⟩
theorem uQ{t:TG}{u:ou}(h1:PG X e t)(h2:ux X es u)
  (hs:(hJ (e::es) X.env).map (·.2)=jZ e X.env::(hJ es X.env).map (·.2):=by rfl):ux X (e::es) (EI t u):=by
 intro ad s Z H vs us Q I r h;obtain⟨v,vr,e1,h⟩:=h;subst e1;cases r with
 |cons r rr=>
  rw[hs];refine assignInOrder_cons (bb (h1 ad s Z H _ _ _ I r h) λ_ s1 gh=>?_)
  obtain⟨Z1,H1,I1,q1⟩:=gh;exact h2 ad s1 Z1 H1 _ _ Q I1 rr q1
def NP (K:aK)(n:Nat)(t:ou):TG:=λv Z H Q=>∃ a xs,v=.ref a/\SqT K H a xs/\xs.length=n/\t xs Z H Q
theorem EX{k:Nat}{t:ou}{n:Nat}(hc:X.calm=af)(h:ux X es t)
  (hn:(hJ es X.env).length=n:=by rfl) (i7:(hJ es X.env).findIdx? (·.1)=ae:=by rfl):PG X (.Tuple es k pos) (NP X.K n t):=by
 intro ad s Z H v u Q I r hw;obtain⟨a,xs,e1,hq,hl,hw⟩:=hw;subst e1;cases r;obtain⟨its,rv,ht,hz⟩:=I.tuple hq;refine assign_Tuple_tuple (I.ok.hd hc) ht (by simp[hn,<-hl,rv.length]) i7 λh' hx=>?_
 have I1:Inv X ad Z H { s with heap:=h' }:=I.kept (t':=s.toks) λb o e=>hx b o (eB (bW e)) e
 exact h ad _ Z H xs _ Q I1 (by simpa using rv) hw
def Du (to ti:TE)(t:DY):TG:=λv Z H Q=>to Z H λo H1=>ti Z H1 λi H2=>t o i v H2 λH3=>Q Z H3
theorem Ae {o i:aQ}{to ti:TE}{t:DY}(ho:PE X o to)(hi:PE X i ti)(hs:MZ X t)
  (ha:∀ v,jZ (.Subscript o i pos) X.env v=(do
   let ov <-nK [v] (bZ o X.env)
   let iv <-nK [v,ov] (bZ i X.env)
   standAt pos
   nK [v,ov,iv] (setItem ov iv v)
   release [v,ov,iv] []):=by intro _;rfl):PG X (.Subscript o i pos) (Du to ti t):=by
 intro ad s Z H v u Q I r h;rw[ha];refine aJ (jW (bb (ho ad s Z H _ I h) λov s1 gh=>?_))
 obtain⟨x,H1,I1,r1,q1⟩:=gh;refine aJ (jW (bb (hi ad s1 Z H1 _ I1 q1) λiv s2 gh=>?_))
 obtain⟨y,H2,I2,r2,q2⟩:=gh;refine aJ (wpAny_standAt (aJ (jW (bb (hs ad s2 Z H2 x y v ov iv u _ I2 r1 r2 r q2) λ_ s3 gh=>?_))))
 obtain⟨H3,I3,q3⟩:=gh;exact wpAny_release ⟨Z,H3,I3,q3⟩
def EA (te:TE)(g:TG):TS:=λD Z H=>te Z H λx H1=>g x Z H1 D.nx
theorem KI{te:TE}{g:TG}(he:PE X e te)(hg:PG X tg g)(hs:KY [tg] e pos.line X.env=pure ag:=by rfl)(hw:KZ [tg] e X.env=pure ae:=by rfl)
  (h1:(hJ [tg] X.env).map (·.2)=[jZ tg X.env]:=by rfl):PS X (.Assign [tg] e pos) (EA te g):=by
 intro ad s Z H D I h;refine wpAny_Assign_stores (bb (he ad s Z H _ I h) λv s1 ⟨x,H1,I1,r1,q1⟩=>?_) hs hw
 rw[h1];exact bb (hg ad s1 Z H1 x v _ I1 r1 q1) λ_ s2 q=>q
theorem FH{te:TE}{gm:bH}(hN:X.N.Nodup)(hi:X.N[i]?=aa x)(hx:iQ X.env.scope x)(he:PE X e te)(hs:iG e (aa (.Name x gm)) pos.line X.env=pure ag:=by rfl)(hf:X.fn x=af\/X.env.scope.names.lookup x=aa .local:=by first|exact .inl rfl|exact .inr rfl|assumption) :
  PS X (.Assign [.Name x gm] e pos) (EA te (xY i)):=by
 intro ad s Z H D I h;refine wpAny_Assign_Name (bb (he ad s Z H _ I h) λv s1 ⟨y,H1,I1,r1,q1⟩=>?_) hs
 exact SI I1 hN hi hx r1 (λs2 I2=>⟨_,H1,I2,q1⟩) hf
end
section
variable {X:Cx}
def Ku (c:TT)(tb:TS):TS:=λD Z H=>∃ W:Nat->St->Hp->Prop,(∃ m,W m Z H)/\∀ m Z H,W m Z H ->
 c Z H λb H1=>if b=af then ∃ N:St->Hp->Prop,(∀ Z' H',N Z' H'->∃ m',m'<m/\W m' Z' H')/\tb { D with nx:=N,ct:=N,bk:=D.nx } Z H1 else D.nx Z H1
theorem Uz{tc:TT}{tb:TS}(hp:sT (aX X.prog X.w) X.A X.env X.xe)(hc:PT X c tc)(hb:PSs X body tb):PS X (.While c body [] pos) (Ku tc tb):=by
 intro ad s Z H D I h;obtain⟨W,⟨m0,w0⟩,turn⟩:=h;refine wpAny_While (codeAny_whileLoop (λn s'=>∃ Z' H',Inv X ad Z' H' s'/\W n Z' H') ?_ m0 ⟨Z,H,I,w0⟩)
 rintro n s1 ⟨Z1,H1,I1,w1⟩;refine uZ hp (bb (hc ad s1 Z1 H1 _ I1 (turn n Z1 H1 w1)) λb s2 gh=>?_)
 obtain⟨H2,I2,q2⟩:=gh;cases b with
 |true=>
  obtain⟨N,hN,q2⟩:=q2;rw[if_pos rfl];refine uZ hp (bb (hb ad s2 Z1 H2 _ I2 q2) λf s3 q3=>?_)
  cases f with
  |next=>
   obtain⟨Z3,H3,I3,n3⟩:=q3
   grind
  |cont=>
   obtain⟨Z3,H3,I3,n3⟩:=q3
   grind
  |brk=>exact q3
  |ret v=>exact q3
 |false=>
  rw[if_neg kE];exact KW ⟨Z1,H2,I2,q2⟩
end
structure It where
 go:Nat->Hp->Prop
 yld:Nat->Hp->V->Hp->Prop
 stop:Nat->Hp->Prop
def iR (X:Cx)(ad:List (aC×bI))(H:Hp)(b:aC):Prop:=
 H b=ae/\b≠X.env.locals/\b∉X.fs/\(b∈X.ex\/X.s₀.heap.objs.size<=b)/\(∀ x c,X.env.cells.lookup x=aa c->c≠b)/\∀ p∈X.pn++ad,p.1≠b
theorem Inv.fpOk {X:Cx}{Z:St}{H H':Hp}(I:Inv X ad Z H s)(hb:s.heap.objs.size<=b)(hn:H' b=ae):iR X ad H' b:=by
 refine⟨hn,pF (iV I.lt hb),I.nofs hb,.inr (cM I.sz hb),λx c e z=>?_,λp hp z=>?_⟩
 .obtain⟨v,q⟩:=I.cell x c e;exact absurd (iV q.lt (by rw[z];exact hb)) (mK _)
 .exact absurd (iV (bW (I.pin p hp).1) (by rw[z];exact hb)) (mK _)
structure Turn (P:bN)(w:bD)(K:aK)(tg:aQ)(J:It)(fp:List aC)(it:aC)(tn:Nat->aU->Prop):Prop where
 mem:it∈fp
 obj:∀ i h,tn i h->∀ b∈fp,∃ o,h.get? b=aa o/\∀ v,o.data ≠ .cell v
 keep:∀ i h h',tn i h->(∀ b∈fp,∀ o,h.get? b=aa o->h'.get? b=aa o)->tn i h'
 item:∀ (X:Cx),X.prog=P->X.w=w->X.K=K->X.calm=af->∀ (i:Nat) (ad:List (aC×bI)) (s:aI) (Z:St) (H:Hp) (E:aF->aI->Prop),Inv X ad Z H s->(∀ b∈fp,iR X ad H b)->tn i s.heap->J.go i H ->
  aT (aX P w) X.A (jY (.ref it)) (λr s1=>∃ u,r=aa u /\
   aT (aX P w) X.A (LC tg (.ref it) u) (λ_ s2=>∃ x H',Inv X ad Z H' s2/\RelV x u/\J.yld i H x H'/\tn (i+1) s2.heap/\∀ b∈fp,H' b=ae) E s1) E s
 done:∀ (X:Cx),X.prog=P->X.w=w->X.K=K->X.calm=af->∀ (i:Nat) (ad:List (aC×bI)) (s:aI) (Z:St) (H:Hp) (E:aF->aI->Prop),Inv X ad Z H s->(∀ b∈fp,iR X ad H b)->tn i s.heap->J.stop i H ->
  aT (aX P w) X.A (jY (.ref it)) (λr s1=>r=ae/\Inv X ad Z H s1) E s
 self:∀ (A:cE) (i:Nat) (s:aI) (Q:aF->aI->Prop) (E:aF->aI->Prop),tn i s.heap->Q (.ref it) s->aT (aX P w) A (sP (.ref it)) Q E s
abbrev TI:=St->Hp->(It->Hp->Prop)->Prop
def xp (X:Cx)(ad:List (aC×bI))(Z:St)(tg:aQ)(R:It->Hp->Prop)(tz:aF)(s2:aI):Prop:=
 ∃ (it:aC) (fp:List aC) (tn:Nat->aU->Prop) (J:It) (H':Hp),tz=.ref it/\Inv X ad Z H' s2/\Turn X.prog X.w X.K tg J fp it tn/\tn 0 s2.heap/\(∀ b∈fp,iR X ad H' b)/\R J H'
def PI (X:Cx)(tg az:aQ)(wi:TI):Prop:=
 ∀ (ad:List (aC×bI)) (s:aI) (Z:St) (H:Hp) (R:It->Hp->Prop),Inv X ad Z H s->wi Z H R ->
  aT (aX X.prog X.w) X.A (bZ az X.env) (λv s1=>aT (aX X.prog X.w) X.A (sP v) (xp X ad Z tg R) X.xe s1) X.xe s
theorem xW{it:aC}{n:String}{vs:Array aF}{Q:Unit->aI->Prop}(ho:s.heap.get? it=aa o)(hc:o.cls=.type n)(hd:o.data=.fields vs)
    (hn:["enumerate","zip","dict_itemiterator","dict_reverseitemiterator","odict_iterator","itertools.zip_longest","itertools.pairwise"].contains n=ag) (hQ:Q Unit.unit s):aT M A (LC tg (.ref it) u) Q E s:=by
  unfold LC;cases tg<;>first
    |exact bA hQ
    | (cases u<;>first
        |exact bA hQ
        | (refine aJ (wpAny_load ho ?_)
           rw[hc,hd];show aT M A (if (["enumerate","zip","dict_itemiterator","dict_reverseitemiterator","odict_iterator","itertools.zip_longest","itertools.pairwise"].contains n&&vs[0]?==aa (gR _))=af then _ else _) Q E s
           rw[if_neg (by intro h;rw[hn,Bool.false_and] at h;cases h)]
           exact bA hQ))
def DJ (K:aK)(a:aC):It:=
 ⟨λi H=>∃ xs x,SqL K H a xs/\xs[i]?=aa x,λi H x H'=>H'=H/\∀ xs,SqL K H a xs->xs[i]?=aa x,λi H=>∃ xs,SqL K H a xs/\xs.length<=i⟩
def DD (K:aK)(a:aC):It:=
 ⟨λi H=>∃ xs x,SqT K H a xs/\xs[i]?=aa x,λi H x H'=>H'=H/\∀ xs,SqT K H a xs->xs[i]?=aa x,λi H=>∃ xs,SqT K H a xs/\xs.length<=i⟩
def zF (lo:Int)(n:Nat):It:=⟨λi _=>i<n,λi H x H'=>H'=H/\x=.int (lo+i),λi _=>n<=i⟩
theorem Ox {P:bN}{w:bD}(a it:aC):Turn P w K tg (DJ K a) [it] it (λi h=>h.IsListIter it a i) where
 mem:=by simp
 obj:=λi h st b hb=>by
  have e:b=it:=by simpa using hb
  subst e;obtain⟨o,e,c,d⟩:=st
  grind
 keep:=λi h h' st k=>st.at λo e=>k it (by simp) o e
 item:=by
  rw[1];obtain⟨xs,x,hq,hx⟩:=hg;obtain⟨its,rv,p,hz⟩:=I.list hq;obtain⟨u,hu,ru⟩:=rv.get hx;obtain⟨f0,f1,f2,f3,f4,f5⟩:=hf it (by simp)
  refine wpAny_pyNext_list_item st p.isList (x:=u) (by simpa using hu) λh' ft sb=>?_
  have I1:Inv X ad Z H { s with heap:=h' }:=I.turned (t':=s.toks) (λb o hb e=>(sb.2 b hb).trans e) f0 f1 f3 f4 f5
  obtain⟨o,e,c,d⟩:=id ft;exact⟨u,rfl,xW (s:={ s with heap:=h' }) e c d nofun ⟨x,H,I1,ru,⟨rfl,λys hy=>by rw[I.list_inj hy hq];exact hx⟩,ft,λb hb=>(hf b hb).1⟩⟩
 done:=by
  rw[1];obtain⟨xs,hq,hx⟩:=hg;obtain⟨its,rv,p,hz⟩:=I.list hq;obtain⟨f0,f1,f2,f3,f4,f5⟩:=hf it (by simp)
  have hl:=rv.length;exact wpAny_pyNext_list_end (I.ok.hd hc) st p.isList (by simp;lia) λh' eb=>⟨rfl,I.turned (t':=s.toks) (λb o hb e=>eb b o hb e) f0 f1 f3 f4 f5⟩
 self:=λ_ _ _ _ _ st h=>wpAny_pyIter_listiter st h
theorem Qr {P:bN}{w:bD}(a it:aC):Turn P w K tg (DD K a) [it] it (λi h=>h.IsTupleIter it a i) where
 mem:=by simp
 obj:=λi h st b hb=>by
  have e:b=it:=by simpa using hb
  subst e;obtain⟨o,e,c,d⟩:=st
  grind
 keep:=λi h h' st k=>st.at λo e=>k it (by simp) o e
 item:=by
  rw[1];obtain⟨xs,x,hq,hx⟩:=hg;obtain⟨its,rv,p,hz⟩:=I.tuple hq;obtain⟨u,hu,ru⟩:=rv.get hx;obtain⟨f0,f1,f2,f3,f4,f5⟩:=hf it (by simp)
  refine wpAny_pyNext_tuple_item st (show s.heap.IsTuple a its.toArray from p) (x:=u) (by simpa using hu) λh' ft sb=>?_
  have I1:Inv X ad Z H { s with heap:=h' }:=I.turned (t':=s.toks) (λb o hb e=>(sb.2 b hb).trans e) f0 f1 f3 f4 f5
  obtain⟨o,e,c,d⟩:=id ft;exact⟨u,rfl,xW (s:={ s with heap:=h' }) e c d nofun ⟨x,H,I1,ru,⟨rfl,λys hy=>by rw[I.tuple_inj hy hq];exact hx⟩,ft,λb hb=>(hf b hb).1⟩⟩
 done:=by
  rw[1];obtain⟨xs,hq,hx⟩:=hg;obtain⟨its,rv,p,hz⟩:=I.tuple hq;obtain⟨f0,f1,f2,f3,f4,f5⟩:=hf it (by simp)
  have hl:=rv.length;exact wpAny_pyNext_tuple_end (I.ok.hd hc) st (show s.heap.IsTuple a its.toArray from p) (by simp;lia) λh' eb=>⟨rfl,I.turned (t':=s.toks) (λb o hb e=>eb b o hb e) f0 f1 f3 f4 f5⟩
 self:=λ_ _ _ _ _ st h=>wpAny_pyIter_tupleiter st h
theorem Pu {P:bN}{w:bD}(it:aC)(lo:Int)(n:Nat):Turn P w K tg (zF lo n) [it] it (λi h=>IsRangeIter h it (lo+(i:Nat)*1) ((n:Int)-(i:Nat)) 1) where
 mem:=by simp
 obj:=λi h st b hb=>by
  grind
 keep:=λi h h' st k=>k it (by simp) _ st
 item:=by
  rw[1];obtain⟨f0,f1,f2,f3,f4,f5⟩:=hf it (by simp)
  have W:=Walks.range (prog:=X.prog) (w:=X.w) (I.ok.hd hc) it lo 1 n;refine W.item i s _ _ hg st λv h' tk hv ft kk=>?_
  obtain⟨t,rfl⟩:=hv;have I1:Inv X ad Z H { s with heap:=h',toks:=tk }:=I.turned (λb o hb e=>kk b o (by simpa using hb) e) f0 f1 f3 f4 f5
  refine⟨_,rfl,xW (s:={ s with heap:=h',toks:=tk }) (n:="range_iterator") ft rfl rfl nofun ⟨.int (lo+i),H,I1,⟨t,?_⟩,⟨rfl,rfl⟩,ft,λb hb=>(hf b hb).1⟩⟩
  rw[Int.mul_one]
 done:=by
  rw[1];obtain⟨f0,f1,f2,f3,f4,f5⟩:=hf it (by simp)
  exact wpAny_pyNext_range_end (I.ok.hd hc) st (by have:n<=i:=hg;lia) λh' eb=>⟨rfl,I.turned (t':=s.toks) (λb o hb e=>eb b o hb e) f0 f1 f3 f4 f5⟩
 self:=λ_ _ _ _ _ st h=>wpAny_pyIter_rangeiter st h
section
variable {X:Cx}
def Fk (K:aK)(tl:TE):TI:=λZ H R=>tl Z H λx H1=>∃ a,x=.ref a/\(∃ xs,SqL K H1 a xs)/\R (DJ K a) H1
def Ep (K:aK)(tl:TE):TI:=λZ H R=>tl Z H λx H1=>∃ a,x=.ref a/\(∃ xs,SqT K H1 a xs)/\R (DD K a) H1
theorem GU {l:aQ}{tl:TE}(hl:PE X l tl):PI X tg l (Fk X.K tl):=by
 intro ad s Z H R I h;refine bb (hl ad s Z H _ I h) λv s1 gh=>?_
 obtain⟨x,H1,I1,r1,q1⟩:=gh;obtain⟨a,e,⟨xs,hq⟩,q⟩:=q1;subst e;cases r1;obtain⟨its,rv,p,hz⟩:=I1.list hq;refine KQ p.isList ?_;refine⟨s1.heap.objs.size,[s1.heap.objs.size],_,_,H1,rfl,I1.kept (t':=s1.toks) λb o e=>bX _ e,Ox a _,⟨_,dG _ rfl,rfl,rfl⟩,λb hb=>?_,q⟩
 have e:b=s1.heap.objs.size:=by simpa using hb
 subst e;exact I1.fpOk (bJ _) (I1.hok.fresh (bJ _))
theorem Ih {l:aQ}{tl:TE}(hl:PE X l tl):PI X tg l (Ep X.K tl):=by
 intro ad s Z H R I h;refine bb (hl ad s Z H _ I h) λv s1 gh=>?_
 obtain⟨x,H1,I1,r1,q1⟩:=gh;obtain⟨a,e,⟨xs,hq⟩,q⟩:=q1;subst e;cases r1;obtain⟨its,rv,p,hz⟩:=I1.tuple hq;refine wpAny_pyIter_tuple (show s1.heap.IsTuple a its.toArray from p) ?_
 refine⟨s1.heap.objs.size,[s1.heap.objs.size],_,_,H1,rfl,I1.kept (t':=s1.toks) λb o e=>bX _ e,Qr a _,⟨_,dG _ rfl,rfl,rfl⟩,λb hb=>?_,q⟩
 have e:b=s1.heap.objs.size:=by simpa using hb
 subst e;exact I1.fpOk (bJ _) (I1.hok.fresh (bJ _))
theorem Vg{Z:St}{H:Hp}{R:It->Hp->Prop}{lo hi:Int}{t u v:Tok}{tk:Nat}(I:Inv X ad Z H s)(h1 : -(2^62)<=lo)(h2:lo<2^62)(h3 : -(2^62)<=hi)(h4:hi<2^62)
  (q:R (zF lo (hi-lo).toNat) H):aT (aX X.prog X.w) X.A (sP (.ref s.heap.objs.size)) (xp X ad Z tg R) E { s with heap:=s.heap.push { cls:=.type "range",data:=.fields #[.int lo t,.int hi u,.int 1 v] },toks:=tk }:=by
 refine wpAny_pyIter_range (IsRange.new ..) (small_one h1 h2 h3 h4) ?_;have I1:Inv X ad Z H { s with heap:=s.heap.push { cls:=.type "range",data:=.fields #[.int lo t,.int hi u,.int 1 v] },toks:=tk }:=I.kept λb o e=>bX _ e
 refine⟨(s.heap.push { cls:=.type "range",data:=.fields #[.int lo t,.int hi u,.int 1 v] }).objs.size,[(s.heap.push { cls:=.type "range",data:=.fields #[.int lo t,.int hi u,.int 1 v] }).objs.size],_,_,H,rfl,
  I1.kept (t':=tk) λb o e=>bX _ e,Pu _ lo (hi-lo).toNat,?_,λb hb=>?_,q⟩
 .have e1:lo+((0:Nat):Int)*1=lo:=by simp
  have e2:(((hi-lo).toNat:Nat):Int)-((0:Nat):Int)=Builtin.Range.rangeSize lo hi 1:=by rw[rangeSize_one];split<;>lia
  show IsRangeIter _ _ (lo+((0:Nat):Int)*1) ((((hi-lo).toNat:Nat):Int)-((0:Nat):Int)) 1;rw[e1,e2];exact dG _ rfl
 .have e:b=(s.heap.push { cls:=.type "range",data:=.fields #[.int lo t,.int hi u,.int 1 v] }).objs.size:=by simpa using hb
  subst e;exact I1.fpOk (bJ _) (I1.hok.fresh (bJ _))
def Gg (ta:TA):TI:=λZ H R=>ta Z H λvs H1=>∃ j:Int,vs=[.int j] /\ -(2^62)<=j/\j<2^62/\R (zF 0 j.toNat) H1
theorem Ou {a:aQ}{ta:TA}(hg:Gl X "range")(hm:X.mg "range" = ae)(ha:PA X [a] ta)(hs:cC [a] X.env=[(ag,bZ a X.env)]:=by rfl):PI X tg (.Call (.Name "range" p) [a] [] pos) (Gg ta):=by
 intro ad s Z H R I h;refine Call_ (uC I hg hm boot_range (LL (bb (ha pos ad s Z H _ I h) λus s1 ⟨vs,H1,I1,r1,q1⟩=>?_) hs rfl))
 obtain⟨j,e,q1,q2,q⟩:=q1;subst e;cases r1 with
 |cons r rr=>
  cases rr;obtain⟨t,rfl⟩:=r;exact call_range_1 (Vg I1 () () q1 q2 (by simpa using q))
def Dy (wi:TI)(g:TG)(tb:TS):TS:=λD Z H=>wi Z H λJ H1=>∃ W:Nat->Nat->St->Hp->Prop,(∃ m,W 0 m Z H1)/\∀ i m Z H,W i m Z H ->
 (J.stop i H/\D.nx Z H)\/(J.go i H/\∃ N:St->Hp->Prop,(∀ Z' H',N Z' H'->∃ m',m'<m/\W (i+1) m' Z' H')/\∀ x H',J.yld i H x H'->g x Z H' λZ2 H2=>tb { D with nx:=N,ct:=N,bk:=D.nx } Z2 H2)
def wJ (fp:List aC)(h:aU):List (aC×bI):=fp.filterMap λb=>(h.get? b).map λo=>(b,o)
theorem BN(hb:b∈fp)(e:h.get? b=aa o):(b,o)∈wJ fp h:=qR.2 ⟨b,hb,by rw[e];rfl⟩
theorem Ol{p:aC×bI}(hp:p∈wJ fp h):p.1∈fp/\h.get? p.1=aa p.2:=by
 obtain⟨b,hb,e⟩:=qR.1 hp;cases q:h.get? b with
 |none=>rw[q] at e;cases e
 |some o=>
  grind
theorem Inv.pinned{Z:St}{H:Hp}(I:Inv X ad Z H s)(hf:∀ b∈fp,iR X ad H b)(ho:∀ b∈fp,∃ o,s.heap.get? b=aa o/\∀ v,o.data ≠ .cell v):Inv X (ad++wJ fp s.heap) Z H s:=
 I.pins_of λp hp=>(eM.1 hp).elim (λz=>I.pin p (mM _ z)) λz=>by
  obtain⟨hb,e⟩:=Ol z;obtain⟨f0,f1,f2,_⟩:=hf p.1 hb
  grind
theorem Inv.unpinned {pl:List (aC×bI)}{Z:St}{H:Hp}(I:Inv X (ad++pl) Z H s):Inv X ad Z H s:=I.pins_of λp hp=>I.pin p (mM _ (LZ _ hp))
theorem FF {az:aQ}{wi:TI}{g:TG}{tb:TS}(hp:sT (aX X.prog X.w) X.A X.env X.xe)(hc:X.calm=af)(hi:PI X tg az wi)(hg:PG X tg g)(hb:PSs X body tb)
  (hs:∀ x,kP az X.env x=pure x:=by intro _;rfl):PS X (.For tg az body [] pos) (Dy wi g tb):=by
 intro ad s Z H D I h;refine wpAny_For (bb (hi ad s Z H _ I h) λv s1 h1=>bb h1 λtz s2 h2=>?_) hs
 obtain⟨it,fp,tn,J,H2,e,I2,T,jv,f2,W,⟨m0,w0⟩,turn⟩:=h2;subst e;have g8:∀ {H':Hp},(∀ b∈fp,H' b=ae)->∀ b∈fp,iR X ad H' b:=λhn b hb=>⟨hn b hb,(f2 b hb).2⟩
 refine codeAny_forLoop_any (λn s'=>∃ i Z' H',Inv X ad Z' H' s'/\tn i s'.heap/\(∀ b∈fp,H' b=ae)/\W i n Z' H') ?_ m0 ⟨0,Z,H2,I2,jv,λb hb=>(f2 b hb).1,w0⟩
 rintro n s3 ⟨i,Z3,H3,I3,qf,qg,w3⟩;rcases turn i n Z3 H3 w3 with⟨stop,qn⟩|⟨go,N,hN,step⟩
 .refine uZ hp (bb (T.done X rfl rfl rfl hc i ad s3 Z3 H3 X.xe I3 (g8 qg) qf stop) λr s4 gh=>?_)
  obtain⟨hr,I4⟩:=gh;subst hr;exact KW ⟨Z3,H3,I4,qn⟩
 .refine uZ hp (bb (T.item X rfl rfl rfl hc i ad s3 Z3 H3 X.xe I3 (g8 qg) qf go) λr s4 gh=>?_)
  obtain⟨u,hr,h4⟩:=gh;subst hr;refine uZ hp (bb h4 λ_ s5 gh=>?_)
  obtain⟨x,H5,I5,r5,y5,m8,ve⟩:=gh;have vf:=I5.pinned (g8 ve) (T.obj _ _ m8);refine uZ hp (bb (hg _ s5 Z3 H5 x u _ vf r5 (step x H5 y5)) λ_ s6 gh=>?_)
  obtain⟨Z6,H6,I6,q6⟩:=gh;refine uZ hp (bb (hb _ s6 Z6 H6 _ I6 q6) λf s7 q7=>?_)
  have again:∀ {Z7:St} {H7:Hp},Inv X (ad++wJ fp s5.heap) Z7 H7 s7->N Z7 H7->∃ m,m<n/\∃ i Z' H',Inv X ad Z' H' s7/\tn i s7.heap/\(∀ b∈fp,H' b=ae)/\W i m Z' H':=λ{Z7 H7} I7 n7=>by
   obtain⟨m',hm,w7⟩:=hN Z7 H7 n7;refine⟨m',hm,i+1,Z7,H7,I7.unpinned,T.keep _ _ _ m8 λb hb o e=>(I7.pin (b,o) (mM _ (mM _ (BN hb e)))).1,λb hb=>?_,w7⟩
   obtain⟨o,e,d⟩:=T.obj _ _ m8 b hb;exact(I7.pin (b,o) (mM _ (mM _ (BN hb e)))).2.1
  cases f with
  |next=>obtain⟨Z7,H7,I7,n7⟩:=q7;exact again I7 n7
  |cont=>obtain⟨Z7,H7,I7,n7⟩:=q7;exact again I7 n7
  |brk=>obtain⟨Z7,H7,I7,q7⟩:=q7;exact⟨Z7,H7,I7.unpinned,q7⟩
  |ret v=>obtain⟨x7,Z7,H7,I7,r7,q7⟩:=q7;exact⟨x7,Z7,H7,I7.unpinned,r7,q7⟩
end
abbrev R2:=V->V->Hp->VK->Prop
def OpR (X:Cx)(f:aF->aF->Sem aF)(r:R2):Prop:=
 ∀ (ad:List (aC×bI)) (s:aI) (Z:St) (H:Hp) (x y:V) (v u:aF) (Q:VK),Inv X ad Z H s->RelV x v->RelV y u->r x y H Q ->
  aT (aX X.prog X.w) X.A (f v u) (EP X ad Z Q) X.xe s
def Adc (X:Cx)(f:aF)(r:List V->Hp->VK->Prop):Prop:=
 ∀ (ad:List (aC×bI)) (s:aI) (Z:St) (H:Hp) (xs:List V) (us:List aF) (Q:VK),Inv X ad Z H s->Vals xs us->r xs H Q ->
  aT (aX X.prog X.w) X.A (call f us) (EP X ad Z Q) X.xe s
def p9 (r:R2)(ta tb:TE):TE:=λZ H Q=>ta Z H λx H1=>tb Z H1 λy H2=>r x y H2 Q
def rI (C:Int->Int->Prop)(g:Int->Int->V):R2:=λx y H Q=>∃ i j,x=.int i/\y=.int j/\C i j/\Q (g i j) H
def km (g:Int->Int->V):R2:=λx y H Q=>∃ i j,x=.int i/\y=.int j/\Q (g i j) H
section
variable {X:Cx}{a b:aQ}{ta tb tc:TE}
theorem DR (ha:PE X a ta)(hb:PE X b tb){Z:St}{H:Hp}{R:V->V->Hp->Prop}(I:Inv X ad Z H s)
  (h:ta Z H λx H1=>tb Z H1 λy H2=>R x y H2) {Q:aF->aI->Prop} {f:aF->aF->Sem aF}
  (hf:∀ v u s2 x y H2,Inv X ad Z H2 s2->RelV x v->RelV y u->R x y H2->aT (aX X.prog X.w) X.A (f v u) Q X.xe s2) :
  aT (aX X.prog X.w) X.A (bZ a X.env) (λv s₁=>aT (aX X.prog X.w) X.A (bZ b X.env) (λu s₂=>aT (aX X.prog X.w) X.A (f v u) Q X.xe s₂) X.xe s₁) X.xe s:=by
 refine bb (ha ad s Z H _ I h) λv s1 gh=>?_
 obtain⟨x,H1,I1,r1,q1⟩:=gh;refine bb (hb ad s1 Z H1 _ I1 q1) λu s2 gh=>?_
 obtain⟨y,H2,I2,r2,q2⟩:=gh;exact hf v u s2 x y H2 I2 r1 r2 q2
theorem Ga {op:Operator}{r:R2}(ho:OpR X (jQ op) r)(ha:PE X a ta)(hb:PE X b tb):PE X (.BinOp a op b pos) (p9 r ta tb):=by
 rw[8];exact wpAny_BinOp (DR ha hb I h λv u s2 x y H2 I2 rx ry q=>ho ad s2 Z H2 x y v u Q I2 rx ry q)
theorem p7 {f:aF->aF->Sem aF}{C:Int->Int->Prop}{g:Int->Int->Int}
  (rule:∀ (i j:Int) (t u:Tok) (s:aI) (Q:aF->aI->Prop) (E:aF->aI->Prop),C i j->Q (.int (g i j) s.toks) { s with toks:=s.toks+1 }->aT (aX X.prog X.w) X.A (f (.int i t) (.int j u)) Q E s) :
  OpR X f (rI C λi j=>.int (g i j)):=by
 rw[3];obtain⟨i,j,rfl,rfl,hc,q⟩:=h;obtain⟨t,rfl⟩:=rx;obtain⟨t',rfl⟩:=ry;exact rule i j t t' s _ _ hc ⟨.int (g i j),H,I.tok _,⟨_,rfl⟩,q⟩
theorem NQ {f:aF->aF->Sem aF}{g:Int->Int->Int}
  (rule:∀ (i j:Int) (t u:Tok) (s:aI) (Q:aF->aI->Prop) (E:aF->aI->Prop),Q (.int (g i j) s.toks) { s with toks:=s.toks+1 }->aT (aX X.prog X.w) X.A (f (.int i t) (.int j u)) Q E s) :
  OpR X f (km λi j=>.int (g i j)):=by
 rw[3];obtain⟨i,j,rfl,rfl,q⟩:=h;obtain⟨t,rfl⟩:=rx;obtain⟨t',rfl⟩:=ry;exact rule i j t t' s _ _ ⟨.int (g i j),H,I.tok _,⟨_,rfl⟩,q⟩
theorem NG {f:aF->aF->Sem aF}{g:Int->Int->Bool}
  (rule:∀ (i j:Int) (t u:Tok) (s:aI) (Q:aF->aI->Prop) (E:aF->aI->Prop),Q (.bool (g i j)) s->aT (aX X.prog X.w) X.A (f (.int i t) (.int j u)) Q E s) :
  OpR X f (km λi j=>.bl (g i j)):=by
 rw[3];obtain⟨i,j,rfl,rfl,q⟩:=h;obtain⟨t,rfl⟩:=rx;obtain⟨t',rfl⟩:=ry;exact rule i j t t' s _ _ ⟨.bl (g i j),H,I,rfl,q⟩
def Eb (i j:Int):Prop:=0<j/\j<1073741824
def Em (i j:Int):Prop:=0<=j/\j<=1000000/\i.natAbs<2^64
def Bgi (i j:Int):Prop:=(-(2^64)<i/\i<2^64)\/(-(2^64)<j/\j<2^64)
theorem Bgi.ok {i j:Int}(h:Bgi i j):IntMulOk i j:=by
 rcases h with⟨h1,h2⟩|⟨h1,h2⟩
 .exact .of_left (intBits_le_64 h1 h2)
 .exact .of_right (intBits_le_64 h1 h2)
theorem Bd5:OpR X (jQ .Add) (km λi j=>.int (i+j)):=NQ λ_ _ _ _ _ _ _ q=>add_int q
theorem Gz:OpR X (jQ .Sub) (km λi j=>.int (i-j)):=NQ λ_ _ _ _ _ _ _ q=>sub_int q
theorem Ig:OpR X (jQ .Mult) (rI Bgi λi j=>.int (i*j)):=p7 λ_ _ _ _ _ _ _ hc q=>mul_int q hc.ok
theorem My:OpR X (jQ .FloorDiv) (rI Eb λi j=>.int (i/j)):=p7 λi j _ _ _ _ _ hc q=>by
 have h1:(0:Int)<j:=hc.1;have h2:j<1073741824:=hc.2;exact floordiv_int () (by rw[Int.fdiv_eq_ediv_of_nonneg i ()];exact q) (.inl (PyProof.noPylong_small ()))
theorem Jn:OpR X (jQ .Mod) (rI (λ_ j=>0<j) λi j=>.int (i%j)):=p7 λi j _ _ _ _ _ hc q=>by
 have h1:(0:Int)<j:=hc;exact mod_int' () (by rw[Int.fmod_eq_emod_of_nonneg i ()];exact q)
theorem Ie:OpR X (jQ .Pow) (rI Em λi j=>.int (i^j.toNat)):=p7 λ_ _ _ _ _ _ _ hc q=>pow_int_small hc.1 hc.2.1 hc.2.2 q
end
section
variable {X:Cx}{a b:aQ}{ta tb tc:TE}
theorem zU{Z:St}{H:Hp}{Q:VK}{k k':Bool}(I:Inv X ad Z H s)(q:Q (.bl k) H)(e:k=k'):EP X ad Z Q (.bool k') s:=by
 subst e;exact⟨.bl k,H,I,rfl,q⟩
theorem Bf6:OpR X (iH .Lt) (km λi j=>.bl (decide (i<j))):=NG λ_ _ _ _ _ _ _ q=>lt_int q
theorem JY:OpR X (iH .Gt) (km λi j=>.bl (decide (j<i))):=NG λ_ _ _ _ _ _ _ q=>gt_int q
theorem Nr:OpR X (iH .Lt) (λx y H Q=>∃ i j,x=.str i/\y=.str j/\Q (.bl (decide (i.cps.toList<j.cps.toList))) H):=by
 rw[3];obtain⟨i,j,rfl,rfl,q⟩:=h;obtain⟨t,rfl⟩:=rx;obtain⟨t',rfl⟩:=ry;exact lt_str (zU I q rfl)
theorem Nw:OpR X (iH .In) (λx y H Q=>∃ i j,x=.str i/\y=.str j/\Q (.bl (!(MQ j i 0 j.length 1).isEmpty)) H):=by
 rw[3];obtain⟨i,j,rfl,rfl,q⟩:=h;obtain⟨t,rfl⟩:=rx;obtain⟨t',rfl⟩:=ry;exact in_str (zU I q rfl)
theorem FI:OpR X (iH .Is) (λx y H Q=>y=.non/\Q (.bl (decide (x=.non))) H):=by
 rw[3];obtain⟨rfl,q⟩:=h;cases ry;refine is_none_gen (zU I q ?_);cases x<;>first
  |(cases rx;rfl)
  |(obtain⟨t,rfl⟩:=rx;rfl)
theorem PX:OpR X (iH .IsNot) (λx y H Q=>y=.non/\Q (.bl (!decide (x=.non))) H):=by
 rw[3];obtain⟨rfl,q⟩:=h;cases ry;refine isnot_none_gen (zU I q ?_);cases x<;>first
  |(cases rx;rfl)
  |(obtain⟨t,rfl⟩:=rx;rfl)
theorem OpR.or {f:aF->aF->Sem aF}{r r':R2}(h:OpR X f r)(h':OpR X f r'):OpR X f (λx y H Q=>r x y H Q\/r' x y H Q):=by
 intro ad s Z H x y v u Q I rx ry q;rcases q with q|q
 .exact h ad s Z H x y v u Q I rx ry q
 .exact h' ad s Z H x y v u Q I rx ry q
theorem kI (b:aQ)(h:op ≠ .In:=by decide)(h2:op ≠ .NotIn:=by decide):sQ op b=ag:=by
 have e1:(op==CmpOp.In)=ag:=by cases op<;>first|rfl|exact absurd rfl h
 have e2:(op==CmpOp.NotIn)=ag:=by cases op<;>first|rfl|exact absurd rfl h2
 cases b<;>simp[sQ,e1,e2]
theorem Ua{r:R2}(ho:OpR X (iH op) r)(ha:PE X a ta)(hb:PE X b tb)(hm:sQ op b=ag):PE X (.Compare a [op] [b] pos) (p9 r ta tb):=by
 rw[8];exact wpAny_Compare1 (DR ha hb I h λv u s2 x y H2 I2 rx ry q=>ho ad s2 Z H2 x y v u Q I2 rx ry q) hm
def Gd (t:TE):TT:=λZ H Q=>t Z H λx H'=>∃ k,x=.bl k/\Q k H'
theorem GA{r:R2}(ho:OpR X (iH op) r)(ha:PE X a ta)(hb:PE X b tb)(hm:sQ op b=ag):PT X (.Compare a [op] [b] pos) (Gd (p9 r ta tb)):=by
 rw[8];refine wpAny_isTrue_Compare1 (bb (ha ad s Z H _ I h) λv s1 ⟨x,H1,I1,r1,q1⟩=>bb (hb ad s1 Z H1 _ I1 q1) λu s2 ⟨y,H2,I2,r2,q2⟩=>
  bb (ho ad s2 Z H2 x y v u _ I2 r1 r2 q2) λc s3 ⟨z,H3,I3,r3,k,e,q3⟩=>?_) hm
 subst e;cases r3;exact KO ⟨H3,I3,q3⟩
theorem rT:(sizeLine:Nat)<2^63:=by rw[vD];decide
theorem Awc:OpR X (jQ .Add) (λx y H Q=>∃ i j,x=.str i/\y=.str j/\i.length+j.length<=sizeLine/\Q (.str (i++j)) H):=by
 rw[3];obtain⟨i,j,rfl,rfl,hz,q⟩:=h;obtain⟨t,rfl⟩:=rx;obtain⟨t',rfl⟩:=ry;exact add_str (λt' tk=>⟨.str (i++j),H,I.tok _,⟨_,rfl⟩,q⟩) hz
theorem vals1 {x:V}(r:Vals [x] us):∃ u,us=[u]/\RelV x u:=by
 cases r with
 |cons r1 r2=>cases r2;exact⟨_,rfl,r1⟩
theorem vals2 {x y:V}(r:Vals [x,y] us):∃ u w',us=[u,w']/\RelV x u/\RelV y w':=by
 cases r with
 |cons r1 r2=>
  cases r2 with
  |cons r3 r4=>cases r4;exact⟨_,_,rfl,r1,r3⟩
theorem UC (hc:X.calm=af):Adc X (.builtin "max") (λxs H Q=>∃ i j,xs=[.int i,.int j]/\Q (.int (if j > i then j else i)) H):=by
 rw[6];obtain⟨i,j,rfl,q⟩:=h;obtain⟨u,w',rfl,⟨t,rfl⟩,⟨t',rfl⟩⟩:=vals2 r;refine max_two_ints (I.ok.hd hc) λh' tk k=>⟨_,H,I.kept k,?_,q⟩
 by_cases hj:j > i
 .rw[if_pos hj,if_pos hj];exact⟨_,rfl⟩
 .rw[if_neg hj,if_neg hj];exact⟨_,rfl⟩
theorem Yj (hc:X.calm=af):Adc X (.builtin "min") (λxs H Q=>∃ i j,xs=[.int i,.int j]/\Q (.int (if j<i then j else i)) H):=by
 rw[6];obtain⟨i,j,rfl,q⟩:=h;obtain⟨u,w',rfl,⟨t,rfl⟩,⟨t',rfl⟩⟩:=vals2 r;refine min_two_ints (I.ok.hd hc) λh' tk k=>⟨_,H,I.kept k,?_,q⟩
 by_cases hj:j<i
 .rw[if_pos hj,if_pos hj];exact⟨_,rfl⟩
 .rw[if_neg hj,if_neg hj];exact⟨_,rfl⟩
end
structure ObjM (h:aU)(x dx C:aC)(mA:aE->Option aF):Prop where
 obj:h.get? x=aa (Cb C dx)
 ns:h.Ns1 dx mA
 ne:dx≠x
theorem Pm{mA:aE->Option aF}(n:h.Ns1 dx mA):∃ od,h.get? dx=aa od/\∀ name,Bw name od=aa (mA name):=by
 obtain⟨o,es,ep,ho,hd,hk,_,hm⟩:=n;refine⟨o,ho,λname=>?_⟩
 have e:=hm name;unfold nsFind findBy at e;rw[<-Array.find?_toList] at e;unfold Bw;rw[hd];dsimp only;split
 .rename_i y q;rw[q] at e;exact congrArg aa e
 .rename_i q;rw[q] at e;have a:es.toList.any (·.refKey)=ag:=by
   rw[Dg];intro y hy;obtain⟨z,t,g9⟩:=hk y (Array.mem_toList_iff.1 hy);simp[DictEntry.refKey,g9]
  grind
theorem ObjM.look{x:aC}{mA:aE->Option aF}(I:ObjM h x dx C mA):∃ od,PySem.W.InstAt h x (Cb C dx) C (aa od)/\∀ name,Bw name od=aa (mA name):=
 let ⟨od,ho,hl⟩:=Pm I.ns
 ⟨od,⟨I.obj,rfl,rfl,ho⟩,hl⟩
theorem Arj.some_of {v:V}{o:Option aF}(r:Arj (aa v) o):∃ u,o=aa u/\RelV v u:=by
 cases o with
 |none=>exact(show False from r).elim
 |some u=>exact⟨u,rfl,r⟩
theorem Arj.none_of {o:Option aF}(r:Arj ae o):o=ae:=by
 cases o with
 |none=>rfl
 |some u=>exact(show False from r).elim
section
variable {P:bN}{w:bD}{H H':Hp}{fs u7:List (aE×V)}
theorem Tq (hok:HOk P w H h)(e:H a=aa (.ins C dx fs)):∃ mA,ObjM h a dx C mA/\(∀ f,Arj (fs.lookup f) (mA f))/\PySem.Within mA (fs.map (·.1))/\fs.length<=1000/\H dx=aa (.own a):=by
 obtain⟨d,z,ne,ob,mA,n,r,q⟩:=(show Acu P w H h a (.ins C dx fs) from hok a _ e)
 exact⟨mA,⟨ob,n,ne⟩,r,q,z,d⟩
end
structure Cls (K:aK)(C:aC):Prop where
 pg:PySem.W.plainGet K C Str.empty=af
 hd:PySem.W.hasDictIn K C=af
 po:PySem.W.plainOver K C=af
 sa:PySem.W.findIn K (.ref C) "__setattr__" = aa (aa (.builtin "object.__setattr__"))
theorem Cls.get(c:Cls K C)(f:aE):PySem.W.plainGet K C f=af:=c.pg
section
variable {X:Cx}{Z:St}{H:Hp}{c:aF}{b:Bool}
inductive TyOf (K:aK)(H:Hp):V->aF->Prop where
 |non:TyOf K H .non (.type "NoneType")
 |bl (x:Bool):TyOf K H (.bl x) (.type "bool")
 |int (i:Int):TyOf K H (.int i) (.type "int")
 |str (x:aE):TyOf K H (.str x) (.type "str")
 |flt (x:UInt64):TyOf K H (.flt x) (.type "float")
 |lst {a:aC} {xs:List V} (e:H a=aa (.lst xs)):TyOf K H (.ref a) (.type "list")
 |frz {a:aC} {o:bI} {xs:List V} (e:H a=aa (.frz o (.lst xs))):TyOf K H (.ref a) (.type "list")
 |tup {a:aC} {xs:List V} (e:H a=aa (.tup xs)):TyOf K H (.ref a) (.type "tuple")
 |dK {a:aC} {ep:Nat} {kvs:List (aG×V)} (e:H a=aa (.dK ep kvs)):TyOf K H (.ref a) (.type "dict")
 |dT {a:aC} {ep:Nat} {kvs:List (List aA×V)} (e:H a=aa (.dT ep kvs)):TyOf K H (.ref a) (.type "dict")
 |ins {a C dx:aC} {fs:List (aE×V)} (e:H a=aa (.ins C dx fs)) (cl:Cls K C) (ha:PySem.W.findIn K (.ref C) "__class__" = aa (aa (.builtin "object.__class__")))
   (hn:PySem.W.specialIn K (.builtin "object.__class__") "__get__" = aa (aa (.builtin "getset_descriptor.__get__"))) (t3:PySem.W.takesIn K (.builtin "object.__class__")=aa af)
   (hm:PySem.W.mroIn K C (.type "object")=aa af):TyOf K H (.ref a) (.ref C)
theorem Xw {x:V}{t:aF}(I:Inv X ad Z H s)(rx:RelV x u)(ty:TyOf X.K H x t)(e:Ca X.K t c=aa b)(h:∀ tk,Q (.bool b) { s with toks:=tk }) :
  aT (aX X.prog X.w) A (call (.builtin "isinstance") [u,c]) Q E s:=by
 cases ty with
 |non=>cases(show u=fT from rx);exact lE PySem.W.kitx_none I.kIn nN e (λz=>nomatch z) h
 |bl y=>cases(show u=Value.bool y from rx);exact lE PySem.W.kitx_bool I.kIn nN e (λz=>nomatch z) h
 |int i=>obtain⟨t,q⟩:=(show ∃ t,u=sS i t from rx);cases q;exact lE PySem.W.kitx_int I.kIn nN e (λz=>nomatch z) h
 |str y=>obtain⟨t,q⟩:=(show ∃ t,u=sR y t from rx);cases q;exact lE PySem.W.kitx_str I.kIn nN e (λz=>nomatch z) h
 |flt y=>obtain⟨t,q⟩:=(show ∃ t,u=Value.float y t from rx);cases q;exact lE PySem.W.kitx_float I.kIn nN e (λz=>nomatch z) h
 |@lst a xs ea=>
  cases(show u=fR a from rx)
  obtain⟨_,_,n,_,h1⟩:=(show Acu X.prog X.w H s.heap a (.lst xs) from I.hok a _ ea)
  exact lE By I.kIn ⟨_,h1,rfl⟩ e (λz=>nomatch z) h
 |@frz a ob xs ea=>
  cases(show u=fR a from rx)
  obtain⟨_,_,_,n,_,h1⟩:=(show Acu X.prog X.w H s.heap a (.frz ob (.lst xs)) from I.hok a _ ea)
  exact lE By I.kIn ⟨_,h1,rfl⟩ e (λz=>nomatch z) h
 |@tup a xs ea=>
  cases(show u=fR a from rx)
  obtain⟨_,_,_,p⟩:=(show Acu X.prog X.w H s.heap a (.tup xs) from I.hok a _ ea)
  obtain⟨o,h1,h2,_⟩:=p.1;exact lE PySem.W.kitx_tuple I.kIn ⟨o,h1,h2⟩ e (λz=>nomatch z) h
 |@dK a ep kvs ea=>
  cases(show u=fR a from rx)
  obtain⟨_,_,vs,_,p⟩:=(show Acu X.prog X.w H s.heap a (.dK ep kvs) from I.hok a _ ea)
  obtain⟨o,es,h1,h2,_⟩:=p;exact lE Bz I.kIn ⟨o,h1,h2.1⟩ e (λz=>nomatch z) h
 |@dT a ep kvs ea=>
  cases(show u=fR a from rx)
  obtain⟨_,_,xs,_,o,es,h1,h2,_⟩:=(show Acu X.prog X.w H s.heap a (.dT ep kvs) from I.hok a _ ea)
  exact lE Bz I.kIn ⟨o,h1,h2.1⟩ e (λz=>nomatch z) h
 |@ins a C dx fs ea cl ha hn t3 hm=>
  cases(show u=fR a from rx)
  obtain⟨mA,O,_⟩:=Tq I.hok ea;obtain⟨od,J,_⟩:=O.look;exact lE (PySem.W.kitx_own (cl.get _) cl.hd ha hn t3 hm) I.kIn J e (λz=>nomatch z) h
end
structure Room (k:Nat)(A:cE):Prop where
 hd:A.handled=ae
 dp:A.depth+3*k+5<recursionLimit
 un:A.units+16*k+200<cLine
theorem Room.mono {k:Nat}(r:Room k A)(h:j<=k):Room j A:=⟨r.hd,by have:=r.dp;lia,by have:=r.un;lia⟩
theorem Room.deeper {k:Nat}(r:Room (k+1) A)(env:eQ):Room k (A.deeper env):=
 ⟨r.hd,by have:=r.dp;show A.depth+1+3*k+5<_;lia,by have:=r.un;show A.units+3+16*k+200<_;lia⟩
theorem Room.depth {k:Nat}(r:Room k A):A.depth<recursionLimit:=by have:=r.dp;lia
theorem Room.units {k:Nat}(r:Room k A):A.units+64<cLine:=by have:=r.un;lia
abbrev EE:TA:=λ_ H Q=>Q [] H
abbrev vY (ta:TE)(tr:TA):TA:=λZ H Q=>ta Z H λx H1=>tr Z H1 λxs H2=>Q (x::xs) H2
section
variable {X:Cx}{te:TE}{t:TA}
theorem gY:PA X [] EE:=λ_ _ _ _ H Q I h=>Calls.spliced_nil ⟨[],H,I,.nil,h⟩
theorem eN (ha:PE X e te)(hr:PA X es t)(hs:cC (e::es) X.env=(ag,bZ e X.env)::cC es X.env:=by rfl):PA X (e::es) (vY te t):=by
 intro pos ad s Z H Q I h;rw[hs];show aT _ _ (spliced ((ag,bZ e X.env)::jG pos (cC es X.env))) _ _ s;refine Dk (bb (ha ad s Z H _ I h) λu s1 gh=>?_)
 obtain⟨x,H1,I1,r1,q1⟩:=gh;exact bb (hr pos ad s1 Z H1 _ I1 q1) λus s2 ⟨xs,H2,I2,r2,q2⟩=>⟨x::xs,H2,I2,.cons r1 r2,q2⟩
def NH (t:TA):TE:=λZ H Q=>t Z H λxs H1=>xs.length<=sizeLine/\∀ p,H1 p=ae->Q (.ref p) (upd H1 p (.tup xs))
def Ex (t:TA):TE:=λZ H Q=>t Z H λxs H1=>xs.length<=sizeLine/\∀ p,H1 p=ae->Q (.ref p) (upd H1 p (.lst xs))
theorem AA {x1}(h:PA X es t):PE X (.Tuple es x1 pos) (NH t):=by
 intro ad s Z H Q I hq;refine wpAny_Tuple_spliced (bb (h pos ad s Z H _ I hq) λus s1 ⟨xs,H1,I1,r,z,q⟩=>⟨by rw[<-r.length];exact z,?_⟩)
 have hf:H1 s1.heap.objs.size=ae:=I1.hok.fresh (bJ _);refine⟨.ref s1.heap.objs.size,upd H1 s1.heap.objs.size (.tup xs),I1.laid (t':=s1.toks) (λb u e=>bX _ e) (bJ _) ?_,rfl,q _ hf⟩
 exact⟨z,us,r,⟨_,dG _ rfl,rfl,_,rfl⟩,_,dG _ rfl,rfl⟩
theorem Je (h:PA X es t):PE X (.List es pos) (Ex t):=by
 intro ad s Z H Q I hq;refine wpAny_List_spliced (bb (h pos ad s Z H _ I hq) λus s1 ⟨xs,H1,I1,r,z,q⟩=>⟨by rw[<-r.length];exact z,?_⟩)
 have hf:H1 s1.heap.objs.size=ae:=I1.hok.fresh (bJ _);refine⟨.ref s1.heap.objs.size,upd H1 s1.heap.objs.size (.lst xs),I1.laid (t':=s1.toks) (λb u e=>bX _ e) (bJ _) ?_,rfl,q _ hf⟩
 exact⟨z,us,0,r,dG _ rfl⟩
end
abbrev Sp:=List V->Hp->VK->XK->Prop
abbrev jm:=List eQ->Hp->aI->XK->aF->aI->Prop
structure Env0 (P:bN)(w:bD)(K:aK)(mg:aE->Option aF)(base:aU)(A:cE)(outer:List eQ)(s:aI)(H:Hp):Prop where
 frames:A.frames=aa outer
 mod:Mod K mg base
 bs:∀ b o,base.get? b=aa o->s.heap.get? b=aa o/\H b=ae
 bsz:base.objs.size<=s.heap.objs.size
 funs:s.heap.FunFrames base outer
 frf:∀ b∈jq outer,H b=ae
 hok:HOk P w H s.heap
 bare:qT s.gens
def CE (outer:List eQ)(P:bN)(w:bD)(H:Hp)(s:aI)(Q:VK)(u:aF)(s':aI):Prop:=
 ∃ v H',s'.os=s.os/\qT s'.gens/\Un (jq outer) [] H H' s.heap s'.heap/\HOk P w H' s'.heap/\RelV v u/\Q v H'
def CR (CX:jm)(outer:List eQ)(P:bN)(w:bD)(H:Hp)(s:aI)(Q:VK)(E:XK)(r:Result)(s':aI):Prop:=
 match r with
 |.ok (.ret u)=>CE outer P w H s Q u s'
 |.ok _=>False
 |.error e=>CX outer H s E e s'
structure FnOk (P:bN)(w:bD)(K:aK)(mg:aE->Option aF)(base:aU)(CX:jm)(k:Nat)(f:aC)(fd:kC)(ps:List aE)(sp:Sp):Prop where
 len:∀ vs H Q E,sp vs H Q E->vs.length=ps.length
 run:∀ (A:cE) (outer:List eQ) (s:aI) (H:Hp) (args:Args) (us:List aF) (vs:List V) (Q:VK) (E:XK),Room k A->Env0 P w K mg base A outer s H->BindsTo s fd args (ps.zip us)->Vals vs us->sp vs H Q E ->
  nL (aX P w) A (.call (.ref f) args) (CR CX outer P w H s Q E) s
theorem FnOk.mono {P:bN}{w:bD}{CX:jm}{k:Nat}{sp:Sp}(F:FnOk P w K mg base CX j f fd ps sp)(h:j<=k) :
  FnOk P w K mg base CX k f fd ps sp:=⟨F.len,λA outer s H args us vs Q E hr=>F.run A outer s H args us vs Q E (hr.mono h)⟩
theorem FnOk.imp {P:bN}{w:bD}{CX:jm}{k:Nat}{sp yl:Sp}(F:FnOk P w K mg base CX k f fd ps sp)
  (h:∀ vs H Q E,yl vs H Q E->sp vs H Q E):FnOk P w K mg base CX k f fd ps yl:=
 ⟨λvs H Q E q=>F.len vs H Q E (h _ _ _ _ q),λA outer s H args us vs Q E hr he hb hv hs=>F.run A outer s H args us vs Q E hr he hb hv (h _ _ _ _ hs)⟩
section
variable {X:Cx}{Z:St}{H:Hp}
theorem Inv.env0 (I:Inv X ad Z H s):Env0 X.prog X.w X.K X.mg X.base X.A X.stack s H:=
 ⟨I.ok.frames,I.ok.mod,I.bs,cM I.ok.bsz I.sz,I.stack,I.stkFree,I.hok,I.bare⟩
theorem Inv.after {Q:VK}(I:Inv X ad Z H s)(h:CE X.stack X.prog X.w H s Q u s'):EP X ad Z Q u s':=by
 obtain⟨v,H',os,bare,un,hok,r,q⟩:=h;obtain⟨hh,g,d,t,vg⟩:=s';obtain rfl:vg=s.os:=os;exact⟨v,H',I.call (h':=hh) (g':=g) (d':=d) (t':=t) (ch:=[]) un hok bare (λb z=>absurd z (by simp)),r,q⟩
end
def NU (sp:Sp)(li:List V)(E:XK)(t:TA):TE:=λZ H Q=>t Z H λvs H1=>sp (vs++li) H1 Q E
def Binds (K:aK)(fd:kC)(ps:List aE)(ds:List aF):Prop:=
 ∀ (s:aI) (us:List aF),K.In s.heap->(us++ds).length=ps.length->BindsTo s fd ⟨us,[]⟩ (ps.zip (us++ds))
theorem Binds.all(h:∀ us:List aF,us.length=ps.length->bindArgs fd ⟨us,[]⟩=pure (ps.zip us)):Binds K fd ps []:=λs us _ hl=>by
 rw[jJ] at hl ⊢;exact .of_eq (h us hl)
def Passes (CX:jm)(X:Cx)(E:XK):Prop:=∀ (ad:List (aC×bI)) (Z:St) (H:Hp) (s:aI) (e:aF) (s':aI),Inv X ad Z H s->CX X.stack H s E e s'->X.xe e s'
section
variable {X:Cx}{CX:jm}{k:Nat}{sp:Sp}{li:List V}{ds:List aF}{E:XK}{m:aE}{ao:bH}{o:aQ}{ta:TE}{t:TA}
theorem Gq{Z:St}{H:Hp}{Q:VK}{vs:List V}(F:FnOk X.prog X.w X.K X.mg X.base CX k f fd ps sp)(hr:Room k X.A)(hb:Binds X.K fd ps ds)(hd:Vals li ds)(hx:Passes CX X E)
  (I:Inv X ad Z H s) (r:Vals vs us) (h:sp (vs++li) H Q E):aT (aX X.prog X.w) X.A (call (.ref f) us) (EP X ad Z Q) X.xe s:=by
 have r2:Vals (vs++li) (us++ds):=r.append hd;have hl:(us++ds).length=ps.length:=by rw[<-r2.length];exact F.len _ _ _ _ h
 refine wpAny_call (codeAny_mono (F.run X.A X.stack s H ⟨us,[]⟩ (us++ds) (vs++li) Q E hr I.env0 (hb s us I.kIn hl) r2 h) λr s' hq=>?_)
 cases r with
 |error e=>exact hx ad Z H s e s' I hq
 |ok fl=>
  cases fl with
  |ret u=>exact I.after hq
  |next=>exact pL hq
  |brk=>exact pL hq
  |cont=>exact pL hq
theorem Tn (F:FnOk X.prog X.w X.K X.mg X.base CX k f fd ps sp)(hr:Room k X.A)(hg:Gl X x)(hm:X.mg x=aa (.ref f))(hk:CI X.K (.ref f)=af)(hb:Binds X.K fd ps ds)(hd:Vals li ds)(hx:Passes CX X E)
  (ha:PA X (e::es) t) (gn:(x==("__debug__" : aE))=ag:=by decide) (he:cC (e::es) X.env=(ag,bZ e X.env)::cC es X.env:=by rfl) (fu:(jG pos (cC es X.env)).any (·.1)=ag:=by rfl) :
  PE X (.Call (.Name x p) (e::es) [] pos) (NU sp li E t):=by
 rw[8];refine Bt (PR I hg hm ?_ gn);refine PySem.W.callWith_K (h₀:=X.base) I.ok.mod.kin hk (bb (ha pos ad s Z H _ I h) λus s1 ⟨vs,H1,I1,r,q⟩=>⟨I1.kIn,?_⟩) he fu
 exact Gq F hr hb hd hx I1 r q
end
structure FnScope (N P:List aE)(sc:gA):Prop where
 kind:sc.kind=.function
 co:sc.isCoroutine=ag
 gen:sc.isGenerator=ag
 nd:N.Nodup
 pre:N.take P.length=P
 par:∀ x∈P,sc.names.lookup x=aa .local\/sc.names.lookup x=aa .cell
 nofree:∀ y∈sc.names,y.2 ≠ .free
theorem TJ {kindOf:aE->Option kA}:∀ {binds:List (aE×aF)} {m:aE->Option aF},(∀ v,(x,v)∉binds)->bindL kindOf binds m x=m x
 |[],_,_=>rfl
 |(n,v)::r,m,h=>by
  unfold bindL;rw[TJ λw hw=>h w (bM _ hw)]
  split
  all_goals grind
theorem UG {kindOf:aE->Option kA}:∀ {binds:List (aE×aF)} {m:aE->Option aF},(∀ v,(x,v)∉binds)->bindC kindOf binds m x=m x
 |[],_,_=>rfl
 |(n,v)::r,m,h=>by
  unfold bindC;rw[UG λw hw=>h w (bM _ hw)]
  split
  all_goals grind
theorem TV {kindOf:aE->Option kA}{x:aE}{v:aF}:∀ {P:List aE} {vs:List aF} {i:Nat} {m:aE->Option aF},P.Nodup->P[i]?=aa x->vs[i]?=aa v->kindOf x=aa .local ->
  bindL kindOf (P.zip vs) m x=aa v
 |[],_,_,_,_,h,_,_=>by simp at h
 |_::_,[],_,_,_,_,h,_=>by simp at h
 |p::P,w::vs,0,m,nd,h1,h2,hk=>by
  simp at h1 h2;subst h1;subst h2;show bindL kindOf ((p,w)::P.zip vs) m p=_;unfold bindL;rw[TJ λv hv=>(gC.1 nd).1 (LY hv).1,if_pos hk]
  simp
 |p::P,w::vs,i+1,m,nd,h1,h2,hk=>by
  show bindL kindOf ((p,w)::P.zip vs) m x=_;unfold bindL;exact TV (i:=i) (gC.1 nd).2 (by simpa using h1) (by simpa using h2) hk
theorem VJ {kindOf:aE->Option kA}{x:aE}{v:aF}:∀ {P:List aE} {vs:List aF} {i:Nat} {m:aE->Option aF},P.Nodup->P[i]?=aa x->vs[i]?=aa v->kindOf x≠aa .local ->
  bindC kindOf (P.zip vs) m x=aa v
 |[],_,_,_,_,h,_,_=>by simp at h
 |_::_,[],_,_,_,_,h,_=>by simp at h
 |p::P,w::vs,0,m,nd,h1,h2,hk=>by
  simp at h1 h2;subst h1;subst h2;show bindC kindOf ((p,w)::P.zip vs) m p=_;unfold bindC;rw[UG λv hv=>(gC.1 nd).1 (LY hv).1,if_neg hk]
  simp
 |p::P,w::vs,i+1,m,nd,h1,h2,hk=>by
  show bindC kindOf ((p,w)::P.zip vs) m x=_;unfold bindC;exact VJ (i:=i) (gC.1 nd).2 (by simpa using h1) (by simpa using h2) hk
def start (N:List aE)(vs:List V):St:=vs.map aa++mL (N.length-vs.length) ae
def nF (CX:jm)(P:bN)(w:bD)(K:aK)(mg:aE->Option aF)(base:aU)(N:List aE)(qual:aE)(scope:gA)(f:aC)(cd:aF)(A:cE)(outer:List eQ)(s:aI)(H:Hp)(E:XK):Cx where
 prog:=P
 w:=w
 K:=K
 mg:=mg
 base:=base
 A:=A.deeper (envOfC qual scope s.heap.objs.size f cd)
 N:=N
 s₀:=s
 H₀:=H
 env:=envOfC qual scope s.heap.objs.size f cd
 outer:=outer
 stack:=envOfC qual scope s.heap.objs.size f cd::outer
 ex:=[]
 calm:=af
 fn:=λ_=>af
 pn:=[]
 xe:=λe s'=>aT (aX P w) (A.deeper (envOfC qual scope s.heap.objs.size f cd)) (leaving (envOfC qual scope s.heap.objs.size f cd) e) (λ_ m9=>CX outer H s E e m9) (λe' m9=>CX outer H s E e' m9) s'
theorem QW {sc:gA}{n:Nat}(h:sc.names.lookup x=aa .cell):∃ c,(cellsFrom n sc.names []).lookup x=aa c:=by
 have q:=PySem.W.cellsFrom_some sc.names n [] (.inl h);exact CO.1 q
theorem Yl {CX:jm}{P:bN}{w:bD}{N:List aE}{qual:aE}{scope:gA}{cd:aF}{outer:List eQ}{s1:aI}{H:Hp}{E:XK}{vs:List V}
  (S:FnScope N ps scope) (hd:A.handled=ae) (e0:Env0 P w K mg base A outer s H) (hl:vs.length=ps.length) (r:Vals vs us)
  (x:InCallC s s.heap.objs.size (bindL (envOfC qual scope s.heap.objs.size f cd).kindOf (ps.zip us) λ_=>ae) (cellsFrom (s.heap.objs.size+1) scope.names []) (bindC (envOfC qual scope s.heap.objs.size f cd).kindOf (ps.zip us) λ_=>ae) s1) :
  Inv (nF CX P w K mg base N qual scope f cd A outer s H E) [] (start N vs) H s1:=by
 have fu:ps.length<=N.length:=by have:=congrArg List.length S.pre;rw[yJ] at this;lia
 obtain⟨h1,tk,rfl,hk⟩:=x.done;have qh:∀ b:aC,b∉(nF CX P w K mg base N qual scope f cd A outer s H E).ex:=λb z=>absurd (show b∈([]:List aC) from z) (by simp)
 refine⟨⟨e0.mod,S.kind,rfl,rfl,bJ _,λy z c h1 h2=>?_,λy hy=>?_,λy c _ h=>?_,λ_=>hd,Around.frames_deeper e0.frames,.inr ⟨rfl,rfl⟩,λb z=>absurd z (qh b),e0.bs,e0.bsz,λb _ _=>qh b,λb z=>absurd z (qh b),e0.funs,e0.frf⟩,
  rfl,e0.bare,Un.kept hk,⟨_,x.toInCall.ns,λi y v h1 h2 h3=>?_⟩,λy c h=>⟨_,x.cell y c h⟩,e0.hok.fresh (bJ _),λy c h=>?_,λp hp=>absurd (show p∈([]:List (aC×bI)) from hp) (by simp),e0.hok.kept hk,?_⟩
 .exact name_of_addr x.apart (CH h1) (CH h2)
 .have hy:scope.names.lookup y=aa .cell\/scope.names.lookup y=aa .free:=hy;rcases hy with hy|hy
  .exact QW hy
  .exact absurd rfl (S.nofree _ (CH hy))
 .exact nQ (x.above y c (CH h))
 .have hi:i<vs.length:=by
   unfold start at h2;by_cases hi:i<vs.length
   all_goals grind
  have ha:vs[i]?=aa v:=by
   unfold start at h2
   grind
  obtain⟨u,hu,rv⟩:=r.get ha;have hp:ps[i]?=aa y:=by
   rw[<-S.pre,List.getElem?_take_of_lt ()];exact h1
  have ym:ps.Nodup:=by rw[<-S.pre];exact S.nd.sublist (List.take_sublist _ _)
  refine⟨u,rv,?_⟩;rcases S.par y (fC hp) with k|k
  .exact .inl ⟨k,TV ym hp hu k⟩
  .obtain⟨c,e⟩:=QW (n:=s.heap.objs.size+1) k;refine .inr ⟨.inl k,c,e,?_⟩;have q:=x.cell y c e;rw[VJ ym hp hu (by show scope.names.lookup y≠_;rw[k];decide)] at q
   exact q
 .exact e0.hok.fresh (nQ (x.above y c (CH h)))
 .unfold start;show _=N.length;rw[pH,cD,List.length_replicate]
  lia
theorem Hn {CX:jm}{P:bN}{w:bD}{k:Nat}{name qual:aE}{params:Arguments}{scope:gA}{dV kV gi pm bz ct oc:aF}{an od:Option aC}
  {lq:Array (Option aF)} {N ps:List aE} {sp:Sp} (lk:K.lookup f=aa ⟨oc,od,.func (vI name qual params body scope dV kV gi pm an bz ct),lq⟩) (ju:LH K bz qual=af) (S:FnScope N ps scope)
  (len:∀ vs H Q E,sp vs H Q E->vs.length=ps.length)
  (jw:∀ (A:cE) (outer:List eQ) (s:aI) (H:Hp) (vs:List V) (Q:VK) (E:XK),Room k (A.deeper (envOfC qual scope s.heap.objs.size f bz))->sp vs H Q E ->
   ∃ t,PSs (nF CX P w K mg base N qual scope f bz A outer s H E) body t/\t { nx:=λ_ H'=>Q .non H',rt:=Q } (start N vs) H) :
  FnOk P w K mg base CX (k+1) f (vI name qual params body scope dV kV gi pm an bz ct) ps sp:=by
 refine⟨len,λA outer s H args us vs Q E hr e0 hb r lu=>?_⟩
 have hl:=len _ _ _ _ lu;have KX:K.In s.heap:=e0.mod.kin.keeps λb o e=>(e0.bs b o e).1
 have B5:s.heap.NoLimit:=e0.mod.nolimit.keeps λb o e=>(e0.bs b o e).1
 have jx:∀ y∈ps.zip us,scope.names.lookup y.1=aa .local\/(scope.names.lookup y.1=aa .cell/\((cellsFrom (s.heap.objs.size+1) scope.names []).lookup y.1).isSome=af):=λ⟨n,v⟩ hy=>by
  rcases S.par n (LY hy).1 with q|q
  .exact .inl q
  .exact .inr ⟨q,PySem.W.cellsFrom_some _ _ _ (.inl q)⟩
 refine codeAny_call_function hr.depth (KX _ _ lk) rfl S.co S.gen rfl (PySem.W.codeRec_of KX ju) (hb _ _ _ _ ?_);refine wpAny_newFunctionEnv_cells S.kind jx λenv he s1 x=>?_
 subst he;refine⟨B5.keeps x.toInCall.keep,codeAny_func ?_⟩;obtain⟨t,ht,hq⟩:=jw A outer s H vs Q E (hr.deeper _) lu;have I:Inv (nF CX P w K mg base N qual scope f bz A outer s H E) [] (start N vs) H s1:=Yl S hr.hd e0 hl r x;refine kO (ht [] s1 (start N vs) H _ I hq) (λfl s' hs=>?_) λe s' hs=>hs
 have fin:∀ {Z':St} {H':Hp} {v:V} {u:aF},Inv (nF CX P w K mg base N qual scope f bz A outer s H E) [] Z' H' s'->RelV v u->Q v H'->CE outer P w H s Q u s':=
  λ{Z' H' v u} J rv q=>⟨v,H',J.os,J.bare,J.base,J.hok,rv,q⟩
 cases fl with
 |ret u=>
  obtain⟨v,Z',H',J,rv,q⟩:=hs;exact fin J rv q
 |next=>
  obtain⟨Z',H',J,q⟩:=hs;exact fin (v:=V.non) (u:=fT) J rfl q
 |brk=>
  obtain⟨_,_,_,q⟩:=hs;exact pL q
 |cont=>
  obtain⟨_,_,_,q⟩:=hs;exact pL q
section
variable {X:Cx}{t:TA}{id T:String}{r:List V->Hp->VK->Prop}
def A8 (r:List V->Hp->VK->Prop)(t:TA):TE:=λZ H Q=>t Z H λvs H1=>r vs H1 Q
theorem SJ (hc:Adc X (.builtin id) r)(hg:Gl X x)(hm:X.mg x=ae)(hv:lC x=aa (.builtin id))(ha:PA X (e::es) t)(hn:x ≠ "__name__":=by decide)(gn:(x==("__debug__" : aE))=ag:=by decide)
  (he:cC (e::es) X.env=(ag,bZ e X.env)::cC es X.env:=by rfl) (fu:(jG pos (cC es X.env)).any (·.1)=ag:=by rfl):PE X (.Call (.Name x p) (e::es) [] pos) (A8 r t):=by
 rw[8];refine Bt (uC I hg hm hv ?_ hn gn);exact PyProof.Rows.callWith_builtin1 (bb (ha pos ad s Z H _ I h) λus s1 ⟨vs,H1,I1,r1,q1⟩=>hc ad s1 Z H1 vs us Q I1 r1 q1) he fu
theorem xM (hc:Adc X (.type T) r)(hg:Gl X x)(hm:X.mg x=ae)(hv:lC x=aa (.type T))(ha:PA X (e::es) t)(hn:x ≠ "__name__":=by decide)(gn:(x==("__debug__" : aE))=ag:=by decide)
  (he:cC (e::es) X.env=(ag,bZ e X.env)::cC es X.env:=by rfl) (fu:(jG pos (cC es X.env)).any (·.1)=ag:=by rfl):PE X (.Call (.Name x p) (e::es) [] pos) (A8 r t):=by
 rw[8];refine Bt (uC I hg hm hv ?_ hn gn);exact LL (bb (ha pos ad s Z H _ I h) λus s1 ⟨vs,H1,I1,r1,q1⟩=>hc ad s1 Z H1 vs us Q I1 r1 q1) he fu
end
section
variable {κ:Type}[DecidableEq κ]
def dF (kvs:List (κ×V))(k:κ):Option V:=(kvs.find? λkv=>decide (kv.1=k)).map (·.2)
def putK (kvs:List (κ×V))(k:κ)(v:V):List (κ×V):=
 if (kvs.any λkv=>decide (kv.1=k))=af then kvs.map (λkv=>if kv.1=k then(kv.1,v) else kv) else kvs++[(k,v)]
theorem jU {p:κ×V}{r:List (κ×V)}{k:κ}(e:p.1=k):dF (p::r) k=aa p.2:=by simp[dF,gD,e]
theorem jN {p:κ×V}{r:List (κ×V)}{k:κ}(e:¬ p.1=k):dF (p::r) k=dF r k:=by simp[dF,gD,e]
theorem oO (k:κ):∀ kvs:List (κ×V),(kvs.any λkv=>decide (kv.1=k))=(dF kvs k).isSome
 |[]=>rfl
 |p::r=>by
  rw[qS];by_cases e:p.1=k
  .simp only[jU e,decide_eq_true e,Bool.true_or,Option.isSome_some]
  .rw[jN e,decide_eq_false e,Bool.false_or];exact oO k r
theorem RK (k j:κ)(y:V):∀ kvs:List (κ×V),dF (kvs.map λkv=>if kv.1=k then(kv.1,y) else kv) j=(dF kvs j).map λx=>if j=k then y else x
 |[]=>rfl
 |p::r=>by
  have ih:=RK k j y r;rw[cY];by_cases h:p.1=k
  .rw[if_pos h];by_cases e:p.1=j
   .rw[jU (p:=(p.1,y)) e,jU e,CL,if_pos (e.symm.trans h)]
   .rw[jN (p:=(p.1,y)) e,jN e,ih]
  .rw[if_neg h];by_cases e:p.1=j
   .rw[jU (p:=p) e,jU e,CL,if_neg (λz=>h (e.trans z))]
   .rw[jN (p:=p) e,jN e,ih]
theorem UM (k j:κ)(y:V):∀ kvs:List (κ×V),dF kvs k=ae->dF (kvs++[(k,y)]) j=if j=k then aa y else dF kvs j
 |[],_=>by
  by_cases e:k=j
  .rw[if_pos e.symm];exact jU (p:=(k,y)) e
  .rw[if_neg (λz=>e z.symm)];exact jN (p:=(k,y)) e
 |p::r,hn=>by
  rw[MG];have hk:¬ p.1=k:=λz=>by rw[jU z] at hn;cases hn
  rw[jN hk] at hn;have ih:=UM k j y r hn;by_cases e:p.1=j
  .rw[jU e,jU e,if_neg (λz=>hk (e.trans z))]
  .rw[jN e,jN e,ih]
theorem Vw (kvs:List (κ×V))(k j:κ)(y:V):dF (putK kvs k y) j=if j=k then aa y else dF kvs j:=by
 unfold putK;by_cases a:(kvs.any λkv=>decide (kv.1=k))=af
 .rw[if_pos a,RK];rw[oO] at a;by_cases e:j=k
  .obtain⟨x,hx⟩:=CO.1 a
   grind
  .rw[if_neg e];cases dF kvs j with
   |none=>rfl
   |some x=>rw[CL,if_neg e]
 .rw[if_neg a];refine UM k j y kvs ?_;rw[oO] at a;cases q:dF kvs k with
  |none=>rfl
  |some x=>rw[q] at a;exact(a rfl).elim
theorem xV (kvs:List (κ×V))(k:κ)(v:V):(putK kvs k v).length<=kvs.length+1:=by
 unfold putK
 grind
theorem Arj.isSome_eq {o:Option V}{u:Option aF}(r:Arj o u):o.isSome=u.isSome:=by
 cases o with
 |none=>cases u with
  |none=>rfl
  |some _=>exact(show False from r).elim
 |some _=>cases u with
  |none=>exact(show False from r).elim
  |some _=>rfl
theorem Arj.getD {o:Option V}{u:Option aF}{d:V}{d':aF}(r:Arj o u)(rd:RelV d d'):RelV (o.getD d) (u.getD d'):=by
 cases o with
 |none=>cases u with
  |none=>exact rd
  |some _=>exact(show False from r).elim
 |some _=>cases u with
  |none=>exact(show False from r).elim
  |some _=>exact r
theorem KV.val {kvs:List (κ×V)}{vs:List (κ×aF)}(r:KV kvs vs)(k:κ):Arj (dF kvs k) (vB vs k):=by
 unfold KV at r;induction r with
 |nil=>exact nN
 |@cons p q ps qs h t ih=>
  obtain⟨h1,h2⟩:=h;by_cases e:p.1=k
  .have e':q.1=k:=h1.symm.trans e;have b:vB (q::qs) k=aa q.2:=by simp[vB,gD,e']
   rw[jU e,b];exact h2
  .have e':¬ q.1=k:=λz=>e (h1.trans z)
   have b:vB (q::qs) k=vB qs k:=by simp[vB,gD,e']
   rw[jN e,b];exact ih
theorem KV.any {kvs:List (κ×V)}{vs:List (κ×aF)}(r:KV kvs vs)(k:κ):(kvs.any λkv=>decide (kv.1=k))=vs.any λkv=>decide (kv.1=k):=by
 unfold KV at r;induction r with
 |nil=>rfl
 |cons h t ih=>rw[qS,qS,ih,h.1]
theorem KV.repl {kvs:List (κ×V)}{vs:List (κ×aF)}(r:KV kvs vs)(k:κ){y:V}(ry:RelV y u) :
  KV (kvs.map λkv=>if kv.1=k then(kv.1,y) else kv) (vs.map λkv=>if kv.1=k then(kv.1,u) else kv):=by
 unfold KV at r ⊢;induction r with
 |nil=>exact .nil
 |@cons p q ps qs h t ih=>
  rw[cY,cY];refine .cons ?_ ih
  grind
theorem KV.put {kvs:List (κ×V)}{vs:List (κ×aF)}(r:KV kvs vs)(k:κ){y:V}(ry:RelV y u):KV (putK kvs k y) (sO vs k u):=by
 unfold putK sO;rw[r.any k];by_cases e:(vs.any λkv=>decide (kv.1=k))=af
 .rw[if_pos e,if_pos e];exact r.repl k ry
 .rw[if_neg e,if_neg e];exact Paired.snoc r ⟨rfl,ry⟩
theorem KV.length {kvs:List (κ×V)}{vs:List (κ×aF)}(r:KV kvs vs):kvs.length=vs.length:=nP r
end
theorem rO {P:bN}{w:bD}{k:aG}(r:RelV (kV k) u):(fF P w).is k u=af:=by
 cases k with
 |inl i=>obtain⟨t,e⟩:=(show ∃ t,u=sS i t from r);subst e;exact JD P w i t
 |inr x=>obtain⟨t,e⟩:=(show ∃ t,u=sR x t from r);subst e;exact JE P w x t
abbrev KT (H:Hp):List (List aA×V)->List (List aA×aC×aF)->Prop:=dM λp q=>p.1=q.1/\Anx H p.1 q.2.1/\RelV p.2 q.2.2
theorem KT.val {H:Hp}{kvs:List (List aA×V)}(r:KT H kvs xs)(k:List aA):Arj (dF kvs k) ((nM xs k).map (·.2)):=by
 induction r with
 |nil=>exact nN
 |@cons p q ps qs h t ih=>
  obtain⟨h1,_,h2⟩:=h;by_cases e:p.1=k
  .have e':q.1=k:=h1.symm.trans e;have b:nM (q::qs) k=aa q.2:=by simp[nM,gD,e']
   rw[jU e,b];exact h2
  .have e':¬ q.1=k:=λz=>e (h1.trans z)
   have b:nM (q::qs) k=nM qs k:=by simp[nM,gD,e']
   rw[jN e,b];exact ih
theorem KT.repl {H:Hp}{kvs:List (List aA×V)}(r:KT H kvs xs)(k:List aA){y:V}(ry:RelV y u) :
  KT H (kvs.map λkv=>if kv.1=k then(kv.1,y) else kv) (xs.map (putAt k u)):=by
 induction r with
 |nil=>exact .nil
 |@cons p q ps qs h t ih=>
  rw[cY,cY];refine .cons ?_ ih;obtain⟨h1,h2,h3⟩:=h;unfold putAt
  grind
theorem KT.put {H:Hp}{kvs:List (List aA×V)}(r:KT H kvs xs)(k:List aA){y:V}(hb:Anx H k b)(ry:RelV y u) :
  KT H (putK kvs k y) (pB xs k b u):=by
 have e:(kvs.any λkv=>decide (kv.1=k))=(nM xs k).isSome:=by
  rw[oO,(r.val k).isSome_eq,LO]
 unfold putK pB;rw[e];by_cases q:(nM xs k).isSome=af
 .rw[if_pos q,if_pos q];exact r.repl k ry
 .rw[if_neg q,if_neg q];exact Paired.snoc r ⟨rfl,hb,ry⟩
theorem KT.keeps {H H':Hp}{kvs:List (List aA×V)}(r:KT H kvs xs)(ht:∀ b ys,H b=aa (.tup ys)->H' b=aa (.tup ys)):KT H' kvs xs:=
 Paired.mapP r λ_ _ z=>⟨z.1,z.2.1.keep ht,z.2.2⟩
section
variable {P:bN}{w:bD}{H:Hp}
theorem OJ {u:HO}(ok:HOk P w H h)(e:Rd H a u):Acu P w H h a u:=e.ok ok
theorem rN{kvs:List (aG×V)}(ok:HOk P w H h)(e:Rd H a (.dK ep kvs)):kvs.length<=sizeLine/\(a==jE)=ag/\∃ vs,KV kvs vs/\h.DictAt (fF P w) a vs ep:=
 show Acu P w H h a (.dK ep kvs) from OJ ok e
theorem oA{kvs:List (aG×V)}(ok:HOk P w H h)(e:Rd H a (.dK ep kvs)):kvs.length<=sizeLine/\(a==jE)=ag/\∃ vs,KV kvs vs/\h.DictOf (fF P w) a vs:=
 let ⟨z,y,vs,r,d⟩:=rN ok e;⟨z,y,vs,r,d.dictOf⟩
theorem pP{kvs:List (aG×V)}(ok:HOk P w H h)(e:H a=aa (.dK ep kvs)):kvs.length<=sizeLine/\(a==jE)=ag/\∃ vs,KV kvs vs/\h.DictOf (fF P w) a vs:=oA ok (.inl e)
theorem xU {P:bN}{w:bD}(hu:A.units+40<cLine):(kN P w).room A.in1:=by
 show A.in1.units+20<cLine
 grind
mutual
theorem VP (ok:HOk P w H h):∀ (d:aA) {v:V} {u:aF},Aiu H d v->RelV v u->∃ as,pE h u d as
 |.int i,v,u,k,r=>by
  have e:v=.int i:=by simpa [Aiu] using k
  subst e;obtain⟨t,rfl⟩:=r;exact⟨_,.int i t⟩
 |.str x,v,u,k,r=>by
  have e:v=.str x:=by simpa [Aiu] using k
  subst e;obtain⟨t,rfl⟩:=r;exact⟨_,.str x t⟩
 |.tuple ds,v,u,k,r=>by
  simp only[Aiu] at k;obtain⟨a,xs,rfl,e,ks⟩:=k;cases r;obtain⟨_,its,rv,⟨o,h1,h2,n,h3⟩,_⟩:=(show Acu P w H h a (.tup xs) from ok a _ e)
  obtain⟨as,ra⟩:=VE ok ds ks rv;exact⟨as,.tuple h1 h2 h3 (by simpa using ra)⟩
 |.none,v,u,k,r=>by simp[Aiu] at k
 |.bool _,v,u,k,r=>by simp[Aiu] at k
 |.list _,v,u,k,r=>by simp[Aiu] at k
 |.dict _,v,u,k,r=>by simp[Aiu] at k
theorem VE (ok:HOk P w H h):∀ (ds:List aA) {vs:List V} {us:List aF},Agc H ds vs->Vals vs us->∃ as,pD h us ds as
 |[],vs,us,k,r=>by
  have e:vs=[]:=by simpa [Agc] using k
  subst e;cases r;exact⟨_,.nil⟩
 |d::ds,vs,us,k,r=>by
  simp only[Agc] at k;obtain⟨x,rr,rfl,k1,k2⟩:=k;cases r with
  |cons r1 r2=>
   obtain⟨as,ra⟩:=VP ok d k1 r1;obtain⟨bs,rb⟩:=VE ok ds k2 r2;exact⟨_,.cons ra rb⟩
end
theorem key_of(ok:HOk P w H h)(e:Anx H ks a):(kN P w).is h ks a:=by
 obtain⟨k1,k2,xs,e,d7⟩:=e;refine⟨k1,k2,?_⟩;exact VP ok (.tuple ks) (v:=.ref a) (u:=.ref a) (by simp only[Aiu];exact⟨a,xs,rfl,e,d7⟩) rfl
theorem rK {kvs:List (List aA×V)}(ok:HOk P w H h)(e:∃ ep,Rd H a (.dT ep kvs)):kvs.length<=sizeLine/\(a==jE)=ag /\
  ∃ xs,KT H kvs xs/\h.DictOfH (kN P w) a xs:=by
 obtain⟨ep,e⟩:=e;obtain⟨z,y,xs,r,o,es,h1,h2,h3,h4,h5⟩:=(show Acu P w H h a (.dT ep kvs) from OJ ok e)
 refine⟨z,y,xs,r,o,es,ep,h1,h2,h3,h4,λx hx=>?_,h5⟩
 have all:∀ {l:List (List aA×V)} {m:List (List aA×aC×aF)},KT H l m->∀ x∈m,(kN P w).is h x.1 x.2.1:=by
  intro l m q;induction q with
  |nil=>intro x hx;exact nomatch hx
  |@cons p q ps qs hq t ih=>
   intro x hx;rcases cV.1 hx with e|hx
   .subst e;exact key_of ok (by rw[<-hq.1];exact hq.2.1)
   .exact ih x hx
 exact all r x hx
theorem Fv{kvs:List (List aA×V)}(ok:HOk P w H h)(e:H a=aa (.dT ep kvs)):kvs.length<=sizeLine/\(a==jE)=ag /\
  ∃ xs,KT H kvs xs/\h.DictOfH (kN P w) a xs:=rK ok ⟨ep,.inl e⟩
end
def Awh (H:Hp)(a:aC)(y:V)(r:Option V):Prop:=
 (∃ ep kvs k,Rd H a (.dK ep kvs)/\y=kV k/\r=dF kvs k)\/∃ kvs k b,(∃ ep,Rd H a (.dT ep kvs))/\y=.ref b/\Anx H k b/\r=dF kvs k
def Bcq (H:Hp)(a:aC)(y v:V)(H':Nat->Hp):Prop:=
 (∃ ep kvs k,H a=aa (.dK ep kvs)/\y=kV k/\kvs.length<sizeLine/\H'=λn=>upd H a (.dK n (putK kvs k v))) \/
 ∃ kvs k b,(∃ ep,H a=aa (.dT ep kvs))/\y=.ref b/\Anx H k b/\kvs.length<sizeLine/\H'=λn=>upd H a (.dT n (putK kvs k v))
theorem Awh.k {H:Hp}{kvs:List (aG×V)}{k:aG}(e:H a=aa (.dK ep kvs)):Awh H a (kV k) (dF kvs k):=.inl ⟨ep,kvs,k,.inl e,rfl,rfl⟩
theorem Awh.t {H:Hp}{kvs:List (List aA×V)}{k:List aA}(e:H a=aa (.dT ep kvs))(eb:Anx H k b):Awh H a (.ref b) (dF kvs k):=.inr ⟨kvs,k,b,⟨ep,.inl e⟩,rfl,eb,rfl⟩
theorem Bcq.k {H:Hp}{kvs:List (aG×V)}{k:aG}{v:V}(e:H a=aa (.dK ep kvs))(hl:kvs.length<sizeLine):Bcq H a (kV k) v (λn=>upd H a (.dK n (putK kvs k v))):=.inl ⟨ep,kvs,k,e,rfl,hl,rfl⟩
theorem Bcq.t {H:Hp}{kvs:List (List aA×V)}{k:List aA}{v:V}(e:H a=aa (.dT ep kvs))(eb:Anx H k b)(hl:kvs.length<sizeLine) :
  Bcq H a (.ref b) v (λn=>upd H a (.dT n (putK kvs k v))):=.inr ⟨kvs,k,b,⟨ep,e⟩,rfl,eb,hl,rfl⟩
section
variable {X:Cx}{Z:St}{H:Hp}{y v:V}{r:aF}{o:Option V}
theorem Inv.big (I:Inv X ad Z H s):jE<s.heap.objs.size:=by
 have h:jF<s.heap.objs.size:=(I.mod.glob.keeps I.bk).lt;exact Nat.lt_trans nofun h
theorem Xt(hu:A.units+40<cLine)(I:Inv X ad Z H s)(g:Awh H a y (aa v))(ry:RelV y u)(h:∀ w' s',Inv X ad Z H s'->RelV v w'->Q w' s') :
  aT (aX X.prog X.w) A (pC (.ref a) u) Q E s:=by
 rcases g with⟨ep,kvs,k,e,ey,l⟩|⟨kvs,k,b,e,ey,eb,l⟩
 .subst ey;obtain⟨z,hd,vs,cc,dd⟩:=oA I.hok e;obtain⟨w',hw,gp⟩:=Arj.some_of (v:=v) (o:=vB vs k) (by rw[l];exact cc.val k)
  exact wpAny_getItem_of (rO ry) dd.mapOf hw (h w' _ (I.tok _) gp)
 .subst ey;cases(show u=fR b from ry)
  obtain⟨z,hd,xs,cc,dd⟩:=rK I.hok e;obtain⟨w',hw,gp⟩:=Arj.some_of (v:=v) (o:=(nM xs k).map (·.2)) (by rw[l];exact cc.val k)
  obtain⟨p,hp,t5⟩:=mJ.1 hw;refine wpAny_getItem_heap (xU hu) (key_of I.hok eb) dd hp ?_;rw[t5];exact h w' _ (I.tok _) gp
theorem Fb(hu:A.units+40<cLine)(I:Inv X ad Z H s)(g:Awh H a y o)(ry:RelV y u)(h:∀ s',Inv X ad Z H s'->Q (.bool o.isSome) s') :
  aT (aX X.prog X.w) A (iH .In u (.ref a)) Q E s:=by
 rcases g with⟨ep,kvs,k,e,ey,l⟩|⟨kvs,k,b,e,ey,eb,l⟩
 .subst ey;obtain⟨z,hd,vs,cc,dd⟩:=oA I.hok e;refine wpAny_in_of (rO ry) hd dd.mapOf ?_;rw[<-(cc.val k).isSome_eq,<-l];exact h _ (I.tok _)
 .subst ey;cases(show u=fR b from ry)
  obtain⟨z,hd,xs,cc,dd⟩:=rK I.hok e;refine wpAny_in_heap (xU hu) (key_of I.hok eb) hd dd ?_;have q:=(cc.val k).isSome_eq;rw[LO] at q;rw[<-q,<-l];exact h _ (I.tok _)
theorem Lk(hu:A.units+40<cLine)(I:Inv X ad Z H s)(g:Awh H a y o)(ry:RelV y u)(h:∀ s',Inv X ad Z H s'->Q (.bool (!o.isSome)) s') :
  aT (aX X.prog X.w) A (iH .NotIn u (.ref a)) Q E s:=by
 rcases g with⟨ep,kvs,k,e,ey,l⟩|⟨kvs,k,b,e,ey,eb,l⟩
 .subst ey;obtain⟨z,hd,vs,cc,dd⟩:=oA I.hok e;refine wpAny_notIn_of (rO ry) hd dd.mapOf ?_;rw[<-(cc.val k).isSome_eq,<-l];exact h _ (I.tok _)
 .subst ey;cases(show u=fR b from ry)
  obtain⟨z,hd,xs,cc,dd⟩:=rK I.hok e;refine wpAny_notIn_heap (xU hu) (key_of I.hok eb) hd dd ?_;have q:=(cc.val k).isSome_eq;rw[LO] at q;rw[<-q,<-l];exact h _ (I.tok _)
theorem AM{ob:HO}(I:Inv X ad Z H s)(mu:vO (H a))(hs:yR a s.heap h')(he:∃ q,h'.get? a=aa q)(new:Acu X.prog X.w (upd H a ob) h' a ob) :
  Inv X ad Z (upd H a ob) { s with heap:=h',toks:=t' }:=
 I.write (x:=a) (e:=a) mu (.inl rfl) (λb q hb z=>(hs.2 b hb).trans z) he new
theorem wI {P:bN}{w:bD}{H':Hp}{kvs:List (aG×V)}{vs:List (aG×aF)}(z:kvs.length<=sizeLine)(hd:(a==jE)=ag)(cc:KV kvs vs)(dd:h'.DictAt (fF P w) a vs ep) :
  Acu P w H' h' a (.dK ep kvs):=⟨z,hd,vs,cc,dd⟩
theorem Ny {H':Nat->Hp}{Q:Unit->aI->Prop}(hu:A.units+40<cLine)(I:Inv X ad Z H s)(g:Bcq H a y v H')(ry:RelV y u)(rv:RelV v r)(h:∀ n s',Inv X ad Z (H' n) s'->Q Unit.unit s') :
  aT (aX X.prog X.w) A (setItem (.ref a) u r) Q E s:=by
 rcases g with⟨ep,kvs,k,e,ey,l,eH⟩|⟨kvs,k,b,e,ey,eb,l,eH⟩
 .subst ey eH;obtain⟨z,hd,vs,cc,dd⟩:=pP I.hok e;have hz:vs.length<=sizeLine:=by rw[<-cc.length];exact z
  have hl:(putK kvs k v).length<=sizeLine:=by have:=xV kvs k v;lia
  refine wpAny_setItem_pairs (hsz:=hz) (rO ry) dd λh' jh hs=>?_
  have he:∃ q,h'.get? a=aa q:=let ⟨q,_,_,hq,_⟩:=jh;⟨q,hq⟩;obtain⟨n,da⟩:=jh.dictAt;exact h n _ (AM I (by rw[e];exact nN) hs he (wI hl hd (cc.put k rv) da))
 .subst ey eH;cases(show u=fR b from ry)
  obtain⟨yn,e⟩:=e;obtain⟨z,hd,xs,cc,dd⟩:=Fv I.hok e;have hz:xs.length<=sizeLine:=by rw[<-nP cc];exact z
  have hl:(putK kvs k v).length<=sizeLine:=by have:=xV kvs k v;lia
  refine wpAny_setItem_heap (hsz:=hz) (xU hu) (key_of I.hok eb) dd λh' jh hs=>?_
  obtain⟨q,es,ep,hq,h2,h3,h4,_,h5⟩:=jh;refine h ep _ ?_;refine AM I (by rw[e];exact nN) hs ⟨q,hq⟩ ⟨hl,hd,_,(cc.put k eb rv).keeps λc ys ec=>?_,q,es,hq,h2,h3,h4,h5⟩
  rw[bP (Fj ec e (λz=>nomatch z))]
  exact ec
end
section
variable {X:Cx}{Z:St}{H:Hp}{kvs:List (aG×V)}{k:aG}
theorem Fm(I:Inv X ad Z H s)(e:Rd H a (.dK ep kvs))(h:∀ t s',Inv X ad Z H s'->Q (.int kvs.length t) s'):aT (aX X.prog X.w) A (call (.builtin "len") [.ref a]) Q E s:=by
 obtain⟨z,hd,vs,cc,dd⟩:=oA I.hok e;refine call_len_dict hd dd (by rw[<-cc.length];rw[vD] at z;lia) ?_
 rw[<-cc.length];exact h _ _ (I.tok _)
end
def zG (i:aQ):Prop:=∀ ov iv,LA i ag ov iv=operate [ov,iv] (pC ov iv)
theorem Ma{w:bD}{env:eQ}{value ce:aQ}{T id:String}
  (hl:typeLookup (.type T) "__getitem__" = pure (aa (.builtin id))) (hs:zG ce)
  (h:aT (aX prog w) A (bZ value env) (λo s₁=>aT (aX prog w) A (bZ ce env) (λi s₂=>s₂.TypeIs o T/\aT (aX prog w) A (pC o i) Q E s₂) E s₁) E s) :
  aT (aX prog w) A (bZ (.Subscript value ce pos) env) Q E s:=by
 refine Subscript_ (kO h (λo s₁ h₁=>kO h₁ (λi s₂ h₂=>?_) λ_ _ x=>x) λ_ _ x=>x)
 obtain⟨hT,h₂⟩:=h₂;unfold subscriptTail;refine aJ ?_;rw[getitemInPython_of_ne hT.not_modules];refine aJ (CC hT hl ?_);have fin:aT (aX prog w) A (LA ce ag o i) (λr s₃=>aT (aX prog w) A (letTemporaryGo value o r>>=λ_=>pure r) Q E s₃) E s₂:=by
  rw[hs o i];exact wpAny_operating (kO h₂ (λr s₃ h₃=>aJ (wpAny_letTemporaryGo (bA h₃))) λ_ _ x=>x)
 first
  |exact bA (aJ fin)
  |exact aJ (bA (aJ fin))
  |exact aJ fin
theorem Rm {X:Cx}{Z:St}{H:Hp}{y:V}{o:Option V}(I:Inv X ad Z H s)(g:Awh H a y o):s.TypeIs (.ref a) "dict":=by
 rcases g with⟨ep,kvs,k,e,_,_⟩|⟨kvs,k,b,e,_,_,_⟩
 .obtain⟨_,_,vs,_,dd⟩:=oA I.hok e;exact dd.typeIs
 .obtain⟨_,_,xs,_,dd⟩:=rK I.hok e;exact dd.typeIs
def Fz (td ty:TE):TE:=λZ H Q=>td Z H λx H1=>ty Z H1 λy H2=>∃ a v,x=.ref a/\Awh H2 a y (aa v)/\Q v H2
def Fd (td ty tv:TE):TS:=λD Z H=>tv Z H λv H1=>td Z H1 λx H2=>ty Z H2 λy H3=>∃ a H4,x=.ref a/\Bcq H3 a y v H4/\∀ n,D.nx Z (H4 n)
section
variable {X:Cx}{o i value:aQ}{gm gq:bH}{td ty tv:TE}
theorem FQ (hu:X.A.units+40<cLine)(ho:PE X o td)(hi:PE X i ty)(hs:zG i):PE X (.Subscript o i pos) (Fz td ty):=by
 rw[8];refine Ma PySem.F.slot_dict_getitem.lookup hs (bb (ho ad s Z H _ I h) λu s1 ⟨x,H1,I1,rx,q1⟩=>bb (hi ad s1 Z H1 _ I1 q1) λiv s2 gh=>?_)
 obtain⟨y,H2,I2,ry,a,v,ex,g,q2⟩:=gh;subst ex;obtain rfl:u=fR a:=rx;exact⟨Rm I2 g,Xt hu I2 g ry λw' s3 I3 gp=>⟨v,H2,I3,gp,q2⟩⟩
theorem GN (hu:X.A.units+40<cLine)(ho:PE X o td)(hi:PE X i ty)(hv:PE X value tv)(hs:iG value (aa (.Subscript o i gm)) pos.line X.env=pure ag) :
  PS X (.Assign [.Subscript o i gm] value pos) (Fd td ty tv):=by
 intro ad s Z H D I h;refine wpAny_Assign_Subscript (bb (hv ad s Z H _ I h) λr s1 ⟨v,H1,I1,rv,q1⟩=>bb (ho ad s1 Z H1 _ I1 q1) λu s2 ⟨x,H2,I2,rx,q2⟩=>bb (hi ad s2 Z H2 _ I2 q2) λiv s3 ⟨y,H3,I3,ry,a,H4,ex,g,q3⟩=>?_) hs
 subst ex;obtain rfl:u=fR a:=rx;exact Ny hu I3 g ry rv λn s4 I4=>⟨Z,H4 n,I4,q3 n⟩
end
theorem Vu {P:bN}{w:bD}{H:Hp}(h:aU)(hb:jE<h.objs.size):Acu P w H (h.push { cls:=.type "dict",data:=.dict #[] }) h.objs.size (.dK 0 []):=
 ⟨eA _,beq_eq_false_iff_ne.2 (jI (eB hb)),[],.nil,_,#[],dG _ rfl,⟨rfl,rfl,rfl⟩,rfl,λ_ he=>by simp at he,Pairs.nil,Cp⟩
def Iz:TE:=λ_ H Q=>∀ p,H p=ae->Q (.ref p) (upd H p (.dK 0 []))
section
variable {X:Cx}
theorem QU:PE X (.Dict [] [] pos) Iz:=λad s Z H Q I h=>
 wpAny_Dict_empty ⟨.ref s.heap.objs.size,_,I.laid (a:=s.heap.objs.size) (o:=.dK 0 []) (t':=s.toks) (λ_ _ q=>bX _ q) (bJ _) (Vu s.heap I.big),rfl,h _ (I.hok.fresh (bJ _))⟩
end
def kZ (kvs more:List (aG×V)):List (aG×V):=more.foldl (λam kv=>putK am kv.1 kv.2) kvs
theorem KV.merge:∀ {more:List (aG×V)} {rs:List (aG×aF)} {kvs:List (aG×V)} {vs:List (aG×aF)},KV more rs->KV kvs vs->KV (kZ kvs more) (nJ vs rs):=by
 intro more rs kvs vs r;unfold KV at r;induction r generalizing kvs vs with
 |nil=>intro q;exact q
 |@cons p q ps qs h t ih=>
  intro r0;have e:KV (putK kvs p.1 p.2) (sO vs q.1 q.2):=by
   have:=r0.put p.1 h.2;rw[<-h.1];exact this
  exact ih e
theorem JK:∀ (more kvs:List (aG×V)),(kZ kvs more).length<=kvs.length+more.length
 |[],kvs=>by show kvs.length<=kvs.length+0;lia
 |p::r,kvs=>by
  have h1:=JK r (putK kvs p.1 p.2);have h2:=xV kvs p.1 p.2;show(kZ (putK kvs p.1 p.2) r).length<=_;rw[fJ];lia
structure M2 (X:Cx)(o:aQ)(m:aE)(ao:bH)(e f:aQ)(au:bH):Prop where
 base:vG o m X.env (bZ o X.env)=bZ o X.env
 few:((jG au (cC [e,f] X.env)).all (λx=>!x.1)&&(backToKw au (keywordEach [] X.env)).all (λx=>x.1.isSome)
  && decide (([e,f]:List aQ).length+([]:List Keyword).length+(if ([]:List Keyword).isEmpty then 0 else 1)<30))=af
 line:(ao.endLine==au.line)=af
 trees:jG au (cC [e,f] X.env)=[(ag,bZ e X.env),(ag,bZ f X.env)]
def A0 (H:Hp)(a:aC):Prop:=(∃ ep kvs,Rd H a (.dK ep kvs))\/∃ kvs,∃ ep,Rd H a (.dT ep kvs)
theorem Ha {X:Cx}{Z:St}{H:Hp}(I:Inv X ad Z H s)(d:A0 H a) :
  s.TypeIs (.ref a) "dict" /\ (∀ b,fR a=.ref b->∃ ob,s.heap.get? b=aa ob/\ob.dict=ae)/\(a==jE)=ag:=by
 rcases d with⟨ep,kvs,e⟩|⟨kvs,e⟩
 .obtain⟨_,hd,vs,_,dd⟩:=oA I.hok e;refine⟨dd.typeIs,λb q=>?_,hd⟩
  cases q;obtain⟨ob,_,_,h1,h2,_⟩:=dd;exact⟨ob,h1,h2.2.1⟩
 .obtain⟨_,hd,xs,_,dd⟩:=rK I.hok e;refine⟨dd.typeIs,λb q=>?_,hd⟩
  cases q;obtain⟨ob,_,_,h1,h2,_⟩:=dd;exact⟨ob,h1,h2.2.1⟩
section
variable {X:Cx}{Z:St}{H:Hp}{y d:V}{r:aF}{o:Option V}
theorem Gr(hu:A.units+40<cLine)(I:Inv X ad Z H s)(g:Awh H a y o)(ry:RelV y u)(rd:RelV d r)(h:∀ w' s',Inv X ad Z H s'->RelV (o.getD d) w'->Q w' s') :
  aT (aX X.prog X.w) A (call (.builtin "dict.get") [.ref a,u,r]) Q E s:=by
 rcases g with⟨ep,kvs,k,e,ey,l⟩|⟨kvs,k,b,e,ey,eb,l⟩
 .subst ey;obtain⟨z,hd,vs,cc,dd⟩:=oA I.hok e;refine LF Ce dd.typeIs PySem.F.entry_dict_get (Yu _ _ _) (meets_dict_get_default (fF X.prog X.w) a (rO ry) hd r) ⟨_,dd.mapOf,h _ _ (I.tok _) ?_⟩;rw[l];exact(cc.val k).getD rd
 .subst ey;cases(show u=fR b from ry)
  obtain⟨z,hd,xs,cc,dd⟩:=rK I.hok e;refine LF Ce dd.typeIs PySem.F.entry_dict_get (Yu _ _ _) (meetsH_dict_get_default (kN X.prog X.w) a b hd r) ⟨xU hu,k,xs,key_of I.hok eb,dd,h _ _ (I.tok _) ?_⟩;rw[l];exact(cc.val k).getD rd
end
def Jo (td ty tx:TE):TE:=λZ H Q=>td Z H λx H1=>∃ a,x=.ref a/\A0 H1 a/\ty Z H1 λy H2=>tx Z H2 λz H3=>∃ o,Awh H3 a y o/\Q (o.getD z) H3
section
variable {X:Cx}{o f:aQ}{ao au:bH}{td ty tx:TE}
theorem Xf (hu:X.A.units+40<cLine)(ho:PE X o td)(he:PE X e ty)(hf:PE X f tx)(m:M2 X o "get" ao e f au):PE X (.Call (.Attribute o "get" ao) [e,f] [] au) (Jo td ty tx):=by
 rw[8];refine wpAny_Call_method m.base m.few m.line CJ Ce PySem.F.type_dict_get (bb (ho ad s Z H _ I h) λu s1 gh=>?_)
 obtain⟨x,H1,I1,rx,a,ex,d,q1⟩:=gh;subst ex;obtain rfl:u=fR a:=rx;obtain⟨t1,t2,_⟩:=Ha I1 d;refine⟨t1,t2,?_⟩;rw[m.trees];refine Dl rfl (Calls.evalArgs_plain (Dk (bb (he ad s1 Z H1 _ I1 q1) λiv s2 ⟨y,H2,I2,ry,q2⟩=>
  Dk (bb (hf ad s2 Z H2 _ I2 q2) λfv s3 ⟨z,H3,I3,rz,ov,g,q3⟩=>Calls.spliced_nil ?_))))
 exact Gr hu I3 g ry rz λw' s4 I4 gp=>⟨_,H3,I4,gp,q3⟩
end
section
variable {X:Cx}{Z:St}{H:Hp}{kvs:List (aG×V)}
theorem Xk(I:Inv X ad Z H s)(e:Rd H a (.dK ep kvs))(h:∀ p n s',H p=ae->Inv X ad Z (upd H p (.dK n kvs)) s'->Q (.ref p) s'):aT (aX X.prog X.w) A (call (.type "dict") [.ref a]) Q E s:=by
 obtain⟨z,hd,vs,cc,dd⟩:=oA I.hok e;refine kt_call_dict hd dd (by rw[<-cc.length];exact z) λh' jh hs=>?_
 obtain⟨n,da⟩:=jh.dictAt;refine h _ n _ (I.hok.fresh (bJ _)) (I.laid (a:=s.heap.objs.size) (o:=.dK n kvs) (t':=s.toks) (λb q hq=>?_) (bJ _) (wI z (beq_eq_false_iff_ne.2 (jI (eB I.big))) cc da))
 exact(hs.2 b (eB (bW hq))).trans (bX _ hq)
end
end L2
namespace HT
open PySem PyProof.Rows
section
variable {prog:bN}{w:bD}{A:cE}{E:aF->aI->Prop}{s:aI}
theorem Bak {t b:aC}{vs ws:List aF}{Q:aF->aI->Prop}(ht:IsTup s.heap t vs.toArray)(hb:IsTup s.heap b ws.toArray)(hv:vs≠[])
  (h1:ws=[]->Q (.ref t) s) (h2:ws≠[]->Q (.ref s.heap.objs.size) { s with heap:=s.heap.push { cls:=.type "tuple",data:=.seq (vs++ws).toArray } })
  (hsz:vs.length+ws.length<=sizeLine):aT (aX prog w) A (jQ .Add (.ref t) (.ref b)) Q E s:=by
 obtain⟨⟨cls,dd,data,sl⟩,ho,hc,n,hd⟩:=id ht;obtain⟨⟨qi,lv,data2,o6⟩,j6,iy,n2,ji⟩:=id hb;simp only at hc hd iy ji;subst hc hd iy ji;have e:vs.toArray++ws.toArray=(vs++ws).toArray:=by simp
 by_cases hw:ws=[]
 .exact LD ⟨_,ho,rfl⟩ ⟨_,j6,rfl⟩ Bu seq_tuple_add Cd Cf (Cg _ _)
   (tuple_addW1 t b vs.toArray ws.toArray n n2 dd lv sl o6 (by simpa using hv) (by simp[hw])) ⟨ho,j6,h1 hw⟩
 .refine LD ⟨_,ho,rfl⟩ ⟨_,j6,rfl⟩ Bu seq_tuple_add Cd Cf (Cg _ _)
   (tuple_addW2 t b vs.toArray ws.toArray n n2 dd lv sl o6 (by simpa using hv) (by simpa using hw) (by rw[dW,dW];exact hsz)) ⟨ho,j6,?_⟩
  rw[e];exact h2 hw
def sIx (n d:Nat):Option Int->Nat
 |none=>d
 |some v=>if v<0 then(v+(n:Int)).toNat else min v.toNat n
theorem As5 (n d:Nat):sIx n d ae=d:=rfl
theorem Ax0 (n d k:Nat):sIx n d (aa (k:Int))=min k n:=by
 show(if (k:Int)<0 then((k:Int)+(n:Int)).toNat else min (k:Int).toNat n)=min k n
 grind
theorem Hy (n d:Nat)(hd:d<=n)(o:Option Int):sIx n d o<=n:=by
 cases o with
 |none=>exact hd
 |some v=>
  show(if v<0 then(v+(n:Int)).toNat else min v.toNat n)<=n
  grind
theorem OX (v:Int)(n d:Nat):(if v<0 then max (v+(n:Int)) 0 else min v (n:Int))=((sIx n d (aa v):Nat):Int):=by
 show(if v<0 then max (v+(n:Int)) 0 else min v (n:Int))=(((if v<0 then(v+(n:Int)).toNat else min v.toNat n):Nat):Int)
 grind
theorem Qn (lo hi:Option Int)(n:Nat):Do lo hi 1 (n:Int)=(((sIx n 0 lo:Nat):Int),((sIx n n hi:Nat):Int)):=by
 have h1:¬ ((1:Int)<0):=()
 unfold Do;simp only[h1,if_false];refine Prod.ext ?_ ?_
 .cases lo with
  |none=>rfl
  |some v=>exact OX v n 0
 .cases hi with
  |none=>rfl
  |some v=>exact OX v n n
theorem Qp (i j:Nat):MS (i:Int) (j:Int) 1=j-i:=by
 unfold MS
 grind
theorem WH {v:aF}{o:Option Int}{Q:Option Int->aI->Prop}(p:pJ v o)(h:Q o s):aT (aX prog w) A (Builtin.Slice.slicePartIndex v) Q E s:=by
 cases p with
 |none=>exact slicePart_none h
 |int i t=>exact slicePart_int h
theorem Afk {sl:aC}{vl vu:aF}{lo hi:Option Int}{n:Nat}{Q:Int×Int×Nat->aI->Prop}(hs:s.heap.IsSliceOf sl vl vu .none)(pl:pJ vl lo)(pu:pJ vu hi)
  (h:Q (((sIx n 0 lo:Nat):Int),1,sIx n n hi-sIx n 0 lo) s):aT (aX prog w) A (Builtin.Slice.sliceApplied (.ref sl) (pure (n:Int))) Q E s:=by
 obtain⟨os,qj,yo,iz⟩:=id hs;unfold Builtin.Slice.sliceApplied Builtin.Slice.sliceFields;refine aJ (aJ (gZ qj iz (x:=vl) rfl (aJ (gZ qj iz (x:=vu) rfl (aJ (gZ qj iz (x:=.none) rfl (bA ?_)))))));refine aJ (slicePart_none ?_);show aT _ _ (if ((1:Int)==0)=af then _ else _) _ _ s
 rw[if_neg nofun]
 refine aJ (WH pl (aJ (WH pu (aJ (bA ?_)))));show aT _ _ (match Do lo hi 1 (n:Int) with|(lo,hi)=>pure (lo,(1:Int),MS lo hi 1)) _ _ s
 rw[Qn lo hi n];show aT _ _ (pure (((sIx n 0 lo:Nat):Int),(1:Int),MS ((sIx n 0 lo:Nat):Int) ((sIx n n hi:Nat):Int) 1)) _ _ s;rw[Qp];exact bA h
theorem Wh (xs:Array aF)(i k:Nat):((cQ k).filterMap λ(m:Nat)=>xs[((i:Int)+(m:Int)*1).toNat]?).toArray=((xs.toList.drop i).take k).toArray:=by
 have e:(λ(m:Nat)=>xs[((i:Int)+(m:Int)*1).toNat]?)=λm=>xs[i+m]?:=by
  grind
 rw[e];have:=pick_run xs i k;rw[List.filterMap_map] at this;have e2:((λx=>xs[x]?)∘λx=>i+x)=λm=>xs[i+m]?:=rfl
 rw[e2] at this;rw[this]
theorem Ahz {t sl:aC}{ai:Array aF}{vl vu:aF}{lo hi:Option Int}{Q:aF->aI->Prop}(ht:IsTup s.heap t ai)(hs:s.heap.IsSliceOf sl vl vu .none)(pl:pJ vl lo)(pu:pJ vu hi)
  (hw:¬ (sIx ai.size 0 lo=0/\sIx ai.size ai.size hi=ai.size))
  (h:Q (.ref s.heap.objs.size) { s with heap:=s.heap.push { cls:=.type "tuple",data:=.seq ((ai.toList.drop (sIx ai.size 0 lo)).take (sIx ai.size ai.size hi-sIx ai.size 0 lo)).toArray } })
  (hsz:ai.size<=sizeLine):aT (aX prog w) A (pC (.ref t) (.ref sl)) Q E s:=by
 have i0:sizeOk (.seq ((ai.toList.drop (sIx ai.size 0 lo)).take (sIx ai.size ai.size hi-sIx ai.size 0 lo)).toArray):=by
  show((ai.toList.drop (sIx ai.size 0 lo)).take (sIx ai.size ai.size hi-sIx ai.size 0 lo)).toArray.size<=sizeLine
  grind
 have hj:sIx ai.size ai.size hi<=ai.size:=Hy _ _ (bJ _) hi;obtain⟨os,qj,yo,iz⟩:=id hs;have B6:s.TypeIs (.ref sl) "slice":=⟨os,qj,yo⟩;unfold pC
 try with_reducible refine jW ?_
 first|refine aJ (bA ?_)|skip
 refine aJ (wpAny_sequenceKey ht.typeIs nofun ?_)
 refine aJ (pA (name:=Str.ofString "__getitem__") ht.typeIs Ci
  (jX Ci ht.typeIs entry_tuple_getitem ?_ (args_tuple_getitem _ _)))
 show aT _ _ (Dm (.ref t)>>=_) _ _ s;refine aJ (tupleItemsOf_ ht ?_);refine aJ (sM B6 ?_);rw[if_pos nofun]
 refine aJ (Afk hs pl pu ?_);have i8:¬ ((((sIx ai.size 0 lo:Nat):Int)==0&&(1:Int)==1&&(sIx ai.size ai.size hi-sIx ai.size 0 lo)==ai.size)=af):=by
  grind
 show aT _ _ (if (((sIx ai.size 0 lo:Nat):Int)==0&&(1:Int)==1&&(sIx ai.size ai.size hi-sIx ai.size 0 lo)==ai.size)=af then _ else _) _ _ s
 rw[if_neg i8,Wh]
 first
  |exact aJ (m:=MP _) (oZ (bA ⟨_,rfl,bA h⟩) i0)
  |exact aJ (m:=MP _) (oZ (aJ (bA (bA ⟨_,rfl,bA h⟩))) i0)
  |exact aJ (aJ (m:=MP _) (oZ (bA (bA ⟨_,rfl,bA h⟩)) i0))
  |exact aJ (aJ (m:=MP _) (oZ (bA ⟨_,rfl,bA h⟩) i0))
end
end HT
namespace L2
open PySem PySem.Spec PyProof.Rows
variable {xs:List V}{n:Nat}{ad:List (aC×bI)}{Z:St}{H:Hp}{s:aI}{its:List aF}{X:Cx}
abbrev TO:=St->Hp->(Option Int->Hp->Prop)->Prop
def PO (X:Cx)(e:Option aQ)(t:TO):Prop:=
 ∀ (ad:List (aC×bI)) (s:aI) (Z:St) (H:Hp) (Q:Option Int->Hp->Prop),Inv X ad Z H s->t Z H Q ->
  aT (aX X.prog X.w) X.A (evalPart e X.env) (λu s'=>∃ o H',Inv X ad Z H' s'/\pJ u o/\Q o H') X.xe s
def Mv:TO:=λ_ H Q=>Q ae H
def Fo (t:TE):TO:=λZ H Q=>t Z H λx H1=>∃ i,x=.int i/\Q (aa i) H1
section
variable {e:aQ}{te:TE}{lo hi:Option aQ}{tl th:TO}{pos p2:bH}
theorem OY:PO X ae Mv:=by
 rw[8];rw[evalPart_none];exact bA ⟨ae,H,I,.none,h⟩
theorem Ay (h:PE X e te):PO X (aa e) (Fo te):=by
 intro ad s Z H Q I hw;rw[evalPart_some];refine bb (h ad s Z H _ I hw) λu s1 gh=>?_
 obtain⟨x,H1,I1,r1,q1⟩:=gh;obtain⟨i,rfl,q⟩:=q1;obtain⟨t,rfl⟩:=r1;exact⟨aa i,H1,I1,.int i t,q⟩
def SlR (X:Cx)(r:V->Option Int->Option Int->Hp->VK->Prop):Prop:=
 ∀ (ad:List (aC×bI)) (s:aI) (Z:St) (H:Hp) (x:V) (v vl vu:aF) (lo hi:Option Int) (sl:aC) (Q:VK),Inv X ad Z H s->RelV x v->s.heap.IsSliceOf sl vl vu .none->pJ vl lo->pJ vu hi->r x lo hi H Q ->
  ∃ T id,typeLookup (.type T) "__getitem__" = pure (aa (.builtin id))/\s.TypeIs v T/\aT (aX X.prog X.w) X.A (pC v (.ref sl)) (EP X ad Z Q) X.xe s
theorem SlR.or {r r':V->Option Int->Option Int->Hp->VK->Prop}(h:SlR X r)(h':SlR X r'):SlR X (λx lo hi H Q=>r x lo hi H Q\/r' x lo hi H Q):=by
 intro ad s Z H x v vl vu lo hi sl Q I rx hs pl pu q;rcases q with q|q
 .exact h ad s Z H x v vl vu lo hi sl Q I rx hs pl pu q
 .exact h' ad s Z H x v vl vu lo hi sl Q I rx hs pl pu q
def L7 (r:V->Option Int->Option Int->Hp->VK->Prop)(te:TE)(tl th:TO):TE:=λZ H Q=>te Z H λx H1=>tl Z H1 λl H2=>th Z H2 λu H3=>r x l u H3 Q
theorem HI {r:V->Option Int->Option Int->Hp->VK->Prop}(hr:SlR X r)(he:PE X e te)(hl:PO X lo tl)(hu:PO X hi th):PE X (.Subscript e (.Slice lo hi ae p2) pos) (L7 r te tl th):=by
 rw[8];refine Subscript_ (bb (he ad s Z H _ I h) λv s1 gh=>?_)
 obtain⟨x,H1,I1,r1,q1⟩:=gh;refine wpAny_Slice (bb (hl ad s1 Z H1 _ I1 q1) λvl s2 ⟨l,H2,I2,pl,q2⟩=>bb (hu ad s2 Z H2 _ I2 q2) λvu s3 gh=>?_)
 obtain⟨u,H3,I3,pu,q3⟩:=gh;rw[evalPart_none];refine bA ?_;have I4:Inv X ad Z H3 { s3 with heap:=s3.heap.push { cls:=.type "slice",data:=.fields #[vl,vu,.none] } }:=I3.kept (t':=s3.toks) λb ob q=>bX _ q
 obtain⟨T,id,hT,ht,hg⟩:=hr ad { s3 with heap:=s3.heap.push { cls:=.type "slice",data:=.fields #[vl,vu,.none] } } Z H3 x v vl vu l u s3.heap.objs.size Q I4 r1 (Heap.IsSliceOf.new ..) pl pu q3;show aT (aX X.prog X.w) X.A (subscriptTail e (.Slice lo hi ae p2) v (.ref s3.heap.objs.size)) (EP X ad Z Q) X.xe { s3 with heap:=s3.heap.push { cls:=.type "slice",data:=.fields #[vl,vu,.none] } };exact tail_any (ops:=[.ref s3.heap.objs.size,v]) ht hT hg (by with_unfolding_all rfl)
def lT (xs:List V)(lo hi:Option Int):List V:=(xs.drop (HT.sIx xs.length 0 lo)).take (HT.sIx xs.length xs.length hi-HT.sIx xs.length 0 lo)
theorem XQ (xs:List V)(lo hi:Option Int):(lT xs lo hi).length<=xs.length:=by
 unfold lT;rw[yJ,List.length_drop]
 lia
def Eo (K:aK):V->Option Int->Option Int->Hp->VK->Prop:=λx lo hi H Q=>∃ a xs,x=.ref a/\SqT K H a xs /\
 ¬ (HT.sIx xs.length 0 lo=0/\HT.sIx xs.length xs.length hi=xs.length)/\∀ p,H p=ae->Q (.ref p) (upd H p (.tup (lT xs lo hi)))
theorem Ka:SlR X (Eo X.K):=by
 intro ad s Z H x v vl vu lo hi sl Q I rx hs pl pu h;obtain⟨a,xs,rfl,hx,hw,q⟩:=h;cases rx;obtain⟨its,r,ht,hz⟩:=I.tuple hx;have bh:its.toArray.size=xs.length:=by rw[dW];exact r.length.symm
 refine⟨"tuple",_,Ci.lookup,ht.typeIs,?_⟩;refine HT.Ahz ht hs pl pu (by rw[bh];exact hw) ?_ (by rw[bh];exact hz)
 rw[bh];refine⟨.ref s.heap.objs.size,_,I.laid (t':=s.toks) (o:=.tup (lT xs lo hi)) (λb ob q=>bX _ q) (bJ _) ?_,rfl,q _ (I.hok.fresh (bJ _))⟩
 exact⟨cM (XQ xs lo hi) hz,_,(r.drop (HT.sIx xs.length 0 lo)).take (HT.sIx xs.length xs.length hi-HT.sIx xs.length 0 lo),A4w.new _ _⟩
def EG (K:aK):R2:=λx y H Q=>∃ a b xs ys,x=.ref a/\y=.ref b/\SqT K H a xs/\SqT K H b ys/\xs≠[]/\xs.length+ys.length<=sizeLine /\
 (ys=[]->Q (.ref a) H)/\(ys≠[]->∀ p,H p=ae->Q (.ref p) (upd H p (.tup (xs++ys))))
theorem Vals.nil_iff{us:List aF}(r:Vals xs us):us=[]↔xs=[]:=by
 cases r with
 |nil=>simp
 |cons _ _=>simp
theorem A0x:OpR X (jQ .Add) (EG X.K):=by
 rw[3];obtain⟨a,b,xs,ys,rfl,rfl,ha,hb,hx,hz,q1,q2⟩:=h;cases rx;cases ry;obtain⟨its,r1,p1,_⟩:=I.tuple ha;obtain⟨jy,r2,p2,_⟩:=I.tuple hb;refine HT.Bak p1 p2 (λz=>hx (r1.nil_iff.1 z)) (λz=>⟨.ref a,H,I,rfl,q1 (r2.nil_iff.1 z)⟩) (λz=>?_) (by rw[<-r1.length,<-r2.length];exact hz)
 refine⟨.ref s.heap.objs.size,_,I.laid (t':=s.toks) (o:=.tup (xs++ys)) (λb ob q=>bX _ q) (bJ _) ?_,rfl,q2 (λw=>z (r2.nil_iff.2 w)) _ (I.hok.fresh (bJ _))⟩
 exact⟨by rw[pH];exact hz,_,r1.append r2,A4w.new _ _⟩
end
noncomputable def gf (n:Nat)(i:Int):Option Nat:=if 0<=i then(if i<n then aa i.toNat else ae) else if -(n:Int)<=i then aa (i+n).toNat else ae
def e8 {α:Type}(xs:List α)(i:Int):Option α:=(gf xs.length i).bind λj=>xs[j]?
theorem Av{i:Int}{j:Nat}(h:gf n i=aa j):seqIndex? i n=aa j/\j<n /\ -(n:Int)<=i/\i<n:=by
 unfold gf at h;by_cases h0:0<=i
 .rw[if_pos h0] at h;by_cases h1:i<n
  .rw[if_pos h1] at h;have e:i.toNat=j:=fH h;exact⟨by rw[seqIndex_of h0 h1,e],(),(),h1⟩
  all_goals grind
 .rw[if_neg h0] at h;by_cases h1 : -(n:Int)<=i
  .rw[if_pos h1] at h;have e:(i+n).toNat=j:=fH h;exact⟨by rw[seqIndex_neg () h1,e],(),h1,()⟩
  all_goals grind
theorem GK {α:Type}{xs:List α}{i:Int}{v:α}(h:e8 xs i=aa v):∃ j,seqIndex? i xs.length=aa j/\xs[j]?=aa v/\j<xs.length /\ -(xs.length:Int)<=i/\i<xs.length:=by
 unfold e8 at h;cases e:gf xs.length i with
 |none=>rw[e] at h;cases h
 |some j=>
  rw[e] at h;obtain⟨h1,h2,h3,h4⟩:=Av e
  grind
theorem AN {α:Type}{xs:List α}{j:Nat}{v:α}(h:xs[j]?=aa v):e8 xs (j:Int)=aa v:=by
 have hj:j<xs.length:=(cR.1 h).1;have e:gf xs.length (j:Int)=aa j:=by
  unfold gf;rw[if_pos (),if_pos ()];simp
 unfold e8;rw[e];exact h
def uM (b:aQ):Prop:=∀ o i,LA b ag o i=operate [o,i] (pC o i)
def IxR (X:Cx)(r:R2):Prop:=
 ∀ (value ce:aQ) (ad:List (aC×bI)) (s:aI) (Z:St) (H:Hp) (x y:V) (v u:aF) (Q:VK),Inv X ad Z H s->RelV x v->RelV y u->r x y H Q ->
  LA ce ag v u=operate [v,u] (pC v u)->aT (aX X.prog X.w) X.A (subscriptTail value ce v u) (EP X ad Z Q) X.xe s
def MtR (X:Cx)(id:String)(r:V->List V->Hp->VK->Prop):Prop:=
 ∀ (ad:List (aC×bI)) (s:aI) (Z:St) (H:Hp) (x:V) (xs:List V) (v:aF) (us:List aF) (Q:VK),Inv X ad Z H s->RelV x v->Vals xs us->r x xs H Q ->
  aT (aX X.prog X.w) X.A (call (.builtin id) (v::us)) (EP X ad Z Q) X.xe s
section
variable {a b:aQ}{ta tb:TE}{pos:bH}
theorem IxR.or {r r':R2}(h:IxR X r)(h':IxR X r'):IxR X (λx y H Q=>r x y H Q\/r' x y H Q):=by
 intro value ce ad s Z H x y v u Q I rx ry q hs;rcases q with q|q
 .exact h value ce ad s Z H x y v u Q I rx ry q hs
 .exact h' value ce ad s Z H x y v u Q I rx ry q hs
theorem MtR.or {id:String}{r r':V->List V->Hp->VK->Prop}(h:MtR X id r)(h':MtR X id r'):MtR X id (λx xs H Q=>r x xs H Q\/r' x xs H Q):=by
 intro ad s Z H x xs v us Q I rx rs q;rcases q with q|q
 .exact h ad s Z H x xs v us Q I rx rs q
 .exact h' ad s Z H x xs v us Q I rx rs q
theorem xX {r:R2}(hr:IxR X r)(ha:PE X a ta)(hb:PE X b tb)(hs:uM b):PE X (.Subscript a b pos) (p9 r ta tb):=by
 rw[8];exact Subscript_ (DR ha hb I h λv u s2 x y H2 I2 rx ry q=>hr a b ad s2 Z H2 x y v u Q I2 rx ry q (hs _ _))
def NF (K:aK):R2:=λx y H Q=>∃ p xs i v,x=.ref p/\y=.int i/\SqL K H p xs/\e8 xs i=aa v/\Q v H
def NL (K:aK):R2:=λx y H Q=>∃ p xs i v,x=.ref p/\y=.int i/\SqT K H p xs/\e8 xs i=aa v/\Q v H
def ND:R2:=λx y H Q=>∃ z i c,x=.str z/\y=.int i/\z.length<=sizeLine/\e8 z.cps.toList i=aa c/\Q (.str ⟨#[c]⟩) H
theorem Baw:IxR X (NF X.K):=by
 intro value ce ad s Z H x y v u Q I rx ry h hs;obtain⟨p,xs,i,z,rfl,rfl,hq,he,q⟩:=h;cases rx;obtain⟨t,rfl⟩:=ry;obtain⟨its,r,pl,hz⟩:=I.list hq;obtain⟨j,h1,h2,h3,h4,h5⟩:=GK he;obtain⟨w,ew,gp⟩:=r.get h2;have hl:=r.length;have hn:=rT;have fin:EP X ad Z Q w s:=⟨z,H,I,gp,q⟩;by_cases h0:0<=i
 .have hj:i.toNat=j:=by
   rw[seqIndex_of h0 h5] at h1;exact fH h1
  exact item_listR pl.isList h0 () (by rw[hj];simpa using ew) fin hs
 .have hj:(i+(its.toArray.size:Int)).toNat=j:=by
   rw[seqIndex_neg () h4] at h1
   grind
  exact subscriptTail_builtinR (x:=w) pl.isList.typeIs slot_list_getitem.lookup
   (wpAny_getItem_list_neg (Q:=λr s'=>r=w/\EP X ad Z Q r s') pl.isList () (by rw[dW]<;>lia) () (by rw[hj];simpa using ew) ⟨rfl,fin⟩) hs
theorem Bc6:IxR X (NL X.K):=by
 intro value ce ad s Z H x y v u Q I rx ry h hs;obtain⟨p,xs,i,z,rfl,rfl,hq,he,q⟩:=h;cases rx;obtain⟨t,rfl⟩:=ry;obtain⟨its,r,pl,hz⟩:=I.tuple hq;obtain⟨j,h1,h2,h3,h4,h5⟩:=GK he;obtain⟨w,ew,gp⟩:=r.get h2;have hl:=r.length;have hn:=rT;have fin:EP X ad Z Q w s:=⟨z,H,I,gp,q⟩;exact subscriptTail_builtinR (x:=w) pl.typeIs LB.lookup
  (getItem_tuple (j:=j) (Q:=λr s'=>r=w/\EP X ad Z Q r s') pl () () (by rw[dW,<-hl];exact h1) (by simpa using ew) ⟨rfl,fin⟩) hs
theorem Ki:IxR X ND:=by
 intro value ce ad s Z H x y v u Q I rx ry h hs;obtain⟨z,i,c,rfl,rfl,hz,he,q⟩:=h;obtain⟨t,rfl⟩:=rx;obtain⟨t',rfl⟩:=ry;obtain⟨j,h1,h2,h3,h4,h5⟩:=GK he;have hl:z.cps.toList.length=z.length:=by simp[Str.length]
 rw[hl] at h1 h4 h5;have hn:=rT;exact tail_any (typeIs_str s z t) slot_str_getitem.lookup (getItem_str (c:=c) (by
  have e1:decide (i < -(2^63:Int))=ag:=decide_eq_false ()
  have e2:decide (i ≥ 2^63)=ag:=decide_eq_false ()
  rw[e1,e2,Bool.or_false]) (by rw[h1];simpa using h2) ⟨.str ⟨#[c]⟩,H,I.tok _,⟨_,rfl⟩,q⟩) hs
def xy (K:aK):R2:=λx y H Q=>NF K x y H Q\/NL K x y H Q\/ND x y H Q
theorem wD:IxR X (xy X.K):=Baw.or (Bc6.or Ki)
theorem Py (its:List aF)(n j:Nat)(u:aF):iI (·.setIfInBounds j u) { cls:=.type "list",data:=.seq its.toArray n }={ cls:=.type "list",data:=.seq (its.set j u).toArray n }:=by
 simp[iI]
theorem Inv.lst{p:aC}(I:Inv X ad Z H s)(h:H p=aa (.lst xs)) :
  ∃ (its:List aF) (n:Nat),Vals xs its/\s.heap.get? p=aa { cls:=.type "list",data:=.seq its.toArray n }/\xs.length<=sizeLine:=by
 obtain⟨z,its,n,r,e⟩:=I.hok p _ h;exact⟨its,n,r,e,z⟩
theorem Inv.lstUpd{p:aC}{ys:List V}{its':List aF}{n':Nat}{f:bI->bI}(I:Inv X ad Z H s)(h:H p=aa (.lst xs))
  (ho:s.heap.get? p=aa { cls:=.type "list",data:=.seq its.toArray n }) (hf:f { cls:=.type "list",data:=.seq its.toArray n }={ cls:=.type "list",data:=.seq its'.toArray n' }) (r:Vals ys its') (hz:ys.length<=sizeLine) (t:Nat) :
  Inv X ad Z (upd H p (.lst ys)) { s with heap:=s.heap.update p f,toks:=t }:=by
 have e:(s.heap.update p f).get? p=aa { cls:=.type "list",data:=.seq its'.toArray n' }:=by
  rw[yP f ho (by rw[hf]<;>rfl),hf]
 refine I.write (x:=p) (e:=p) (by rw[h];trivial) (.inl rfl) (λb u hb q=>(CU _ _ (jI hb)).trans q) ⟨_,e⟩ ?_
 exact⟨hz,its',n',r,e⟩
def Fw:V->V->V->Hp->(Hp->Prop)->Prop:=λo i v H Q=>∃ p xs k j,o=.ref p/\i=.int k/\H p=aa (.lst xs)/\gf xs.length k=aa j/\Q (upd H p (.lst (xs.set j v)))
theorem set_list:MZ X Fw:=by
 intro ad s Z H o i v ov iv u Q I ro ri rv h;obtain⟨p,xs,k,j,rfl,rfl,hp,hj,q⟩:=h;cases ro;obtain⟨t,rfl⟩:=ri;obtain⟨its,n,r,ho,hz⟩:=I.lst hp;obtain⟨h1,h2,h3,h4⟩:=Av hj;have hl:=r.length;have hn:=rT;have I':Inv X ad Z (upd H p (.lst (xs.set j v))) { s with heap:=s.heap.update p (iI (·.setIfInBounds j u)) }:=
  I.lstUpd hp ho (Py its n j u) (r.set rv j) (by rw[MA];exact hz) s.toks
 by_cases h0:0<=k
 .have hk:k.toNat=j:=by
   rw[seqIndex_of h0 h4] at h1;exact fH h1
  exact PySem.W.ki_setAt ho h0 () (by rw[dW,<-hl];exact h4) (by rw[hk];exact⟨_,I',q⟩)
 .have hk:(k+(its.toArray.size:Int)).toNat=j:=by
   rw[seqIndex_neg () h3] at h1
   grind
  exact PySem.W.ki_setBack ho () (by rw[dW,<-hl];exact h3) () (by rw[hk];exact⟨_,I',q⟩)
theorem Rp (lo hi:Option Int)(n:Nat):(vC lo hi ae n).1=((HT.sIx n 0 lo:Nat):Int)/\(vC lo hi ae n).2.1=((HT.sIx n n hi:Nat):Int)/\(vC lo hi ae n).2.2=1:=by
 refine⟨?_,?_,rfl⟩
 .cases lo with
  |none=>simp[vC,HT.sIx]
  |some i=>
   simp only[vC,HT.sIx,Option.getD_none,show(1:Int) > 0 by decide,if_true]
   grind
 .cases hi with
  |none=>simp[vC,HT.sIx]
  |some i=>
   simp only[vC,HT.sIx,Option.getD_none,show(1:Int) > 0 by decide,if_true]
   grind
theorem Sh (its:List aF)(lo hi:Option Int):slicePick its.toArray lo hi ae=((its.drop (HT.sIx its.length 0 lo)).take (HT.sIx its.length its.length hi-HT.sIx its.length 0 lo)).toArray:=by
 obtain⟨h1,h2,h3⟩:=Rp lo hi its.toArray.size;unfold slicePick;rw[h1,h2,h3];simp only[sliceRange_one,pick_run,dW]<;>rfl
def En (K:aK):V->Option Int->Option Int->Hp->VK->Prop:=λx lo hi H Q=>∃ a xs,x=.ref a/\SqL K H a xs/\∀ p,H p=ae->Q (.ref p) (upd H p (.lst (lT xs lo hi)))
theorem QH:SlR X (En X.K):=by
 intro ad s Z H x v vl vu lo hi sl Q I rx hs pl pu h;obtain⟨a,xs,rfl,hx,q⟩:=h;cases rx;obtain⟨its,r,ht,hz⟩:=I.list hx;have bh:=r.length;refine⟨"list",_,slot_list_getitem.lookup,ht.isList.typeIs,?_⟩;refine wpAny_getItem_list_slice ht.isList hs pl pu .none (by simp) ?_ (by rw[dW]<;>lia)
 rw[Sh,<-bh];refine⟨.ref s.heap.objs.size,_,I.laid (t':=s.toks) (o:=.lst (lT xs lo hi)) (λb ob q=>bX _ q) (bJ _) ?_,rfl,q _ (I.hok.fresh (bJ _))⟩
 exact⟨cM (XQ xs lo hi) hz,_,0,(r.drop (HT.sIx xs.length 0 lo)).take (HT.sIx xs.length xs.length hi-HT.sIx xs.length 0 lo),dG _ rfl⟩
theorem Rw:OpR X (iH .NotIn) (λx y H Q=>∃ i j,x=.str i/\y=.str j/\Q (.bl (!(!(MQ j i 0 j.length 1).isEmpty))) H):=by
 rw[3];obtain⟨i,j,rfl,rfl,q⟩:=h;obtain⟨t,rfl⟩:=rx;obtain⟨t',rfl⟩:=ry;exact notIn_str ⟨.bl _,H,I,rfl,q⟩
theorem Aqp:Adc X (.builtin "len") (λxs H Q=>∃ p ys,xs=[.ref p]/\(SqL X.K H p ys\/SqT X.K H p ys)/\Q (.int ys.length) H):=by
 rw[6];obtain⟨p,ys,rfl,hq,q⟩:=h;obtain⟨u,rfl,rx⟩:=vals1 r;cases rx;have hn:=rT;rcases hq with hq|hq
 .obtain⟨its,r',pl,hz⟩:=I.list hq;have bh:=r'.length;exact Calls.call_len_list pl.isList (by simp only[dW]<;>lia) ⟨.int ys.length,H,I.tok _,⟨s.toks+1,by rw[dW,bh]⟩,q⟩
 .obtain⟨its,r',pl,hz⟩:=I.tuple hq;have bh:=r'.length;exact len_tuple pl (by simp only[dW]<;>lia) ⟨.int ys.length,H,I.tok _,⟨s.toks+1,by rw[dW,bh]⟩,q⟩
theorem Aqs:Adc X (.builtin "len") (λxs H Q=>∃ z,xs=[.str z]/\z.length<=sizeLine/\Q (.int z.length) H):=by
 rw[6];obtain⟨z,rfl,hz,q⟩:=h;obtain⟨u,rfl,t,rfl⟩:=vals1 r;have hn:=rT;exact len_str () ⟨.int z.length,H,I.tok _,⟨_,rfl⟩,q⟩
theorem Adc.or {f:aF}{r r':List V->Hp->VK->Prop}(h:Adc X f r)(h':Adc X f r'):Adc X f (λxs H Q=>r xs H Q\/r' xs H Q):=by
 intro ad s Z H xs us Q I rs q;rcases q with q|q
 .exact h ad s Z H xs us Q I rs q
 .exact h' ad s Z H xs us Q I rs q
theorem Aoq:Adc X (.type "list") (λxs H Q=>∃ p ys,xs=[.ref p]/\(SqL X.K H p ys\/SqT X.K H p ys)/\∀ l,H l=ae->Q (.ref l) (upd H l (.lst ys))):=by
 rw[6];obtain⟨p,ys,rfl,hq,q⟩:=h;obtain⟨u,rfl,rx⟩:=vals1 r;cases rx;have fin:∀ (its:List aF),Vals ys its->ys.length<=sizeLine->∀ (h':aU) (c':Nat),(∀ b o',s.heap.get? b=aa o'->h'.get? b=aa o') ->
   h'.get? s.heap.objs.size=aa { cls:=.type "list",dict:=ae,data:=.seq its.toArray c',slots:=#[] }->EP X ad Z Q (.ref s.heap.objs.size) { s with heap:=h' }:=λits r' hz h' c' kp e=>
  ⟨.ref s.heap.objs.size,_,I.laid (t':=s.toks) kp (bJ _) (show Acu X.prog X.w _ h' _ (.lst ys) from⟨hz,its,c',r',e⟩),rfl,q _ (I.hok.fresh (bJ _))⟩
 rcases hq with hq|hq
 .obtain⟨its,r',pl,hz⟩:=I.list hq;have bh:=r'.length;obtain⟨o,ho,hc,n,hd⟩:=pl.isList;exact call_list_seq p (.inl rfl) ho hc hd (λh' c' kp e=>fin its r' hz h' c' kp e) (by simp only[dW]<;>lia)
 .obtain⟨its,r',pl,hz⟩:=I.tuple hq;have bh:=r'.length;obtain⟨o,ho,hc,n,hd⟩:=pl;exact call_list_seq p (.inr rfl) ho hc hd (λh' c' kp e=>fin its r' hz h' c' kp e) (by simp only[dW]<;>lia)
theorem Ry:Adc X (.type "tuple") (λxs H Q=>∃ p ys,xs=[.ref p]/\((SqL X.K H p ys/\∀ l,H l=ae->Q (.ref l) (upd H l (.tup ys)))\/(SqT X.K H p ys/\Q (.ref p) H))):=by
 rw[6];obtain⟨p,ys,rfl,h⟩:=h;obtain⟨u,rfl,rx⟩:=vals1 r;cases rx;rcases h with⟨hq,q⟩|⟨hq,q⟩
 .obtain⟨its,r',pl,hz⟩:=I.list hq;have bh:=r'.length;refine call_tuple_list pl.isList (λh' kp=>?_) (by simp only[dW]<;>lia)
  have I1:Inv X ad Z H { s with heap:=h' }:=I.kept (t':=s.toks) kp;have I2:Inv X ad Z (upd H h'.objs.size (.tup ys)) { s with heap:=h'.push { cls:=.type "tuple",data:=.seq its.toArray } }:=
   I1.laid (t':=s.toks) (λb o e=>bX _ e) (bJ _) (show Acu X.prog X.w _ _ _ (.tup ys) from⟨hz,its,r',A4w.new _ _⟩)
  exact⟨.ref h'.objs.size,_,I2,rfl,q _ (I1.hok.fresh (bJ _))⟩
 .obtain⟨its,r',pl,hz⟩:=I.tuple hq;exact call_tuple_same pl ⟨.ref p,H,I,rfl,q⟩
def ye (K:aK)(T:String)(x:V)(H:Hp):Prop:=match x with
 |.str _=>T = "str"
 |.int _=>T = "int"
 |.ref p=>(T = "list" /\ ∃ xs,SqL K H p xs)\/(T = "tuple" /\ ((∃ o,K.lookup p=aa o/\o.cls=.type "tuple" /\ o.dict=ae)\/∃ xs,H p=aa (.tup xs))) \/
   (T = "dict" /\ ((∃ ep kvs,H p=aa (.dK ep kvs))\/∃ kvs,∃ ep,H p=aa (.dT ep kvs)))\/(T = "set" /\ ∃ S n,H p=aa (.set S n))
 |_=>False
theorem Ac{T:String}{x:V}{v:aF}(I:Inv X ad Z H s)(r:RelV x v)(ty:ye X.K T x H) :
  s.TypeIs v T/\∀ a,v=.ref a->∃ ob,s.heap.get? a=aa ob/\ob.dict=ae:=by
 cases x with
 |str z=>
  obtain⟨t,rfl⟩:=r;cases(show T = "str" from ty)
  exact⟨typeIs_str s z t,λ_ e=>nomatch e⟩
 |int i=>
  obtain⟨t,rfl⟩:=r;cases(show T = "int" from ty)
  exact⟨typeIs_int s i t,λ_ e=>nomatch e⟩
 |ref p=>
  cases r;rcases ty with⟨rfl,xs,hq⟩|⟨rfl,⟨o,hk,hc,hd⟩|⟨xs,hx⟩⟩|⟨rfl,hk⟩|⟨rfl,S,n,hk⟩
  .obtain⟨its,_,pl,_⟩:=I.list hq;refine⟨pl.isList.typeIs,λa e=>?_⟩
   cases e;obtain⟨o,n,e,c,hd,_⟩:=pl;exact⟨o,e,hd⟩
  .refine⟨⟨o,I.kIn p o hk,hc⟩,λa e=>?_⟩
   cases e;exact⟨o,I.kIn _ o hk,hd⟩
  .obtain⟨_,_,_,⟨o,e,c,_⟩,n⟩:=(show Acu X.prog X.w H s.heap p (.tup xs) from I.hok p _ hx)
   refine⟨⟨o,e,c⟩,λa e=>?_⟩
   cases e;exact n
  .have z:∃ o,s.heap.get? p=aa o/\o.ExactDict:=by
    rcases hk with⟨ep,kvs,hk⟩|⟨kvs,ep,hk⟩
    .obtain⟨_,_,_,_,o,_,e,ex,_⟩:=I.hok p _ hk;exact⟨o,e,ex⟩
    .obtain⟨_,_,_,_,o,_,e,ex,_⟩:=I.hok p _ hk;exact⟨o,e,ex⟩
   obtain⟨o,e,ex⟩:=z;refine⟨⟨o,e,ex.1⟩,λa e2=>?_⟩
   cases e2;exact⟨o,e,ex.2.1⟩
  .obtain⟨o,_,_,_,e,ex,_⟩:=I.hok p _ hk;refine⟨⟨o,e,ex.1⟩,λa e2=>?_⟩
   cases e2;exact⟨o,e,ex.2.1⟩
 |_=>exact pL ty
def Dx (K:aK)(T:String)(r:V->List V->Hp->VK->Prop)(to:TE):TE:=λZ H Q=>to Z H λx H1=>ye K T x H1/\r x [] H1 Q
def A7 (K:aK)(T:String)(r:V->List V->Hp->VK->Prop)(to:TE)(t:TA):TE:=λZ H Q=>to Z H λx H1=>ye K T x H1/\t Z H1 λxs H2=>r x xs H2 Q
variable {o e:aQ}{es:List aQ}{to:TE}{t:TA}{name:aE}{ao au:bH}{T id:String}{r:V->List V->Hp->VK->Prop}
theorem Ke (pa:PlainAttrs T)(slot:Slot T name id)(vh:typeOf (.builtin id)=pure (.type "method_descriptor"))(hm:MtR X id r)(ho:PE X o to)
  (dh:vG o name X.env (bZ o X.env)=bZ o X.env:=by rfl) (dl:(ao.endLine==au.line)=af:=by rfl):PE X (.Call (.Attribute o name ao) [] [] au) (Dx X.K T r to):=by
 rw[8];refine wpAny_Call_method0_late dh dl (bb (ho ad s Z H _ I h) λv s1 gh=>?_)
 obtain⟨x,H1,I1,r1,ty,q1⟩:=gh;obtain⟨h1,h2⟩:=Ac I1 r1 ty;exact⟨T,id,pa,slot,vh,h1,h2,Dl rfl (PySem.evalArgs_none (hm ad s1 Z H1 x [] v [] Q I1 r1 .nil q1))⟩
structure Bm (X:Cx)(o e:aQ)(es:List aQ)(name:aE)(ao au:bH):Prop where
 b:vG o name X.env (bZ o X.env)=bZ o X.env
 f:((jG au (cC (e::es) X.env)).all (λx=>!x.1)&&(backToKw au (keywordEach [] X.env)).all (λx=>x.1.isSome)&&decide ((e::es).length+([]:List Keyword).length+(if ([]:List Keyword).isEmpty then 0 else 1)<30))=af
 l:(ao.endLine==au.line)=af
 s:cC (e::es) X.env=(ag,bZ e X.env)::cC es X.env
 p:(jG au (cC es X.env)).any (·.1)=ag
theorem mP (pa:PlainAttrs T)(slot:Slot T name id)(vh:typeOf (.builtin id)=pure (.type "method_descriptor"))(hm:MtR X id r)(ho:PE X o to)(ha:PA X (e::es) t)
  (q5:Bm X o e es name ao au:=by exact⟨rfl,rfl,rfl,rfl,rfl⟩) :
  PE X (.Call (.Attribute o name ao) (e::es) [] au) (A7 X.K T r to t):=by
 rw[8];refine wpAny_Call_method_late q5.b q5.f q5.l rfl (bb (ho ad s Z H _ I h) λv s1 gh=>?_)
 obtain⟨x,H1,I1,r1,ty,q1⟩:=gh;obtain⟨h1,h2⟩:=Ac I1 r1 ty;refine⟨T,id,pa,slot,vh,h1,h2,?_⟩;have hA:=ha au ad s1 Z H1 _ I1 q1;rw[q5.s] at hA ⊢;refine Dl (by show(ag||(jG au (cC es X.env)).any (·.1))=ag;rw[q5.p]<;>rfl) (Calls.evalArgs_plain ?_)
 exact bb hA λus s2 ⟨vs,H2,I2,r2,q2⟩=>hm ad s2 Z H2 x vs v us Q I2 r1 r2 q2
end
def su (X:Cx)(id:String)(r:V->List V->Hp->VK->Prop):Prop:=
 ∀ (ad:List (aC×bI)) (s:aI) (Z:St) (H:Hp) (x:V) (xs:List V) (v:aF) (us:List aF) (Q:VK),Inv X ad Z H s->RelV x v->Vals xs us->r x xs H Q ->
  aT (aX X.prog X.w) X.A (call (.builtin id) (v::us)) (EP X ad Z Q) X.xe s
theorem Vals.one:∀ {x:V} {us:List aF},Vals [x] us->∃ u,us=[u]/\RelV x u:=by
 intro x us h;cases h with
 |cons r t=>cases t;exact⟨_,rfl,r⟩
theorem Vals.zero:∀ {us:List aF},Vals [] us->us=[]
 |_,.nil=>rfl
theorem Vals.dropLast{us:List aF}(h:Vals xs us):Vals xs.dropLast us.dropLast:=by
 induction h with
 |nil=>exact .nil
 |cons r t ih=>
  cases t with
  |nil=>exact .nil
  |cons q t'=>exact .cons r ih
theorem Vals.eraseIdx:∀ {xs:List V} {us:List aF} (i:Nat),Vals xs us->Vals (xs.eraseIdx i) (us.eraseIdx i)
 |_,_,_,.nil=>.nil
 |_,_,0,.cons _ t=>t
 |_,_,i+1,.cons r t=>.cons r (Vals.eraseIdx i t)
theorem Qc {α:Type}(l:List α):l.eraseIdx (l.length-1)=l.dropLast:=by
 induction l with
 |nil=>rfl
 |cons a r ih=>
  cases r with
  |nil=>rfl
  |cons b r=>
   have e:(a::b::r).length-1=((b::r).length-1)+1:=by
    have h1:(a::b::r).length=r.length+2:=rfl;have h2:(b::r).length=r.length+1:=rfl
    lia
   rw[e,sZ,ih]
   all_goals rfl
theorem SX {α:Type}:∀ (l:List α) (i:Nat),(l.eraseIdx i).length<=l.length
 |[],_=>bJ _
 |_::_,0=>yG _
 |_::r,i+1=>Nat.succ_le_succ (SX r i)
section
variable {l b:aC}{ys zs:List V}
theorem Inv.lset {its':List aF}{f:Array aF->Array aF}{t':Nat}(I:Inv X ad Z H s)(hH:H l=aa (.lst xs))
  (e:s.heap.get? l=aa { cls:=.type "list",data:=.seq its.toArray n }) (hf:f its.toArray=its'.toArray) (hv:Vals ys its') (hz:ys.length<=sizeLine) :
  Inv X ad Z (upd H l (.lst ys)) { s with heap:=s.heap.update l (iI f),toks:=t' }:=by
 have q:=PySem.IsL.update e f;rw[hf] at q;refine I.write (x:=l) (e:=l) (by rw[hH];exact trivial) (.inl rfl) (λb' u hb hu=>(CU s.heap (iI f) (jI hb)).trans hu) ⟨_,q⟩ ?_
 exact⟨hz,its',_,hv,q⟩
theorem Inv.lnew{t':Nat}(I:Inv X ad Z H s)(hv:Vals ys its)(hz:ys.length<=sizeLine) :
  Inv X ad Z (upd H s.heap.objs.size (.lst ys)) { s with heap:=s.heap.push { cls:=.type "list",data:=.seq its.toArray },toks:=t' }:=
 I.laid (λ_ _ q=>bX _ q) (bJ _) ⟨hz,its,0,hv,dG _ rfl⟩
theorem Inv.fresh (I:Inv X ad Z H s):H s.heap.objs.size=ae:=I.hok.fresh (bJ _)
theorem Inv.lstM (I:Inv X ad Z H s)(hH:H l=aa (.lst xs)):xs.length<=sizeLine/\∃ (its:List aF) (n:Nat),Vals xs its/\xs.length=its.length/\s.heap.get? l=aa { cls:=.type "list",data:=.seq its.toArray n }:=by
 obtain⟨z,its,n,r,e⟩:=I.hok l _ hH;exact⟨z,its,n,r,r.length,e⟩
end
def Ux:V->List V->Hp->VK->Prop:=λx vs H Q=>∃ l xs y,x=.ref l/\vs=[y]/\H l=aa (.lst xs)/\xs.length<sizeLine/\Q .non (upd H l (.lst (xs++[y])))
theorem xO:su X "list.append" Ux:=by
 intro ad s Z H x vs v us Q I rx rv h;obtain⟨l,xs,y,rfl,rfl,hH,hz,q⟩:=h;cases rx;obtain⟨u,rfl,ru⟩:=rv.one;obtain⟨z,its,n,r,hl,e⟩:=I.lstM hH;refine CG F.slot_list_append ⟨_,e,rfl⟩ F.entry_list_append (F.args_list_append_2 _ _) (PySem.list_append l its.toArray n u (by rw[dW];lia)) ⟨e,?_⟩
 refine⟨.non,_,I.lset (its':=its++[u]) hH e (by simp) (r.append (.cons ru .nil)) ?_,rfl,q⟩
 grind
def Ew:V->List V->Hp->VK->Prop:=λx vs H Q=>∃ l xs y,x=.ref l/\vs=[]/\H l=aa (.lst xs)/\xs[xs.length-1]?=aa y/\Q y (upd H l (.lst xs.dropLast))
theorem Gy:su X "list.pop" Ew:=by
 intro ad s Z H x vs v us Q I rx rv h;obtain⟨l,xs,y,rfl,rfl,hH,hy,q⟩:=h;cases rx;have B7:=rv.zero;subst B7;obtain⟨z,its,n,r,hl,e⟩:=I.lstM hH;obtain⟨u,hu,ru⟩:=r.get hy;have j7:its.toArray[its.toArray.size-1]?=aa u:=by
  show its.toArray[its.length-1]?=aa u;rw[<-Dr,<-hl];exact hu
 refine CG F.slot_list_pop ⟨_,e,rfl⟩ F.entry_list_pop (F.args_list_pop_1 _) (MeetsSeq.list_pop_last l its.toArray n u j7 (by rw[dW];lia)) ⟨e,?_⟩
 refine⟨y,_,I.lset (its':=its.dropLast) hH e ?_ r.dropLast ?_,ru,q⟩
 .show its.toArray.eraseIdxIfInBounds (its.toArray.size-1)=its.dropLast.toArray;rw[dW,Zb,Qc]
 .rw[List.length_dropLast]
  lia
end L2
namespace Att
open PySem PySem.W PySem.Calls PyProof.Rows
theorem Sw {P:Params}{h:aU}:∀ (ns:List Int) (vs:List aF),WellAll P h vs (ns.map WData.int)->IntsAre vs ns:=by
 intro ns;induction ns with
 |nil=>
  intro vs w;rw[List.map_nil] at w;cases w;exact .nil
 |cons n ns ih=>
  intro vs w;rw[cY] at w;cases w with
  |cons a b=>
   cases a;exact .cons _ _ (ih _ b)
theorem Nu {l:OpenLaw}{n:Nat}(hn:l.most=aa n){P:Params}{h:aU}{args:List WData}{ng:List aF}
  (ff:l.row.toRowW.claim.pre args=af) (vi:WellAll P h ng args) :
  ∃ a vs ns,ng=[fR a]/\args=[WData.list (ns.map WData.int)]/\h.get? a=aa { cls:=.type "list",data:=.seq vs.toArray }/\IntsAre vs ns/\ns.length<=n:=by
 have B8:WShape.hasAll [] args [.list .int]=af:=(pre_splitW ff).1;have hc:l.pre.holds [] { args:=args }=af:=(pre_splitW ff).2;obtain⟨d,r,rfl,h1,h2⟩:=hasAllW_cons B8;obtain rfl:=hasAllW_nil h2;obtain⟨xs,rfl,h3⟩:=hasW_list h1;obtain⟨ns,rfl⟩:=items_int h3;have bh:ns.length<=n:=by
  unfold OpenLaw.pre at hc;have h4:(WTm.not (.lt (.lit (.int (n:Int))) (.len (.arg 0)))).holds [] { args:=[.list (ns.map .int)] }=af:=by
   have h4:=(holds_andW hc).1;rw[hn] at h4;exact h4
  have h5:=condW_of h4 (w_not (w_lt w_lit (w_len_list (w_arg rfl))))
  grind
 cases vi with
 |cons w1 w2=>
  cases w2;cases w1 with
  |list ho gk=>exact⟨_,_,ns,rfl,rfl,ho,Sw ns _ gk,bh⟩
theorem Ni (l:OpenLaw)(args:List WData):l.row.toRowW.claim.post args (.bool af) args=af:=
 postW_of (r:=l.row.toRowW) (X:=(af==af))
  (show WShape.has [] (.bool af) .bool=af by first|rfl|decide|simp[WShape.has,WShape.arms,WShape.armsAll])
  (show(WTm.eq .res (.lit (.bool af))).value [] { args:=args,res:=aa (.bool af),after:=args }=aa (.bool (af==af)) from w_eq_bool (w_res rfl) w_lit) rfl
end Att
namespace L2
open PySem PySem.Spec PyProof.Rows
variable {w:bD}{K:aK}{mg:aE->Option aF}{a f:aC}{fd:kC}{x qual y:aE}{sp:Sp}{X:Cx}{st:dU}{N ps:List aE}{A:cE}{H H1 H' B' B0 H0:Hp}{xs:List V}{v:V}{c8 az c b tg e:aQ}{cy es:List aQ}{pos px ca p p2:bH}{env:eQ}{n i j n0:Nat}{sc:gA}{fp:Nat->List aC}{ad:List (aC×bI)}{Z:St}{s:aI}{cap:List (Option Nat)}{o:HO}{ds:List aA}{m d:aA}{Y:List (Option aA)}{g:aA->aA->Option aA}{r:R2}{T:String}{P0:aC->Prop}{kds:List (aA×aA)}{Q:VK}
theorem VC:∀ {vs:List aF} {ns:List Int},IntsAre vs ns->Vals (ns.map V.int) vs
 |_,_,.nil=>.nil
 |_,_,.cons n t h=>.cons ⟨t,rfl⟩ (VC h)
def Only (H:Hp):Prop:=∀ b,H b=ae\/∃ o xs,H b=aa (.frz o (.lst xs))
theorem Xh {P:bN}{mb:aE->Option aF}{CX:jm}{k:Nat}{fa:aC}{s₁:aI}{vs:List aF}{ns:List Int}
  (KX:K.In s₁.heap) (o7:s₁.heap.Ns jF mg) (hb:s₁.heap.Ns builtinsNs mb) (B9:∀ x:aE,x ≠ "__name__" -> mb x=lC x) (vj:s₁.heap.NoLimit) (hg:s₁.gens = #[])
  (ha:s₁.heap.get? a=aa { cls:=.type "list",data:=.seq vs.toArray }) (hi:IntsAre vs ns) (hl:ns.length<=sizeLine) (hr:Room k vF)
  (F:∀ base:aU,K.In base->base.Ns jF mg->FnOk P w K mg base CX k fa fd [x] sp) (qk:∀ (s:aI) (u:aF),BindsTo s fd ⟨[u],[]⟩ [(x,u)])
  (lu:∀ H:Hp,Only H->SqL K H a (ns.map V.int)->sp [.ref a] H (λv _=>v=.bl af) λ_ _ _=>False)
  (vk:∀ H e s',CX [] H s₁ (λ_ _ _=>False) e s'->False) :
  nL (aX P w) vF (.call (.ref fa) ⟨[.ref a],[]⟩) (λr s'=>r=.ok (.ret (.bool af))/\OldK s₁.heap s'.heap/\s'.os=s₁.os/\qT s'.gens) s₁:=by
 have rv:=VC hi;have vm:=hi.length;have ql:∀ H:Hp,Only H->SqL K H a (ns.map V.int)->HOk P w H s₁.heap->(∀ b,H b≠ae->b=a)->(H a≠ae->K.lookup a=ae) ->
   nL (aX P w) vF (.call (.ref fa) ⟨[.ref a],[]⟩) (λr s'=>r=.ok (.ret (.bool af))/\OldK s₁.heap s'.heap/\s'.os=s₁.os/\qT s'.gens) s₁:=by
  intro H hO hS hok hA hK;have base_of:∀ {b:aC} {o:bI},s₁.heap.get? b=aa o->H b=ae->(oU s₁.heap H).get? b=aa o:=λe n=>Wp e n
  have qh:∀ {b:aC} {o:bI} {es:Array pM} {ep:Nat},s₁.heap.get? b=aa o->o.data=.dict es ep->H b=ae:=λ{b o es ep} e d=>by
   cases q:H b with
   |none=>rfl
   |some u=>
    have e':b=a:=hA b (by rw[q];simp)
    subst e';rw[ha] at e;cases e;have d':Data.seq vs.toArray _=Data.dict es ep:=d;cases d'
  have t6:∀ {b:aC} {m:aE->Option aF},s₁.heap.Ns b m->(oU s₁.heap H).Ns b m:=λ{b m} ⟨o,es,ep,e,d,r⟩=>⟨o,es,ep,base_of e (qh e d),d,r⟩
  have yp:K.In (oU s₁.heap H):=λb o e=>base_of (KX b o e) (by
   cases q:H b with
   |none=>rfl
   |some u=>
    have e':b=a:=hA b (by rw[q];simp)
    subst e';rw[hK (by rw[q];simp)] at e;cases e)
  have hM:Mod K mg (oU s₁.heap H):=⟨yp,t6 o7,⟨mb,t6 hb,B9⟩,let ⟨mc,h1,h2⟩:=vj;⟨mc,t6 h1,h2⟩⟩;have e0:Env0 P w K mg (oU s₁.heap H) vF [] s₁ H:=⟨rfl,hM,λb o e=>Mz e,LS (Nk _ _),trivial,λb hb=>absurd (show b∈([]:List aC) from hb) (by simp),hok,.of_eq hg⟩
  refine codeAny_mono ((F _ yp (t6 o7)).run vF [] s₁ H ⟨[.ref a],[]⟩ [.ref a] [.ref a] _ _ hr e0 (qk s₁ (.ref a)) (.cons rfl .nil) (lu H hO hS)) λr s' h=>?_
  cases r with
  |error e=>exact(vk H e s' h).elim
  |ok fl=>
   cases fl with
   |next=>exact pL h
   |brk=>exact pL h
   |cont=>exact pL h
   |ret u=>
    obtain⟨v,H',os,bare,un,kr,r',q⟩:=h;have q':v=.bl af:=q;subst q';obtain rfl:u=Value.bool af:=r';refine⟨rfl,OldK.of_keep λb o e=>?_,os,bare⟩
    cases q:H b with
    |none=>exact un.keep b o e q (by intro z;exact absurd (show b∈([]:List aC) from z) (by simp)) (by simp)
    |some u=>
     rcases hO b with z|⟨ob,xs,z⟩
     .rw[q] at z;cases z
     .have z2:=un.frzs b ob _ z;obtain⟨e1,_⟩:=hok b _ z;obtain⟨e2,_⟩:=kr b _ z2;rw[e] at e1;cases e1;exact e2
 cases hk:K.lookup a with
 |some o=>
  have e:=KX a o hk;rw[ha] at e;cases e;refine ql (λ_=>ae) (λ_=>.inl rfl) (.inr ⟨_,vs.toArray,_,hk,rfl,rfl,rfl,by rw[dW,vm];exact hl,by simpa using rv⟩) (λb u z=>by have z':(ae:Option HO)=aa u:=z;cases z') (λb z=>absurd rfl z) λz=>absurd rfl z
 |none=>
  refine ql (λb=>if b=a then aa (.frz { cls:=.type "list",data:=.seq vs.toArray } (.lst (ns.map V.int))) else ae) (λb=>?_) (.inl (.inr ⟨{ cls:=.type "list",data:=.seq vs.toArray },if_pos rfl⟩)) (λb u z=>?_) (λb z=>?_) λ_=>hk
  .by_cases hb:b=a
   .exact .inr ⟨_,_,if_pos hb⟩
   .exact .inl (if_neg hb)
  .by_cases hb:b=a
   .have z':=(if_pos hb).symm.trans z;cases z';subst hb;exact⟨ha,by rw[cD];exact hl,vs,_,rv,ha⟩
   all_goals grind
  all_goals grind
def wW (s:dU):Arguments:=match s with
 |.FunctionDef _ a _ _ _ _ _ _ _ _=>a
 |_=>{ posonlyargs:=[],args:=[],vararg:=ae,kwonlyargs:=[],kw_defaults:=[],kwarg:=ae,defaults:=[] }
def mW (s:dU):List dU:=match s with
 |.FunctionDef _ _ b _ _ _ _ _ _ _=>b
 |_=>[]
def dI (s:dU):gA:=match s with
 |.FunctionDef _ _ _ _ _ _ sc _ _ _=>sc
 |_=>{ kind:=.function,names:=[],isGenerator:=ag,isCoroutine:=ag }
abbrev jc:jm:=λ_ _ _ _ _ _=>False
abbrev E0:XK:=λ_ _ _=>False
theorem Gp:Passes jc X E0:=λ_ _ _ _ _ _ _ h=>h.elim
structure Fun (K:aK)(x qual:aE)(st:dU)(f:aC)(fd:kC):Prop where
 ex:∃ (oc:aF) (od:Option aC) (kV gi pm:aF) (an:Option aC) (bz ct:aF) (lq:Array (Option aF)),
  fd=vI x qual (wW st) (mW st) (dI st) .none kV gi pm an bz ct/\K.lookup f=aa ⟨oc,od,.func fd,lq⟩/\LH K bz qual=af
 kp:CI K (.ref f)=af
section
variable {P:bN}{base:aU}
theorem Fun.ok{k:Nat}(F:Fun K x qual st f fd)(S:FnScope N ps (dI st))(len:∀ vs H Q E,sp vs H Q E->vs.length=ps.length)
  (jw:∀ (bz:aF) (A:cE) (outer:List eQ) (s:aI) (H:Hp) (vs:List V) (Q:VK) (E:XK),Room k (A.deeper (envOfC qual (dI st) s.heap.objs.size f bz))->sp vs H Q E ->
   ∃ t,PSs (nF jc P w K mg base N qual (dI st) f bz A outer s H E).nox (mW st) t/\t { nx:=λ_ H'=>Q .non H',rt:=Q } (start N vs) H):FnOk P w K mg base jc (k+1) f fd ps sp:=by
 obtain⟨oc,od,kV,gi,pm,an,bz,ct,lq,rfl,lk,ju⟩:=F.ex;refine Hn lk ju S len λA outer s H vs Q E hr lu=>?_
 obtain⟨t,h,q⟩:=jw bz A outer s H vs Q E hr lu;exact⟨t,h.nox,q⟩
theorem Fun.binds(F:Fun K x qual st f fd)
  (h:∀ (kV gi pm:aF) (an:Option aC) (bz ct:aF) (us:List aF),us.length=ps.length->bindArgs (vI x qual (wW st) (mW st) (dI st) .none kV gi pm an bz ct) ⟨us,[]⟩=pure (ps.zip us)):Binds K fd ps []:=by
 obtain⟨oc,od,kV,gi,pm,an,bz,ct,lq,rfl,lk,ju⟩:=F.ex;exact .all (h kV gi pm an bz ct)
theorem He{oc:aF}{od an:Option aC}{lq:Array (Option aF)}{kV gi pm bz ct:aF}(l:K.lookup f=aa ⟨oc,od,.func (vI x qual (wW st) (mW st) (dI st) .none kV gi pm an bz ct),lq⟩)
  (c:LH K bz qual=af) (k:CI K (.ref f)=af):Fun K x qual st f (vI x qual (wW st) (mW st) (dI st) .none kV gi pm an bz ct):=⟨⟨oc,od,kV,gi,pm,an,bz,ct,lq,rfl,l,c⟩,k⟩
end
theorem EL{k:Nat}(hr:Room k A):A.units+40<cLine:=CQ (Nat.add_le_add_left (by decide:40<=64) _) hr.units
theorem Ot:Adc X (.builtin "len") (λxs H Q=>∃ a ep kvs,xs=[V.ref a]/\H a=aa (.dK ep kvs)/\Q (.int kvs.length) H):=by
 rw[6];obtain⟨a,ep,kvs,rfl,ha,q⟩:=h;obtain⟨u,rfl,ru⟩:=vals1 r;cases ru;exact Fm I (.inl ha) λt s' I'=>⟨.int kvs.length,H,I',⟨t,rfl⟩,q⟩
theorem lO {A B:Prop}(h:B):if ag=af then A else B:=by
 rw[if_neg kE];exact h
theorem lL {A B:Prop}(h:A):if af=af then A else B:=by
 rw[if_pos rfl];exact h
def Same (H H':Hp):Prop:=∀ b o,H b=aa o->H' b=aa o
theorem Same.trans {H2:Hp}(a:Same H H1)(b:Same H1 H2):Same H H2:=λc o h=>b c o (a c o h)
theorem Same.free(e:Same H H'){l:aC}(h:H' l=LN):H l=LN:=by
 cases q:H l with
 |none=>rfl
 |some o=>
  rw[e l o q] at h;cases h
theorem Same.seq(e:Same H H')(h:SqL K H a xs):SqL K H' a xs:=by
 rcases h with(h|⟨o,h⟩)|h
 .exact .inl (.inl (e _ _ h))
 .exact .inl (.inr ⟨o,e _ _ h⟩)
 .exact .inr h
section
variable {κ:Type}[DecidableEq κ]
theorem Ko {kvs:List (κ×V)}{k:κ}(h:dF kvs k=aa v):k∈kvs.map (·.1):=by
 have q:(kvs.any λkv=>decide (kv.1=k))=af:=by
  rw[oO,h]
  all_goals rfl
 grind
end
section
variable {prog:bN}{R:Result->aI->Prop}
theorem Qy {d5:aQ}{scope:gA}{it am:aF}(I:Nat->aI->Prop)
  (turn:∀ n s,I n s->aT (aX prog w) A (jY it) (λr s₁=>match r with
   |none=>R (.ok .next) s₁
   | some v=>aT (aX prog w) A (LC d5 it v) (λ_ s₂=>aT (aX prog w) A (jZ d5 env v) (λ_ s₃=>
     aT (aX prog w) A (forIn cy af λc r=>if r=af then do let ok <-isTrue c env (bZ c env);pure (yT ok) else pure (yT r)) (λok s₄=>
      if ok=af then aT (aX prog w) A (bZ c8 env) (λx s₅=>
       aT (aX prog w) A (call (.builtin "list.append") [am,x]) (λ_ s₆=>∃ m,m<n/\I m s₆) (λ_ _=>False) s₅) (λ_ _=>False) s₄
      else ∃ m,m<n/\I m s₄) (λ_ _=>False) s₃) (λ_ _=>False) s₂) (λ_ _=>False) s₁) (λ_ _=>False) s)
  (n:Nat) (h:I n s):nL (aX prog w) A (.compLoop (.ListComp c8 [⟨d5,az,cy,0⟩] scope pos) 0 it am env) R s:=by
 refine codeAny_loop rfl I (λn s hI=>?_) n h
 refine wpAny_noted ?_;rw[compTurn_list];refine aJ (wpAny_standAt (aJ (kO (turn n s hI) (λr s₁ h₁=>?_) λ_ _ h'=>h'.elim)))
 cases r with
 |none=>exact bA h₁
 |some v=>
  refine aJ (kO h₁ (λ_ s₂ h₂=>?_) λ_ _ h'=>h'.elim)
  refine aJ (kO h₂ (λ_ s₃ h₃=>aJ (kO h₃ (λok s₄ h₄=>?_) λ_ _ h'=>h'.elim)) λ_ _ h'=>h'.elim)
  cases ok with
  |false=>exact bA ⟨rfl,h₄⟩
  |true=>
   exact aJ (aJ (kO h₄ (λx s₅ h₅=>aJ (kO h₅ (λ_ s₆ h₆=>bA (bA ⟨rfl,h₆⟩)) λ_ _ h'=>h'.elim)) λ_ _ h'=>h'.elim))
end
theorem cellOf_eq{n:aE}{c:aC}(h:env.cells.lookup n=aa c):cellOf env n=pure c:=by
 unfold cellOf;rw[h]
def eU (env:eQ):List (aE×kA)->List (aE×aC)->List (aE×aC)
 |[],cs=>cs
 |(n,k)::r,cs=>eU env r (if (k==kQ)=af then(match env.cells.lookup n with|some c=>(n,c)::cs|none=>cs) else cs)
theorem YQ(h:∀ n,(n,kQ)∈sc.names->∃ c,env.cells.lookup n=aa c):closureFor sc env=pure (eU env sc.names []):=by
 unfold closureFor;generalize sc.names=l at h;have go:∀ (l:List (aE×kA)) (cs:List (aE×aC)),(∀ n,(n,kQ)∈l->∃ c,env.cells.lookup n=aa c) ->
   (forIn l cs (λ(x:aE×kA) (r:List (aE×aC))=>if (x.2==kQ)=af then(do let c <-cellOf env x.1;pure (yT ((x.1,c)::r))) else pure (yT r)):Sem (List (aE×aC)))=pure (eU env l cs):=by
  intro l;induction l with
  |nil=>intro cs _;rfl
  |cons p r ih=>
   intro cs hl;obtain⟨n,k⟩:=p;rw[Da];have hr:∀ n,(n,kQ)∈r->∃ c,env.cells.lookup n=aa c:=λn hn=>hl n (bM _ hn)
   cases hk:(k==kQ) with
   |true=>
    have ek:k=kQ:=by simpa using hk
    subst ek;obtain⟨c,hc⟩:=hl n bO;have e1:eU env ((n,kQ)::r) cs=eU env r ((n,c)::cs):=by
     show eU env r (if (kQ==kQ)=af then(match env.cells.lookup n with|some c=>(n,c)::cs|none=>cs) else cs)=_
     rw[hc];rfl
    rw[e1];simp only[cellOf_eq hc,hk,if_true];exact ih ((n,c)::cs) hr
   |false=>
    have e1:eU env ((n,k)::r) cs=eU env r cs:=by
     show eU env r (if (k==kQ)=af then(match env.cells.lookup n with|some c=>(n,c)::cs|none=>cs) else cs)=_
     rw[hk];rfl
    grind
 grind
theorem IS:∀ (l:List (aE×kA)) (cs:List (aE×aC)),(∀ x c,cs.lookup x=aa c->env.cells.lookup x=aa c)->∀ x c,(eU env l cs).lookup x=aa c->env.cells.lookup x=aa c
 |[],cs,h,x,c,e=>h x c e
 |(n,k)::r,cs,h,x,c,e=>by
  refine IS r _ ?_ x c e
  grind
theorem WR{c:aC}(hx:env.cells.lookup x=aa c):∀ (l:List (aE×kA)) (cs:List (aE×aC)),cs.lookup x=aa c->(eU env l cs).lookup x=aa c
 |[],cs,h=>h
 |(n,k)::r,cs,h=>by
  refine WR hx r _ ?_
  grind
theorem IP{c:aC}(hx:env.cells.lookup x=aa c):∀ (l:List (aE×kA)) (cs:List (aE×aC)),(x,kQ)∈l->(eU env l cs).lookup x=aa c
 |[],cs,h=>by simp at h
 |(n,k)::r,cs,h=>by
  rcases cV.1 h with e|h
  .cases e;refine WR hx r _ ?_
   grind
  .exact IP hx r _ h
theorem YA(x:aE):(vE sc env).names.lookup x=(sc.names.lookup x).map λk=>if (k==kQ&&env.scope.kind==.function&&env.kindOf x==aa .cell)=af then NameKind.cell else k:=by
 unfold vE;induction sc.names with
 |nil=>rfl
 |cons p r ih=>
  grind
theorem lookup_mem {α:Type}{v:α}:∀ {l:List (aE×α)},l.lookup x=aa v->(x,v)∈l
 |[],h=>by simp at h
 |(n,k)::r,h=>by
  by_cases hy:(x==n)=af
  .grind
  .have j7:(x==n)=ag:=by simpa using hy
   simp only[List.lookup_cons,j7] at h;exact bM _ (lookup_mem h)
def fE (X:Cx)(N:List aE)(sc:gA)(cl:List (aE×aC))(C:aC)(s₀:aI)(H₀:Hp)(ex:List aC):Cx:=
 { X with N:=N,s₀:=s₀,H₀:=H₀,env:=compEnvC sc cl C X.env,outer:=X.stack,ex:=ex,fn:=λ_=>ag,pn:=[],xe:=λ_ _=>False }
structure CompScope (X:Cx)(N:List aE)(cap:List (Option Nat))(sc:gA):Prop where
 kind:sc.kind=.function
 nocell:∀ y∈sc.names,y.2 ≠ .cell
 nm:∀ y∈sc.names,y.2=.local->sc.names.lookup y.1=aa .local
 fre:∀ y∈sc.names,y.2=.free->X.env.scope.names.lookup y.1=aa .cell\/X.env.scope.names.lookup y.1=aa .free
 len:cap.length=N.length
 cap:∀ (i j:Nat),cap[i]?=aa (aa j)->∃ x,N[i]?=aa x/\X.N[j]?=aa x/\sc.names.lookup x=aa .free
def tL (cap:List (Option Nat))(Z:St):St:=cap.map λo=>o.bind λj=>(Z[j]?).join
def qM (X:Cx)(cy:List aQ)(t:TT):Prop:=
 ∀ (ad:List (aC×bI)) (s:aI) (Z:St) (H:Hp) (Q:Bool->Hp->Prop),Inv X ad Z H s->t Z H Q ->
  aT (aX X.prog X.w) X.A (forIn cy af λc r=>if r=af then do let ok <-isTrue c X.env (bZ c X.env);pure (yT ok) else pure (yT r)) (TP X ad Z Q) X.xe s
def Fq:TT:=λ_ H Q=>Q af H
theorem Le:qM X [] Fq:=λ_ _ _ H _ I h=>wpAny_tests_nil ⟨H,I,h⟩
theorem Mm{t:TT}(h:PT X c t):qM X [c] t:=λad s Z H Q I hw=>wpAny_tests_one (h ad s Z H Q I hw)
def DU (cap:List (Option Nat))(J:It)(g:TG)(tc:TT)(te:TE)(Z:St)(H1:Hp)(Q:VK):Prop:=∀ D,H1 D=ae ->
 ∃ W:Nat->Nat->List V->St->Hp->Prop,(∃ m,W 0 m [] (tL cap Z) (upd H1 D (.lst []))) /\
  ∀ i m ys Z' H',W i m ys Z' H'->H' D=aa (.lst ys)/\((J.stop i H'/\Q (.ref D) H') \/
   (J.go i H'/\ys.length<sizeLine/\∃ M:List V->St->Hp->Prop,(∀ zs Z2 H2,M zs Z2 H2->∃ m',m'<m/\W (i+1) m' zs Z2 H2)/\∀ x H2,J.yld i H' x H2->g x Z' H2 λZ3 H3=>tc Z3 H3 λb H4=>
    if b=af then te Z3 H4 λy H5=>H5 D=aa (.lst ys)/\M (ys++[y]) Z3 (upd H5 D (.lst (ys++[y]))) else M ys Z3 H4))
def yc (cap:List (Option Nat))(wi:TI)(g:TG)(tc:TT)(te:TE):TE:=λZ H Q=>wi Z H λJ H1=>DU cap J g tc te Z H1 Q
theorem CompScope.cells (S:CompScope X N cap sc)(ok:X.Ok):∀ n,(n,kQ)∈sc.names->∃ c,X.env.cells.lookup n=aa c:=λn hn=>ok.has n (S.fre _ hn rfl)
theorem Ye (S:CompScope X N cap sc){fp:List aC}(I:Inv X ad Z H s)(hf:∀ b∈fp,iR X ad H b)(hl:∀ b∈fp,b<s.heap.objs.size) :
  (fE X N sc (eU X.env sc.names []) s.heap.objs.size s H fp).Ok:=by
 have sub:∀ x c,(eU X.env sc.names []).lookup x=aa c->X.env.cells.lookup x=aa c:=IS sc.names [] (λx c e=>by simp at e)
 refine⟨I.ok.mod,?_,I.ok.glob,I.ok.blt,bJ _,?_,?_,?_,I.ok.hd,I.ok.frames,.inl rfl,?_,I.bs,cM I.ok.bsz I.sz,?_,?_,I.stack,I.stkFree⟩
 .exact S.kind
 .intro x y c h1 h2;exact I.ok.inj x y c (sub x c h1) (sub y c h2)
 .intro x hx;have hk:(vE sc X.env).names.lookup x=aa .cell\/(vE sc X.env).names.lookup x=aa .free:=hx;have gl:sc.names.lookup x=aa .free:=by
   rw[YA] at hk;cases e:sc.names.lookup x with
   |none=>rw[e] at hk;simp at hk
   |some k=>
    rw[e] at hk;have hm:=lookup_mem e;have nc:=S.nocell _ hm
    grind
  obtain⟨c,hc⟩:=S.cells I.ok x (lookup_mem gl);exact⟨c,IP hc _ _ (lookup_mem gl)⟩
 .intro x c h1 _;exact absurd (show ag=af from h1) kE
 .intro b hb;refine⟨eB (hl b hb),λx c e=>(hf b hb).2.2.2.2.1 x c (sub x c e)⟩
 .intro b o e hb;rcases(hf b hb).2.2.2.1 with z|z
  .exact I.ok.noex b o e z
  .exact absurd (iV (bW e) (cM I.ok.bsz z)) (mK _)
 .intro b hb hz;obtain⟨_,h1,h2,_⟩:=hf b hb;rcases cV.1 (I.stkSub b hz) with e|e
  .exact h1 e
  .exact h2 e
theorem Vb (S:CompScope X N cap sc){fp:List aC}{h':aU}{tk:Nat}(I:Inv X ad Z H s)(hf:∀ b∈fp,iR X ad H b)(hl:∀ b∈fp,b<s.heap.objs.size)
  (hn:h'.Ns s.heap.objs.size λ_=>ae) (hk:∀ b o,s.heap.get? b=aa o->h'.get? b=aa o) :
  Inv (fE X N sc (eU X.env sc.names []) s.heap.objs.size s H fp) [] (tL cap Z) H { s with heap:=h',toks:=tk }:=by
 have sub:∀ x c,(eU X.env sc.names []).lookup x=aa c->X.env.cells.lookup x=aa c:=IS sc.names [] (λx c e=>by simp at e)
 have fr:=I.hok.fresh (bJ _);refine⟨Ye S I hf hl,rfl,I.bare,Un.kept hk,⟨_,hn,λi x v e1 e2 e3=>?_⟩,λx c e=>?_,fr,λx c e=>I.freeC x c (sub x c e),λp hp=>by simp[fE] at hp,I.hok.kept hk,?_⟩
 .have lw:(cap.map λo=>o.bind λj=>(Z[j]?).join)[i]?=aa (aa v):=e2
  rw[gJ] at lw;cases hc:cap[i]? with
  |none=>rw[hc] at lw;simp at lw
  |some o=>
   rw[hc] at lw;simp only[CL,Option.some.injEq] at lw;cases o with
   |none=>simp at lw
   |some j=>
    have lw:(Z[j]?).join=aa v:=lw;have ej:Z[j]?=aa (aa v):=by
     grind
    obtain⟨y,n1,n2,yq⟩:=S.cap i j hc;have Ch:=fH (e1.symm.trans n1);subst Ch;have hmem:=lookup_mem yq;have jx:=S.fre _ hmem rfl;obtain⟨m,_,C0⟩:=I.loc;obtain⟨u,r,l⟩:=C0 j x v n2 ej (.inr jx);refine⟨u,r,.inr ⟨?_,?_⟩⟩
    .show(vE sc X.env).names.lookup x=aa .cell\/(vE sc X.env).names.lookup x=aa .free;rw[YA,yq]
     grind
    .rcases l with⟨k1,_⟩|⟨_,c,i9,ix⟩
     .exfalso;have k1':X.env.scope.names.lookup x=aa .local:=k1
      grind
     .obtain⟨oc,h1,h2⟩:=ix;exact⟨c,IP i9 _ _ hmem,oc,hk _ _ h1,h2⟩
 .obtain⟨v,oc,h1,h2⟩:=I.cell x c (sub x c e);exact⟨v,oc,hk _ _ h1,h2⟩
 .show(cap.map _).length=N.length;rw[cD,S.len]
theorem comp_back {fp:List aC}{cl:List (aE×aC)}{Z':St}{s':aI}{pl:List (aC×bI)}(I:Inv X ad Z H s)(hf:∀ b∈fp,iR X ad H b)
  (I':Inv (fE X N sc cl s.heap.objs.size s H fp) pl Z' H' s'):Inv X ad Z H' s':=
 I.call' I'.os (show Un (jq X.stack) fp H H' s.heap s'.heap from I'.base) I'.hok I'.bare λb hb=>⟨(hf b hb).2.2.2.1,(hf b hb).2.1,(hf b hb).2.2.2.2.1,(hf b hb).2.2.2.2.2⟩
section
variable {wi:TI}{g:TG}{tc:TT}{te:TE}
def Block (X:Cx)(N:List aE)(sc:gA)(tg c8:aQ)(cy:List aQ)(g:TG)(tc:TT)(te:TE):Prop:=
 ∀ (cl:List (aE×aC)) (C:aC) (s₀:aI) (H₀:Hp) (ex:List aC),PG (fE X N sc cl C s₀ H₀ ex) tg g/\qM (fE X N sc cl C s₀ H₀ ex) cy tc/\PE (fE X N sc cl C s₀ H₀ ex) c8 te
theorem Ar{RR:aF->aC->Result->aI->Prop}{E:aF->aI->Prop}(hc:X.calm=af)(S:CompScope X N cap sc)(hb:Block X N sc tg c8 cy g tc te)
  {it:aC} {fp:List aC} {tn:Nat->aU->Prop} {J:It} {Q:VK} (I:Inv X ad Z H s) (T:Turn X.prog X.w X.K tg J fp it tn) (st:tn 0 s.heap) (hf:∀ b∈fp,iR X ad H b)
  (q:DU cap J g tc te Z H Q)
  (C1:∀ (D:aC) (s₀:aI) (H₀:Hp) (Z':St) (H':Hp) (s':aI),Inv X ad Z H₀ s₀->(∀ b∈fp,iR X ad H₀ b)->Inv (fE X N sc (eU X.env sc.names []) s₀.heap.objs.size s₀ H₀ fp) [] Z' H' s'->Q (.ref D) H' ->
   RR (.ref D) s₀.heap.objs.size (.ok .next) s') :
  aT (aX X.prog X.w) X.A (newList []) (λam s₃=>aT (aX X.prog X.w) X.A (newFunctionEnv sc X.env.globals (eU X.env sc.names []) [] X.env.qual ae .none (aa X.env)) (λqm s₄=>
   nL (aX X.prog X.w) X.A (.compStart (.ListComp c8 [⟨tg,az,cy,0⟩] sc pos) 0 (.ref it) am { qm with scope:=vE sc X.env }) (RR am qm.locals) s₄) E s₃) E s:=by
 have hl:∀ b∈fp,b<s.heap.objs.size:=λb hb=>by
  obtain⟨o,e,_⟩:=T.obj 0 _ st b hb;exact bW e
 refine oZ (wpAny_newFunctionEnv S.nocell (by intro y hy;simp at hy) (λh₁ h7 h8=>?_) S.kind)
 dsimp only at h7 h8 ⊢;have I0:Inv X ad Z (upd H s.heap.objs.size (.lst [])) { s with heap:=s.heap.push { cls:=.type "list",data:=.seq ([]:List aF).toArray },toks:=s.toks }:=I.lnew .nil (by simp)
 obtain⟨W,⟨m0,w0⟩,turn⟩:=q s.heap.objs.size I.fresh;generalize t7:({ s with heap:=s.heap.push { cls:=.type "list",data:=.seq ([]:List aF).toArray },toks:=s.toks }:aI)=s0 at I0;have hh:s.heap.push { cls:=.type "list",dict:=ae,data:=.seq ([]:List aF).toArray }=s0.heap:=by rw[<-t7]
 have ht0:s0.toks=s.toks:=by rw[<-t7]
 have hg0:s0.gens=s.gens/\s0.drawn=s.drawn/\s0.os=s.os:=by rw[<-t7];exact⟨rfl,rfl,rfl⟩
 rw[hh] at h7 h8 ⊢;have qp:∀ b o,s.heap.get? b=aa o->s0.heap.get? b=aa o:=λb o e=>by rw[<-hh];exact bX _ e
 have qr:∀ b o,s0.heap.get? b=aa o->h₁.get? b=aa o:=λb o e=>h8.extBut b o (eB (bW e)) (bX _ e)
 have C2:∀ b∈fp,b<s0.heap.objs.size:=λb hb=>by
  obtain⟨o,e,_⟩:=T.obj 0 _ st b hb;exact bW (qp b o e)
 have vo:∀ b∈fp,iR X ad (upd H s.heap.objs.size (.lst [])) b:=λb hb=>by
  refine⟨?_,(hf b hb).2⟩;rw[bP (eB (hl b hb))];exact(hf b hb).1
 have I1:Inv (fE X N sc (eU X.env sc.names []) s0.heap.objs.size s0 (upd H s.heap.objs.size (.lst [])) fp) [] (tL cap Z) (upd H s.heap.objs.size (.lst [])) { s0 with heap:=h₁,toks:=s.toks+0 }:=
  Vb S I0 vo C2 h7 qr
 obtain⟨pg,pf,pe⟩:=hb (eU X.env sc.names []) s0.heap.objs.size s0 (upd H s.heap.objs.size (.lst [])) fp;have ku:=T.keep _ _ _ st λb hb o e=>qr b o (qp b o e)
 have g8:∀ {H':Hp},(∀ b∈fp,H' b=ae)->∀ b∈fp,iR (fE X N sc (eU X.env sc.names []) s0.heap.objs.size s0 (upd H s.heap.objs.size (.lst [])) fp) [] H' b:=λhn b hb=>
  ⟨hn b hb,(I1.ok.exf b hb).1,I1.ok.exfs b hb,.inl hb,(I1.ok.exf b hb).2,λp hp=>by simp[fE] at hp⟩
 have qt:∀ s3:aI,s3={ s0 with heap:=h₁,toks:=s.toks+0 } ->
   nL (aX X.prog X.w) X.A (.compLoop (.ListComp c8 [⟨tg,az,cy,0⟩] sc pos) 0 (.ref it) (.ref s.heap.objs.size) (compEnvC sc (eU X.env sc.names []) s0.heap.objs.size X.env)) (RR (.ref s.heap.objs.size) s0.heap.objs.size) s3:=by
  rintro s3 rfl;refine Qy (λn s'=>∃ i ys Z' H',Inv (fE X N sc (eU X.env sc.names []) s0.heap.objs.size s0 (upd H s.heap.objs.size (.lst [])) fp) [] Z' H' s'/\tn i s'.heap/\(∀ b∈fp,H' b=ae)/\W i n ys Z' H') ?_ m0
   ⟨0,[],tL cap Z,_,I1,ku,λb hb=>(vo b hb).1,w0⟩
  rintro n s3 ⟨i,ys,Z3,H3,I3,qf,qg,w3⟩;obtain⟨hD,h3⟩:=turn i n ys Z3 H3 w3;rcases h3 with⟨stop,qn⟩|⟨go,bh,M,hM,step⟩
  .refine bb (T.done (fE X N sc (eU X.env sc.names []) s0.heap.objs.size s0 (upd H s.heap.objs.size (.lst [])) fp) rfl rfl rfl hc i [] s3 Z3 H3 (λ_ _=>False) I3 (g8 qg) qf stop) λr s4 gh=>?_
   obtain⟨hr,I4⟩:=gh;subst hr;exact C1 _ s0 _ Z3 H3 s4 I0 vo I4 qn
  .refine bb (T.item (fE X N sc (eU X.env sc.names []) s0.heap.objs.size s0 (upd H s.heap.objs.size (.lst [])) fp) rfl rfl rfl hc i [] s3 Z3 H3 (λ_ _=>False) I3 (g8 qg) qf go) λr s4 gh=>?_
   obtain⟨u,hr,h4⟩:=gh;subst hr;refine bb h4 λ_ s5 gh=>?_
   obtain⟨x,H5,I5,r5,y5,m8,ve⟩:=gh;have vf:=I5.pinned (g8 ve) (T.obj _ _ m8);refine bb (pg _ s5 Z3 H5 x u _ vf r5 (step x H5 y5)) λ_ s6 gh=>?_
   obtain⟨Z6,H6,I6,q6⟩:=gh;refine bb (pf _ s6 Z6 H6 _ I6 q6) λb s7 gh=>?_
   obtain⟨H7,I7,q7⟩:=gh;have again:∀ {s8:aI} {H8:Hp} {zs:List V},Inv (fE X N sc (eU X.env sc.names []) s0.heap.objs.size s0 (upd H s.heap.objs.size (.lst [])) fp) ([]++wJ fp s5.heap) Z6 H8 s8->M zs Z6 H8 ->
     ∃ m,m<n/\∃ i ys Z' H',Inv (fE X N sc (eU X.env sc.names []) s0.heap.objs.size s0 (upd H s.heap.objs.size (.lst [])) fp) [] Z' H' s8/\tn i s8.heap/\(∀ b∈fp,H' b=ae)/\W i m ys Z' H':=λ{s8 H8 zs} I8 w8=>by
    obtain⟨m',hm,w8⟩:=hM _ _ _ w8;refine⟨m',hm,i+1,zs,Z6,H8,I8.unpinned,T.keep _ _ _ m8 λb hb o e=>(I8.pin (b,o) (mM _ (mM _ (BN hb e)))).1,λb hb=>?_,w8⟩
    obtain⟨o,e,d⟩:=T.obj _ _ m8 b hb;exact(I8.pin (b,o) (mM _ (mM _ (BN hb e)))).2.1
   cases b with
   |false=>
    rw[if_neg kE] at q7 ⊢;exact again I7 q7
   |true=>
    rw[if_pos rfl] at q7 ⊢;refine bb (pe _ s7 Z6 H7 _ I7 q7) λv s8 gh=>?_
    obtain⟨y,H8,I8,r8,C3,w8⟩:=gh;refine bb (xO _ s8 Z6 H8 (.ref s.heap.objs.size) [y] (.ref s.heap.objs.size) [v] (λ_ H9=>H9=upd H8 s.heap.objs.size (.lst (ys++[y]))) I8 rfl (.cons r8 .nil) ⟨_,ys,y,rfl,rfl,C3,bh,rfl⟩) λ_ s9 gh=>?_
    obtain⟨_,H9,I9,_,e9⟩:=gh;subst e9;exact again I9 w8
 have e3:({ s with heap:=h₁,toks:=s.toks+([]:List (aE×aF)).length }:aI)={ s0 with heap:=h₁,toks:=s.toks+0 }:=by
  rw[<-t7];rfl
 have fin:=codeAny_compStart_list (qt _ rfl) (T.self X.A 0 _ _ _ ku (qt _ rfl));rw[<-e3] at fin;exact fin
theorem JW (hc:X.calm=af)(S:CompScope X N cap sc)(hi:PI X tg az wi)(hb:Block X N sc tg c8 cy g tc te)(hs:∀ x,kP az X.env x=pure x:=by intro _;rfl) :
  PE X (.ListComp c8 [⟨tg,az,cy,0⟩] sc pos) (yc cap wi g tc te):=by
 rw[8];rw[eval_ListComp];refine wpAny_comprehension_free rfl hs (YQ (S.cells I.ok)) S.kind S.nm (bb (hi ad s Z H _ I h) λv s1 h1=>bb h1 λtz s2 h2=>?_)
 obtain⟨it,fp,tn,J,H2,e,I2,T,jv,f2,q2⟩:=h2;subst e;refine Ar hc S hb I2 T jv f2 q2 ?_;intro D s₀ H₀ Z' H' s' I0 f0 I' qD;obtain⟨m,hn,_⟩:=id I'.loc;have IX:=comp_back I0 f0 I';refine⟨m,hn,λh' qu=>⟨.ref D,H',?_,rfl,qD⟩⟩
 exact IX.turned (λb o hb e=>(qu.2 b hb).trans e) I'.free (pF I0.lt) (.inr I0.sz) (λx c e z=>by
  obtain⟨v,oc,h1,_⟩:=I0.cell x c e;exact absurd (bW h1) (by rw[z];exact mK _)) λp hp z=>by
   have h1:=(I0.pin p hp).1;exact absurd (bW h1) (by rw[z];exact mK _)
theorem RW(hc:X.calm=af)(hN:X.N.Nodup)(lx:X.N[i]?=aa x)(hx:iQ X.env.scope x)(S:CompScope X N cap sc)(hi:PI X tg az wi)(hb:Block X N sc tg c8 cy g tc te)
  (fg:iG (.ListComp c8 [⟨tg,az,cy,0⟩] sc pos) (aa (.Name x px)) ca.line X.env=pure af:=by rfl)
  (hs:∀ x,kP az X.env x=pure x:=by intro _;rfl) (hf:X.fn x=af\/X.env.scope.names.lookup x=aa .local:=by first|exact .inl rfl|exact .inr rfl|assumption) :
  PS X (.Assign [.Name x px] (.ListComp c8 [⟨tg,az,cy,0⟩] sc pos) ca) (EA (yc cap wi g tc te) (xY i)):=by
 intro ad s Z H D I h;rw[exec_Assign_Name_used _ _ _ _ fg];refine aJ (wpAny_standAt (aJ ?_));refine aJ (kO (wpAny_comprehension_free rfl hs (YQ (S.cells I.ok)) S.kind S.nm
  (bb (hi ad s Z H _ I h) λv s1 h1=>bb h1 λtz s2 h2=>?_)) (λ_ s' hq=>bA (bA hq)) λ_ _ e=>e)
 obtain⟨it,fp,tn,J,H2,e,I2,T,jv,f2,q2⟩:=h2;subst e;refine Ar hc S hb I2 T jv f2 q2 ?_;intro D' s₀ H₀ Z' H' s' I0 f0 I' qD;obtain⟨m,hn,_⟩:=id I'.loc;have IX:=comp_back I0 f0 I';have jz:∀ x c,X.env.cells.lookup x=aa c->c≠s₀.heap.objs.size:=λx c e z=>by
  obtain⟨v,oc,h1,_⟩:=I0.cell x c e;exact absurd (bW h1) (by rw[z];exact mK _)
 refine wpAny_assign_Name (UL IX hN lx hx (show RelV (.ref D') (.ref D') from rfl) (λs3 I3 ch=>?_) hf)
 obtain⟨a,sb,ha⟩:=ch;have gu:s₀.heap.objs.size≠a:=by
  rcases ha with z|z
  .rw[z];exact pF I0.lt
  .exact λq=>jz x a z q.symm
 refine⟨m,Heap.Ns.sameBut hn sb gu,λh' qu=>⟨_,H',?_,qD⟩⟩
 exact I3.turned (λb o hb e=>(qu.2 b hb).trans e) I'.free (pF I0.lt) (.inr I0.sz) jz λp hp z=>by
  have h1:=(I0.pin p hp).1;exact absurd (bW h1) (by rw[z];exact mK _)
end
def FV (out:List (aE×kA))(XN N:List aE)(cap:List (Option Nat))(ns:List (aE×kA)):Bool:=
 ns.all (λy=>y.2 != .cell)&&ns.all (λy=>y.2 != .local||ns.lookup y.1==aa .local)&&ns.all (λy=>y.2 != .free||out.lookup y.1==aa .cell||out.lookup y.1==aa .free) &&
 cap.length==N.length&&(cap.zip N).all (λp=>match p.1 with|none=>af|some j=>XN[j]?==aa p.2&&ns.lookup p.2==aa .free)
theorem qJ{out:List (aE×kA)}{XN:List aE}(h1:X.env.scope.names=out)(h2:X.N=XN)(ox:FV out XN N cap sc.names=af)(hk:sc.kind=.function):CompScope X N cap sc:=by
 unfold FV at ox;simp only[CY,fV,bne_iff_ne,ne_eq,Bool.or_eq_true,beq_iff_eq] at ox;obtain⟨⟨⟨⟨c1,c2⟩,c3⟩,c4⟩,c5⟩:=ox;refine⟨hk,c1,λy hy e=>?_,λy hy e=>?_,c4,λi j e=>?_⟩
 .rcases c2 y hy with q|q
  .exact absurd e q
  .exact q
 .rw[h1];rcases c3 y hy with(q|q)|q
  .exact absurd e q
  .exact .inl q
  .exact .inr q
 .have hi:=(cR.1 e).1;have lx:i<N.length:=()
  have hm:(cap[i],N[i])∈cap.zip N:=by
   have:(cap.zip N)[i]?=aa (cap[i],N[i]):=by
    rw[List.getElem?_zip_eq_some];exact⟨hX hi,hX lx⟩
   exact fC this
  have q:=c5 _ hm;have ec:cap[i]=aa j:=by
   rw[hX hi] at e;exact fH e
  rw[ec] at q;simp only[CY,beq_iff_eq] at q;exact⟨N[i],hX lx,by rw[h2];exact q.1,q.2⟩
abbrev Ext (H H':Hp):Prop:=∀ b o,H b=aa o->H' b=aa o
theorem Ext.refl:Ext H H:=λ_ _ e=>e
theorem Ext.trans {H2:Hp}(a:Ext H H1)(b:Ext H1 H2):Ext H H2:=λx o e=>b x o (a x o e)
theorem Ext.new{p:aC}(n:H p=ae):Ext H (upd H p o):=λb u e=>by
 rw[bP (gQ e n)];exact e
theorem Ext.rd(x:Ext H H'){u:HO}(r:Rd H a u):Rd H' a u:=by
 rcases r with r|⟨o,r⟩
 .exact .inl (x _ _ r)
 .exact .inr ⟨o,x _ _ r⟩
theorem Ext.sqL(x:Ext H H')(h:SqL K H a xs):SqL K H' a xs:=h.imp x.rd id
theorem Ext.none(x:Ext H H')(h:H' a=LN):H a=LN:=by
 cases e:H a with
 |none=>rfl
 |some o=>rw[x a o e] at h;cases h
theorem Ext.ty(x:Ext H H'){t:aF}(h:TyOf K H v t):TyOf K H' v t:=by
 cases h with
 |non=>exact .non
 |bl b=>exact .bl b
 |int i=>exact .int i
 |str y=>exact .str y
 |flt y=>exact .flt y
 |lst e=>exact .lst (x _ _ e)
 |frz e=>exact .frz (x _ _ e)
 |tup e=>exact .tup (x _ _ e)
 |dK e=>exact .dK (x _ _ e)
 |dT e=>exact .dT (x _ _ e)
 |ins e cl ha hn t3 hm=>exact .ins (x _ _ e) cl ha hn t3 hm
open Classical in
def hid (H:Hp)(P:aC->Prop):Hp:=λa=>if P a then ae else H a
theorem Abb{P:aC->Prop}:hid H P a=aa o ↔ ¬ P a/\H a=aa o:=by
 unfold hid;by_cases h:P a<;>simp[h]
theorem dS{P:aC->Prop}(n:¬ P a)(e:H a=aa o):hid H P a=aa o:=Abb.2 ⟨n,e⟩
theorem Aap{P:aC->Prop}:Ext (hid H P) H:=λ_ _ e=>(Abb.1 e).2
theorem cG{P:aC->Prop}(x:Ext H H'):Ext (hid H P) (hid H' P):=λb o e=>by
 obtain⟨n,e⟩:=Abb.1 e;exact dS n (x b o e)
theorem fY{P P':aC->Prop}(s:∀ a,P' a->P a):Ext (hid H P) (hid H P'):=λb o e=>by
 obtain⟨n,e⟩:=Abb.1 e;exact dS (λq=>n (s b q)) e
abbrev DQ:=(Nat×List (aG×V)) ⊕ (Nat×List (List aA×V))
def dO:DQ->HO
 |.inl kvs=>.dK kvs.1 kvs.2
 |.inr ts=>.dT ts.1 ts.2
def Hid (P:aC->Prop)(H:Hp):Prop:=∀ a,P a->(∃ xs,H a=aa (.lst xs))\/∃ q:DQ,H a=aa (dO q)
theorem Hid.ext {P:aC->Prop}(h:Hid P H)(x:Ext H H'):Hid P H':=λa p=>(h a p).imp (λ⟨xs,e⟩=>⟨xs,x _ _ e⟩) λ⟨xs,e⟩=>⟨xs,x _ _ e⟩
theorem Hid.new {P:aC->Prop}(h:Hid P H)(n:H a=ae):¬ P a:=λp=>by
 rcases h a p with⟨xs,e⟩|⟨xs,e⟩<;>rw[n] at e<;>cases e
theorem Hid.tup {P:aC->Prop}(h:Hid P H)(e:H a=aa (.tup xs)):hid H P a=aa (.tup xs):=dS (λp=>by
 rcases h a p with⟨ys,e2⟩|⟨ys,e2⟩<;>rw[e] at e2<;>first|cases e2|(cases ys<;>simp[dO] at e2)) e
abbrev bo (P:aC->Prop)(F:List aC):aC->Prop:=λa=>P a\/a∈F
theorem PP {P:aC->Prop}:bo P []=P:=by
 funext a;simp[bo]
def kD:aG->aA
 |.inl i=>.int i
 |.inr x=>.str x
def NO (a:aC)(kvs:Nat×List (V×V)):HO:=.ext λh=>kvs.2.length<=sizeLine/\(a==jE)=ag/\∃ o es,h.get? a=aa o/\o.ExactDict/\o.data=.dict es kvs.1/\dM (λ(p:V×V) (e:pM)=>RelV p.1 e.key/\RelV p.2 e.val) kvs.2 es.toList
mutual
def Abj (K:aK)(H:Hp):aA->V->Prop
 |.none,v=>v=.non
 |.bool b,v=>v=.bl b
 |.int i,v=>v=.int i
 |.str x,v=>v=.str x/\cF (.str x)=af
 |.list ds,v=>∃ a xs,v=.ref a/\SqL K H a xs/\Aao K H ds xs
 |.tuple ds,v=>∃ a xs,v=.ref a/\H a=aa (.tup xs)/\Aao K H ds xs
 |.dict kds,v=>∃ a,v=.ref a/\((∃ kvs:Nat×List (aG×V),H a=aa (.dK kvs.1 kvs.2)/\Abr K H kds kvs.2)\/(∃ ts:Nat×List (List aA×V),H a=aa (.dT ts.1 ts.2)/\Awg K H kds ts.2)\/∃ xs,H a=aa (NO a xs)/\A1p K H kds xs.2)
def Aao (K:aK)(H:Hp):List aA->List V->Prop
 |[],xs=>xs=[]
 |d::ds,xs=>∃ x r,xs=x::r/\Abj K H d x/\Aao K H ds r
def Abr (K:aK)(H:Hp):List (aA×aA)->List (aG×V)->Prop
 |[],xs=>xs=[]
 |(k,d)::ds,xs=>∃ k' x r,xs=(k',x)::r/\k=kD k'/\Abj K H d x/\Abr K H ds r
def Acd (K:aK)(H:Hp):List (aA×aA)->List (List aA×V)->Prop
 |[],xs=>xs=[]
 |(k,d)::ds,xs=>∃ k' x r,xs=(k',x)::r/\(k=.tuple k'/\bY k'=af)/\Abj K H d x/\Acd K H ds r
def Awg (K:aK)(H:Hp):List (aA×aA)->List (List aA×V)->Prop
 |[],_=>False
 |(k,_)::ds,xs=>k=.none/\Acd K H ds xs
def A1p (K:aK)(H:Hp):List (aA×aA)->List (V×V)->Prop
 |[],_=>False
 |(k,m)::ds,xs=>k=.none/\ds=[(.none,.none)]/\Aqw K H m xs
def Aqw (K:aK)(H:Hp):aA->List (V×V)->Prop
 |.list es,xs=>Ag2 K H es xs
 |_,_=>False
def Ag2 (K:aK)(H:Hp):List aA->List (V×V)->Prop
 |[],xs=>xs=[]
 |d::ds,xs=>∃ x r,xs=x::r/\Avv K H d x/\Ag2 K H ds r
def Avv (K:aK)(H:Hp):aA->V×V->Prop
 |.tuple ds,x=>Aao K H ds [x.1,x.2]
 |_,_=>False
end
def cv:List (aA×aA)->Bool
 |(.none,_)::_=>ag
 |_=>af
theorem Abp:Abj K H .none v↔v=.non:=by simp[Abj]
theorem Aaz {b:Bool}:Abj K H (.bool b) v↔v=.bl b:=by simp[Abj]
theorem Aal {b:Int}:Abj K H (.int b) v↔v=.int b:=by simp[Abj]
theorem Aa9 {b:aE}:Abj K H (.str b) v↔v=.str b/\cF (.str b)=af:=by simp only[Abj]
theorem Abe:Abj K H (.list ds) v ↔ ∃ a xs,v=.ref a/\SqL K H a xs/\Aao K H ds xs:=by simp only[Abj]
theorem Aar:Abj K H (.tuple ds) v ↔ ∃ a xs,v=.ref a/\H a=aa (.tup xs)/\Aao K H ds xs:=by simp only[Abj]
theorem Acv {ds:List (aA×aA)}:Abj K H (.dict ds) v ↔ ∃ a,v=.ref a/\((∃ kvs:Nat×List (aG×V),H a=aa (.dK kvs.1 kvs.2)/\Abr K H ds kvs.2)\/(∃ ts:Nat×List (List aA×V),H a=aa (.dT ts.1 ts.2)/\Awg K H ds ts.2)\/∃ xs,H a=aa (NO a xs)/\A1p K H ds xs.2):=by simp only[Abj]
theorem Afs {k:aA}{ds:List (aA×aA)}{xs:List (V×V)}:A1p K H ((k,m)::ds) xs↔k=.none/\ds=[(.none,.none)]/\Aqw K H m xs:=by simp only[A1p]
theorem Ya{xs:List (V×V)}(h:Aqw K H m xs):∃ es,m=.list es/\Ag2 K H es xs:=by
 cases m with
 |list es=>exact⟨es,rfl,by simpa only[Aqw] using h⟩
 |_=>simp[Aqw] at h
theorem Ath {xs:List (V×V)}:Ag2 K H [] xs↔xs=[]:=by simp[Ag2]
theorem An2{xs:List (V×V)}:Ag2 K H (d::ds) xs ↔ ∃ x r,xs=x::r/\Avv K H d x/\Ag2 K H ds r:=by simp only[Ag2]
theorem IJ {ds:List (aA×aA)}{xs:List (V×V)}(h:A1p K H ds xs):∃ es,ds=[(.none,.list es),(.none,.none)]/\Ag2 K H es xs:=by
 cases ds with
 |nil=>simp[A1p] at h
 |cons p r=>
  obtain⟨k,m⟩:=p;obtain⟨rfl,rfl,h1⟩:=Afs.1 h;obtain⟨es,rfl,h2⟩:=Ya h1;exact⟨es,rfl,h2⟩
theorem Ac8 {xs:List (List aA×V)}:Acd K H [] xs↔xs=[]:=by simp[Acd]
theorem Ab3 {k:aA}{ds:List (aA×aA)}{xs:List (List aA×V)}:Acd K H ((k,d)::ds) xs ↔ ∃ k' x r,xs=(k',x)::r/\(k=.tuple k'/\bY k'=af)/\Abj K H d x/\Acd K H ds r:=by simp only[Acd]
theorem Adz {k:aA}{ds:List (aA×aA)}{xs:List (List aA×V)}:Awg K H ((k,m)::ds) xs↔k=.none/\Acd K H ds xs:=by simp only[Awg]
theorem Wo {ds:List (aA×aA)}{xs:List (List aA×V)}(hk:cv ds=af):¬ Awg K H ds xs:=by
 cases ds with
 |nil=>simp[Awg]
 |cons p r=>
  obtain⟨k,d⟩:=p;intro h;rw[(Adz.1 h).1] at hk;simp[cv] at hk
theorem mY {ds:List (aA×aA)}(hk:cv ds=af):Abj K H (.dict ds) v ↔ ∃ a,∃ kvs:Nat×List (aG×V),v=.ref a/\H a=aa (.dK kvs.1 kvs.2)/\Abr K H ds kvs.2:=by
 rw[Acv];constructor
 .rintro⟨a,e,⟨kvs,h,r⟩|⟨ts,h,r⟩|⟨xs,h,r⟩⟩
  .exact⟨a,kvs,e,h,r⟩
  .exact absurd r (Wo hk)
  .obtain⟨es,rfl,_⟩:=IJ r;simp[cv] at hk
 .rintro⟨a,kvs,e,h,r⟩;exact⟨a,e,.inl ⟨kvs,h,r⟩⟩
theorem UX {ds:List (aA×aA)}{kvs:Nat×List (aG×V)}(e:v=.ref a)(h:H a=aa (.dK kvs.1 kvs.2))(r:Abr K H ds kvs.2):Abj K H (.dict ds) v:=Acv.2 ⟨a,e,.inl ⟨kvs,h,r⟩⟩
theorem Aaj:Aao K H [] xs↔xs=[]:=by simp[Aao]
theorem Aaf:Aao K H (d::ds) xs ↔ ∃ x r,xs=x::r/\Abj K H d x/\Aao K H ds r:=by simp only[Aao]
theorem Abn {xs:List (aG×V)}:Abr K H [] xs↔xs=[]:=by simp[Abr]
theorem Aa6 {k:aA}{ds:List (aA×aA)}{xs:List (aG×V)}:Abr K H ((k,d)::ds) xs ↔ ∃ k' x r,xs=(k',x)::r/\k=kD k'/\Abj K H d x/\Abr K H ds r:=by simp only[Abr]
theorem IG{ds:List (aA×aA)}(hm:∀ es,m ≠ .list es:=by intro _ z;cases z):Abj K H (.dict ((.none,m)::ds)) v ↔ ∃ a,∃ ts:Nat×List (List aA×V),v=.ref a/\H a=aa (.dT ts.1 ts.2)/\Acd K H ds ts.2:=by
 rw[Acv];constructor
 .rintro⟨a,e,⟨kvs,h,r⟩|⟨ts,h,r⟩|⟨xs,h,r⟩⟩
  .obtain⟨k',_,_,_,ek,_⟩:=Aa6.1 r;cases k'<;>simp[kD] at ek
  .exact⟨a,ts,e,h,(Adz.1 r).2⟩
  .obtain⟨es,z,_⟩:=IJ r;cases z;exact absurd rfl (hm es)
 .rintro⟨a,ts,e,h,r⟩;exact⟨a,e,.inr (.inl ⟨ts,h,Adz.2 ⟨rfl,r⟩⟩)⟩
mutual
theorem Abj.ext(x:Ext H H'):∀ {d:aA} {v:V},Abj K H d v->Abj K H' d v
 |.none,_,h=>Abp.2 (Abp.1 h)
 |.bool _,_,h=>Aaz.2 (Aaz.1 h)
 |.int _,_,h=>Aal.2 (Aal.1 h)
 |.str _,_,h=>Aa9.2 (Aa9.1 h)
 |.list ds,_,h=>by
  obtain⟨a,xs,e,s,r⟩:=Abe.1 h;exact Abe.2 ⟨a,xs,e,x.sqL s,Aao.ext x r⟩
 |.tuple ds,_,h=>by
  obtain⟨a,xs,e,s,r⟩:=Aar.1 h;exact Aar.2 ⟨a,xs,e,x _ _ s,Aao.ext x r⟩
 |.dict ds,_,h=>by
  obtain⟨a,e,⟨kvs,r,q⟩|⟨ts,r,q⟩|⟨xs,r,q⟩⟩:=Acv.1 h
  .exact Acv.2 ⟨a,e,.inl ⟨kvs,x _ _ r,Abr.ext x q⟩⟩
  .exact Acv.2 ⟨a,e,.inr (.inl ⟨ts,x _ _ r,Awg.ext x q⟩)⟩
  .exact Acv.2 ⟨a,e,.inr (.inr ⟨xs,x _ _ r,A1p.ext x q⟩)⟩
theorem Aao.ext(x:Ext H H'):∀ {ds:List aA} {vs:List V},Aao K H ds vs->Aao K H' ds vs
 |[],_,h=>Aaj.2 (Aaj.1 h)
 |d::ds,_,h=>by
  obtain⟨y,r,e,h1,h2⟩:=Aaf.1 h;exact Aaf.2 ⟨y,r,e,Abj.ext x h1,Aao.ext x h2⟩
theorem Abr.ext(x:Ext H H'):∀ {ds:List (aA×aA)} {vs:List (aG×V)},Abr K H ds vs->Abr K H' ds vs
 |[],_,h=>Abn.2 (Abn.1 h)
 |(k,d)::ds,_,h=>by
  obtain⟨k',y,r,e,ek,h1,h2⟩:=Aa6.1 h;exact Aa6.2 ⟨k',y,r,e,ek,Abj.ext x h1,Abr.ext x h2⟩
theorem Acd.ext(x:Ext H H'):∀ {ds:List (aA×aA)} {vs:List (List aA×V)},Acd K H ds vs->Acd K H' ds vs
 |[],_,h=>Ac8.2 (Ac8.1 h)
 |(k,d)::ds,_,h=>by
  obtain⟨k',y,r,e,ek,h1,h2⟩:=Ab3.1 h;exact Ab3.2 ⟨k',y,r,e,ek,Abj.ext x h1,Acd.ext x h2⟩
theorem Awg.ext(x:Ext H H'):∀ {ds:List (aA×aA)} {vs:List (List aA×V)},Awg K H ds vs->Awg K H' ds vs
 |[],_,h=>absurd h (by simp[Awg])
 |(k,d)::ds,_,h=>Adz.2 ⟨(Adz.1 h).1,Acd.ext x (Adz.1 h).2⟩
theorem A1p.ext(x:Ext H H'):∀ {ds:List (aA×aA)} {vs:List (V×V)},A1p K H ds vs->A1p K H' ds vs
 |[],_,h=>absurd h (by simp[A1p])
 |(k,d)::ds,_,h=>Afs.2 ⟨(Afs.1 h).1,(Afs.1 h).2.1,Aqw.ext x (Afs.1 h).2.2⟩
theorem Aqw.ext(x:Ext H H'):∀ {d:aA} {vs:List (V×V)},Aqw K H d vs->Aqw K H' d vs
 |.list es,_,h=>by
  rw[Aqw] at h ⊢;exact Ag2.ext x h
 |.none,_,h=>absurd h (by simp[Aqw])
 |.bool _,_,h=>absurd h (by simp[Aqw])
 |.int _,_,h=>absurd h (by simp[Aqw])
 |.str _,_,h=>absurd h (by simp[Aqw])
 |.tuple _,_,h=>absurd h (by simp[Aqw])
 |.dict _,_,h=>absurd h (by simp[Aqw])
theorem Ag2.ext(x:Ext H H'):∀ {ds:List aA} {vs:List (V×V)},Ag2 K H ds vs->Ag2 K H' ds vs
 |[],_,h=>Ath.2 (Ath.1 h)
 |d::ds,_,h=>by
  obtain⟨y,r,e,h1,h2⟩:=An2.1 h;exact An2.2 ⟨y,r,e,Avv.ext x h1,Ag2.ext x h2⟩
theorem Avv.ext(x:Ext H H'):∀ {d:aA} {y:V×V},Avv K H d y->Avv K H' d y
 |.tuple ds,_,h=>by
  rw[Avv] at h ⊢;exact Aao.ext x h
 |.none,_,h=>absurd h (by simp[Avv])
 |.bool _,_,h=>absurd h (by simp[Avv])
 |.int _,_,h=>absurd h (by simp[Avv])
 |.str _,_,h=>absurd h (by simp[Avv])
 |.list _,_,h=>absurd h (by simp[Avv])
 |.dict _,_,h=>absurd h (by simp[Avv])
end
theorem Aao.length:∀ {ds:List aA} {vs:List V},Aao K H ds vs->vs.length=ds.length
 |[],_,h=>by rw[Aaj.1 h];rfl
 |d::ds,_,h=>by
  obtain⟨y,r,e,h1,h2⟩:=Aaf.1 h;rw[e,fJ,fJ,Aao.length h2]
theorem Aao.get:∀ {ds:List aA} {vs:List V} {i:Nat} {d:aA},Aao K H ds vs->ds[i]?=aa d->∃ v,vs[i]?=aa v/\Abj K H d v
 |[],_,_,_,h,e=>by simp at e
 |d::ds,_,0,d',h,e=>by
  obtain⟨y,r,rfl,h1,h2⟩:=Aaf.1 h;have:d=d':=by simpa using e
  subst this;exact⟨y,rfl,h1⟩
 |d::ds,_,i+1,d',h,e=>by
  obtain⟨y,r,rfl,h1,h2⟩:=Aaf.1 h;obtain⟨v,h3,h4⟩:=Aao.get h2 (by simpa using e)
  exact⟨v,by simpa using h3,h4⟩
theorem Aao.append:∀ {ds es:List aA} {vs ws:List V},Aao K H ds vs->Aao K H es ws->Aao K H (ds++es) (vs++ws)
 |[],es,_,_,h,g=>by rw[Aaj.1 h];exact g
 |d::ds,es,_,_,h,g=>by
  obtain⟨y,r,rfl,h1,h2⟩:=Aaf.1 h;exact Aaf.2 ⟨y,_,rfl,h1,Aao.append h2 g⟩
theorem Aao.snoc{vs:List V}(h:Aao K H ds vs)(g:Abj K H d v):Aao K H (ds++[d]) (vs++[v]):=
 h.append (Aaf.2 ⟨v,[],rfl,g,Aaj.2 rfl⟩)
theorem Aao.drop:∀ {ds:List aA} {vs:List V} (n:Nat),Aao K H ds vs->Aao K H (ds.drop n) (vs.drop n)
 |_,_,0,h=>h
 |[],_,n+1,h=>by rw[Aaj.1 h];exact Aaj.2 rfl
 |d::ds,_,n+1,h=>by
  obtain⟨y,r,rfl,h1,h2⟩:=Aaf.1 h;exact Aao.drop n h2
theorem Aao.take:∀ {ds:List aA} {vs:List V} (n:Nat),Aao K H ds vs->Aao K H (ds.take n) (vs.take n)
 |_,_,0,h=>Aaj.2 rfl
 |[],_,n+1,h=>by rw[Aaj.1 h];exact Aaj.2 rfl
 |d::ds,_,n+1,h=>by
  obtain⟨y,r,rfl,h1,h2⟩:=Aaf.1 h;exact Aaf.2 ⟨y,_,rfl,h1,Aao.take n h2⟩
theorem Aao.set(g:Abj K H d v):∀ {ds:List aA} {vs:List V} (n:Nat),Aao K H ds vs->Aao K H (ds.set n d) (vs.set n v)
 |[],_,n,h=>by rw[Aaj.1 h];exact Aaj.2 rfl
 |e::ds,_,0,h=>by
  obtain⟨y,r,rfl,h1,h2⟩:=Aaf.1 h;exact Aaf.2 ⟨v,r,rfl,g,h2⟩
 |e::ds,_,n+1,h=>by
  obtain⟨y,r,rfl,h1,h2⟩:=Aaf.1 h;exact Aaf.2 ⟨y,_,rfl,h1,Aao.set g n h2⟩
theorem TH:∀ ns:List Int,Aao K H (ns.map bF) (ns.map V.int)
 |[]=>Aaj.2 rfl
 |n::r=>Aaf.2 ⟨_,_,rfl,Aal.2 rfl,TH r⟩
theorem Rj {k:aG}(h:Abj K H (kD k) v):v=kV k:=by
 cases k with
 |inl i=>exact Aal.1 h
 |inr x=>exact(Aa9.1 h).1
mutual
theorem Abj.key {K:aK}{H:Hp}:∀ (d:aA) {v:V},bS d=af->Abj K H d v->Aiu H d v
 |.int i,v,_,h=>by simpa [Aiu] using Aal.1 h
 |.str i,v,_,h=>by simpa [Aiu] using(Aa9.1 h).1
 |.tuple ds,v,k,h=>by
  obtain⟨a,xs,e,s,r⟩:=Aar.1 h;simp only[Aiu];exact⟨a,xs,e,s,Aao.keys ds (by simpa [bS] using k) r⟩
 |.none,v,k,_=>by simp[bS] at k
 |.bool _,v,k,_=>by simp[bS] at k
 |.list _,v,k,_=>by simp[bS] at k
 |.dict _,v,k,_=>by simp[bS] at k
theorem Aao.keys {K:aK}{H:Hp}:∀ (ds:List aA) {vs:List V},bY ds=af->Aao K H ds vs->Agc H ds vs
 |[],vs,_,h=>by simpa [Agc] using Aaj.1 h
 |d::ds,vs,k,h=>by
  have k':bS d=af/\bY ds=af:=by simpa [bY] using k
  obtain⟨y,r,e,h1,h2⟩:=Aaf.1 h;simp only[Agc];exact⟨y,r,e,Abj.key d k'.1 h1,Aao.keys ds k'.2 h2⟩
end
mutual
def eD:aA->Bool
 |.list _=>ag
 |.dict _=>ag
 |.tuple ds=>oG ds
 |_=>af
def oG:List aA->Bool
 |[]=>af
 |d::r=>eD d&&oG r
end
theorem VY:∀ ds:List aA,oG ds=ds.all eD
 |[]=>by simp[oG]
 |d::r=>by simp[oG,VY r]
mutual
theorem Abj.flat(x:∀ a xs,H a=aa (.tup xs)->H' a=aa (.tup xs)):∀ (d:aA) {v:V},eD d=af->Abj K H d v->Abj K H' d v
 |.none,_,_,h=>Abp.2 (Abp.1 h)
 |.bool _,_,_,h=>Aaz.2 (Aaz.1 h)
 |.int _,_,_,h=>Aal.2 (Aal.1 h)
 |.str _,_,_,h=>Aa9.2 (Aa9.1 h)
 |.tuple ds,_,f,h=>by
  obtain⟨a,xs,e,s,r⟩:=Aar.1 h;exact Aar.2 ⟨a,xs,e,x _ _ s,Aao.flat x ds (by simpa [eD] using f) r⟩
 |.list _,_,f,_=>by simp[eD] at f
 |.dict _,_,f,_=>by simp[eD] at f
theorem Aao.flat(x:∀ a xs,H a=aa (.tup xs)->H' a=aa (.tup xs)):∀ (ds:List aA) {vs:List V},oG ds=af->Aao K H ds vs->Aao K H' ds vs
 |[],_,_,h=>Aaj.2 (Aaj.1 h)
 |d::ds,_,f,h=>by
  have f':eD d=af/\oG ds=af:=by simpa [oG] using f
  obtain⟨y,r,e,h1,h2⟩:=Aaf.1 h;exact Aaf.2 ⟨y,r,e,Abj.flat x d f'.1 h1,Aao.flat x ds f'.2 h2⟩
end
inductive All3 {α β γ:Type}(R:α->β->γ->Prop):List α->List β->List γ->Prop
 |nil:All3 R [] [] []
 |cons {a b c as bs cs}:R a b c->All3 R as bs cs->All3 R (a::as) (b::bs) (c::cs)
theorem All3.imp {α β γ:Type}{R S:α->β->γ->Prop}:∀ {as:List α} {bs:List β} {cs:List γ},All3 R as bs cs->(∀ a b c,c∈cs->R a b c->S a b c)->All3 S as bs cs:=by
 intro as bs cs h;induction h with
 |nil=>exact λ_=>.nil
 |cons h _ ih=>exact λf=>.cons (f _ _ _ bO h) (ih λa b c m=>f a b c (bM _ m))
def Ac6 (K:aK)(B H:Hp):Nat->aA->V->List aC->Prop
 |0,d,v,F=>F=[]/\Abj K B d v
 |n+1,d,v,F=>match d with
  |.list ds=>∃ p xs Fs,v=.ref p/\H p=aa (.lst xs)/\F=p::Fs.flatten/\All3 (Ac6 K B H n) ds xs Fs
  |.dict kds=>∃ p,∃ kvs:Nat×List (aG×V),∃ Fs,v=.ref p/\H p=aa (.dK kvs.1 kvs.2)/\F=p::Fs.flatten/\All3 (λ(kd:aA×aA) (kv:aG×V) f=>kd.1=kD kv.1/\Ac6 K B H n kd.2 kv.2 f) kds kvs.2 Fs
  |.tuple ds=>(n=0/\F=[]/\Abj K B (.tuple ds) v)\/(n≠0/\∃ p xs Fs,v=.ref p/\B p=aa (.tup xs)/\F=Fs.flatten/\All3 (Ac6 K B H n) ds xs Fs)
  |d=>F=[]/\Abj K B d v
theorem Ac6.keep{B:Hp}(xb:Ext B B'):∀ {n:Nat} {d:aA} {v:V} {F:List aC},(∀ a∈F,H' a=H a)->Ac6 K B H n d v F->Ac6 K B' H' n d v F
 |0,d,v,F,_,h=>⟨h.1,h.2.ext xb⟩
 |n+1,.list ds,v,F,kp,h=>by
  obtain⟨p,xs,Fs,e,hp,rfl,q⟩:=h;refine⟨p,xs,Fs,e,(kp p bO).trans hp,rfl,q.imp λa b c m r=>Ac6.keep xb (λz hz=>kp z (bM _ (fI.2 ⟨c,m,hz⟩))) r⟩
 |n+1,.dict kds,v,F,kp,h=>by
  obtain⟨p,xs,Fs,e,hp,rfl,q⟩:=h;refine⟨p,xs,Fs,e,(kp p bO).trans hp,rfl,q.imp λa b c m r=>⟨r.1,Ac6.keep xb (λz hz=>kp z (bM _ (fI.2 ⟨c,m,hz⟩))) r.2⟩⟩
 |n+1,.none,v,F,_,h=>⟨h.1,h.2.ext xb⟩
 |n+1,.bool _,v,F,_,h=>⟨h.1,h.2.ext xb⟩
 |n+1,.int _,v,F,_,h=>⟨h.1,h.2.ext xb⟩
 |n+1,.str _,v,F,_,h=>⟨h.1,h.2.ext xb⟩
 |n+1,.tuple ds,v,F,kp,h=>by
  rcases h with⟨h0,h1,h2⟩|⟨h0,p,xs,Fs,e,hp,rfl,q⟩
  .exact .inl ⟨h0,h1,h2.ext xb⟩
  .exact .inr ⟨h0,p,xs,Fs,e,xb _ _ hp,rfl,q.imp λa b c m r=>Ac6.keep xb (λz hz=>kp z (fI.2 ⟨c,m,hz⟩)) r⟩
theorem UO{B:Hp}{R:aA->V->List aC->Prop}(f:∀ d v F,R d v F->Abj K B d v):∀ {ds:List aA} {xs:List V} {Fs:List (List aC)},All3 R ds xs Fs->Aao K B ds xs:=by
 intro ds xs Fs h;induction h with
 |nil=>exact Aaj.2 rfl
 |cons h _ ih=>exact Aaf.2 ⟨_,_,rfl,f _ _ _ h,ih⟩
theorem Of{B:Hp}{R:aA×aA->aG×V->List aC->Prop}(f:∀ d v F,R d v F->d.1=kD v.1/\Abj K B d.2 v.2):∀ {ds:List (aA×aA)} {xs:List (aG×V)} {Fs:List (List aC)},All3 R ds xs Fs->Abr K B ds xs:=by
 intro ds xs Fs h;induction h with
 |nil=>exact Abn.2 rfl
 |@cons p q F ds xs Fs h _ ih=>
  obtain⟨k,d⟩:=p;obtain⟨k',v⟩:=q;exact Aa6.2 ⟨_,_,_,rfl,(f _ _ _ h).1,(f _ _ _ h).2,ih⟩
theorem Ac6.share{B:Hp}(xb:Ext B B'):∀ {n:Nat} {d:aA} {v:V} {F:List aC},(∀ a∈F,∀ o,H a=aa o->B' a=aa o)->Ac6 K B H n d v F->Abj K B' d v
 |0,d,v,F,_,h=>h.2.ext xb
 |n+1,.list ds,v,F,kp,h=>by
  obtain⟨p,xs,Fs,e,hp,rfl,q⟩:=h;refine Abe.2 ⟨p,xs,e,SqL.of (kp p bO _ hp),?_⟩;exact UO (λd v F r=>r) (q.imp λa b c m r=>Ac6.share xb (λz hz=>kp z (bM _ (fI.2 ⟨c,m,hz⟩))) r)
 |n+1,.dict kds,v,F,kp,h=>by
  obtain⟨p,xs,Fs,e,hp,rfl,q⟩:=h;refine UX e (kp p bO _ hp) ?_;exact Of (λd v F r=>r) (q.imp λa b c m r=>⟨r.1,Ac6.share xb (λz hz=>kp z (bM _ (fI.2 ⟨c,m,hz⟩))) r.2⟩)
 |n+1,.none,v,F,_,h=>h.2.ext xb
 |n+1,.bool _,v,F,_,h=>h.2.ext xb
 |n+1,.int _,v,F,_,h=>h.2.ext xb
 |n+1,.str _,v,F,_,h=>h.2.ext xb
 |n+1,.tuple ds,v,F,kp,h=>by
  rcases h with⟨h0,h1,h2⟩|⟨h0,p,xs,Fs,e,hp,rfl,q⟩
  .exact h2.ext xb
  .refine Aar.2 ⟨p,xs,e,xb _ _ hp,?_⟩;exact UO (λd v F r=>r) (q.imp λa b c m r=>Ac6.share xb (λz hz=>kp z (fI.2 ⟨c,m,hz⟩)) r)
def fO:Nat->aA->Bool
 |0,d=>eD d
 |n+1,.list ds=>ds.all (fO n)
 |n+1,.dict kds=>kds.all λkd=>fO n kd.2
 |n+2,.tuple ds=>ds.all (fO (n+1))
 |n+1,d=>eD d
theorem Ac6.flat{B:Hp}(xb:∀ a xs,B a=aa (.tup xs)->B' a=aa (.tup xs)):∀ {n:Nat} {d:aA} {v:V} {F:List aC},fO n d=af->Ac6 K B H n d v F->Ac6 K B' H n d v F
 |0,d,v,F,f,h=>⟨h.1,h.2.flat xb d f⟩
 |n+1,.list ds,v,F,f,h=>by
  obtain⟨p,xs,Fs,e,hp,rfl,q⟩:=h;refine⟨p,xs,Fs,e,hp,rfl,?_⟩;have f':∀ d∈ds,fO n d=af:=by simpa [fO] using f
  clear hp f e;induction q with
  |nil=>exact .nil
  |cons h t ih=>exact .cons (Ac6.flat xb (f' _ bO) h) (ih λd m=>f' d (bM _ m))
 |n+1,.dict kds,v,F,f,h=>by
  obtain⟨p,xs,Fs,e,hp,rfl,q⟩:=h;refine⟨p,xs,Fs,e,hp,rfl,?_⟩;have f':∀ d∈kds,fO n d.2=af:=λd m=>by
   have:kds.all (λkd=>fO n kd.2)=af:=by simpa [fO] using f
   exact fV.1 this d m
  clear hp f e;obtain⟨xe,xs⟩:=xs;replace q:All3 _ kds xs Fs:=q;induction q with
  |nil=>exact .nil
  |cons h t ih=>exact .cons ⟨h.1,Ac6.flat xb (f' _ bO) h.2⟩ (ih λd m=>f' d (bM _ m))
 |n+1,.none,v,F,f,h=>⟨h.1,h.2.flat xb _ f⟩
 |n+1,.bool _,v,F,f,h=>⟨h.1,h.2.flat xb _ f⟩
 |n+1,.int _,v,F,f,h=>⟨h.1,h.2.flat xb _ f⟩
 |n+1,.str _,v,F,f,h=>⟨h.1,h.2.flat xb _ f⟩
 |1,.tuple ds,v,F,f,h=>by
  rcases h with⟨h0,h1,h2⟩|⟨h0,_⟩
  .exact .inl ⟨h0,h1,h2.flat xb _ f⟩
  .exact absurd rfl h0
 |n+2,.tuple ds,v,F,f,h=>by
  rcases h with⟨h0,_⟩|⟨h0,p,xs,Fs,e,hp,rfl,q⟩
  .exact absurd h0 ()
  .refine .inr ⟨h0,p,xs,Fs,e,xb _ _ hp,rfl,?_⟩;have f':∀ d∈ds,fO (n+1) d=af:=by simpa [fO] using f
   clear hp f e;induction q with
   |nil=>exact .nil
   |cons h t ih=>exact .cons (Ac6.flat xb (f' _ bO) h) (ih λd m=>f' d (bM _ m))
theorem All3.of {α β γ:Type}{R:α->β->γ->Prop}:∀ {as:List α} {bs:List β} {cs:List γ},All3 R as bs cs->∀ c∈cs,∃ a b,R a b c:=by
 intro as bs cs h;induction h with
 |nil=>exact λc m=>by simp at m
 |cons h _ ih=>
  intro c m;rcases cV.1 m with rfl|m
  .exact⟨_,_,h⟩
  .exact ih c m
theorem Ac6.mut1{B:Hp}:∀ {n:Nat} {d:aA} {v:V} {F:List aC},Ac6 K B H n d v F->∀ a∈F,(∃ xs,H a=aa (.lst xs))\/∃ q,H a=aa (dO (.inl q))
 |0,d,v,F,h,a,m=>by rw[h.1] at m;simp at m
 |n+1,.list ds,v,F,h,a,m=>by
  obtain⟨p,xs,Fs,e,hp,rfl,q⟩:=h;rcases cV.1 m with e1|m2
  .rw[e1];exact .inl ⟨xs,hp⟩
  .obtain⟨f,hf,ha⟩:=fI.1 m2;obtain⟨_,_,r⟩:=q.of f hf;exact Ac6.mut1 r a ha
 |n+1,.dict kds,v,F,h,a,m=>by
  obtain⟨p,xs,Fs,e,hp,rfl,q⟩:=h;rcases cV.1 m with e1|m2
  .rw[e1];exact .inr ⟨xs,hp⟩
  .obtain⟨f,hf,ha⟩:=fI.1 m2;obtain⟨_,_,r⟩:=q.of f hf;exact Ac6.mut1 r.2 a ha
 |n+1,.none,v,F,h,a,m=>by rw[h.1] at m;simp at m
 |n+1,.bool _,v,F,h,a,m=>by rw[h.1] at m;simp at m
 |n+1,.int _,v,F,h,a,m=>by rw[h.1] at m;simp at m
 |n+1,.str _,v,F,h,a,m=>by rw[h.1] at m;simp at m
 |n+1,.tuple ds,v,F,h,a,m=>by
  rcases h with⟨_,h1,_⟩|⟨h0,p,xs,Fs,e,hp,rfl,q⟩
  .rw[h1] at m;simp at m
  .obtain⟨f,hf,ha⟩:=fI.1 m;obtain⟨_,_,r⟩:=q.of f hf;exact Ac6.mut1 r a ha
theorem Ac6.mut{B:Hp}{F:List aC}(h:Ac6 K B H n d v F):∀ a∈F,(∃ xs,H a=aa (.lst xs))\/∃ q:DQ,H a=aa (dO q):=λa m=>(h.mut1 a m).imp id λ⟨q,e⟩=>⟨.inl q,e⟩
def Hr (K:aK)(B H:Hp)(d:aA)(v:V)(F:List aC):Prop:=∃ kds p,∃ ts:Nat×List (List aA×V),d=.dict ((.none,.none)::kds)/\v=.ref p/\H p=aa (.dT ts.1 ts.2)/\F=[p]/\(∀ kd∈kds,eD kd.2=af)/\Acd K B kds ts.2
def Awf (K:aK)(B H:Hp)(d:aA)(v:V)(F:List aC):Prop:=(d=.none/\v=.non/\F=[])\/Hr K B H d v F
def Bf2 (K:aK)(B H:Hp)(d:aA)(v:V)(F:List aC):Prop:=∃ iz q Fs,∃ j0:Nat×List (aG×V),d=.dict iz/\v=.ref q/\H q=aa (.dK j0.1 j0.2)/\F=q::Fs.flatten/\All3 (λkd kv f=>kd.1=kD kv.1/\Awf K B H kd.2 kv.2 f) iz j0.2 Fs
def Aej (K:aK)(B H:Hp)(n:Nat)(d:aA)(v:V)(F:List aC):Prop:=if n=9 then Awf K B H d v F else if n=10 then(d=.none/\v=.non/\F=[])\/Bf2 K B H d v F else Ac6 K B H n d v F
theorem Acd.flat{B:Hp}(xb:∀ a xs,B a=aa (.tup xs)->B' a=aa (.tup xs)):∀ {kds:List (aA×aA)} {ts:List (List aA×V)},(∀ kd∈kds,eD kd.2=af)->Acd K B kds ts->Acd K B' kds ts
 |[],ts,_,h=>Ac8.2 (Ac8.1 h)
 |(k,d)::r,ts,f,h=>by
  obtain⟨k',x,rr,e,ek,h1,h2⟩:=Ab3.1 h;exact Ab3.2 ⟨k',x,rr,e,ek,h1.flat xb _ (f (k,d) bO),Acd.flat xb (λkd m=>f kd (bM _ m)) h2⟩
section
variable {B:Hp}{F:List aC}
theorem Awf.keep (xb:Ext B B')(kp:∀ a∈F,H' a=H a)(h:Awf K B H d v F):Awf K B' H' d v F:=h.imp id λh=>by
 obtain⟨kds,p,ts,e1,e2,hp,rfl,f,r⟩:=h;exact⟨kds,p,ts,e1,e2,(kp p bO).trans hp,rfl,f,r.ext xb⟩
theorem Awf.flat (xb:∀ a xs,B a=aa (.tup xs)->B' a=aa (.tup xs))(h:Awf K B H d v F):Awf K B' H d v F:=h.imp id λh=>by
 obtain⟨kds,p,ts,e1,e2,hp,rfl,f,r⟩:=h;exact⟨kds,p,ts,e1,e2,hp,rfl,f,r.flat xb f⟩
theorem Awf.share (xb:Ext B B')(kp:∀ a∈F,∀ o,H a=aa o->B' a=aa o)(h:Awf K B H d v F):Abj K B' d v:=by
 rcases h with⟨rfl,rfl,_⟩|⟨kds,p,ts,rfl,e2,hp,rfl,f,r⟩
 .exact Abp.2 rfl
 exact(IG).2 ⟨p,ts,e2,kp p bO _ hp,r.ext xb⟩
theorem Awf.mut (h:Awf K B H d v F):∀ a∈F,(∃ xs,H a=aa (.lst xs))\/∃ q:DQ,H a=aa (dO q):=by
 rcases h with⟨_,_,rfl⟩|⟨kds,p,ts,e1,e2,hp,rfl,f,r⟩
 .exact λa m=>by simp at m
 intro a m;rw[cP.1 m];exact .inr ⟨.inr ts,hp⟩
theorem Bf2.share (xb:Ext B B')(kp:∀ a∈F,∀ o,H a=aa o->B' a=aa o)(h:Bf2 K B H d v F):Abj K B' d v:=by
 obtain⟨iz,q,Fs,⟨xe,j0⟩,rfl,rfl,hq,rfl,h3⟩:=h;refine UX (kvs:=(xe,j0)) rfl (kp q (by simp) _ hq) ?_
 have yr:∀ f∈Fs,∀ p∈f,∀ o,H p=aa o->B' p=aa o:=λf mf p m=>kp p (bM _ (fI.2 ⟨f,mf,m⟩))
 clear hq kp;replace h3:All3 _ iz j0 Fs:=h3;induction h3 with
 |nil=>exact Abn.2 rfl
 |cons h t ih=>exact Aa6.2 ⟨_,_,_,rfl,h.1,h.2.share xb (yr _ bO),ih λf m=>yr f (bM _ m)⟩
theorem Aej.keep (xb:Ext B B')(kp:∀ a∈F,H' a=H a)(h:Aej K B H n d v F):Aej K B' H' n d v F:=by
 unfold Aej at h ⊢;split at h
 .rw[if_pos ‹_›];exact h.keep xb kp
 .rw[if_neg ‹_›];split at h
  .rw[if_pos ‹_›];refine h.imp id λh=>?_
   obtain⟨iz,q,Fs,j0,e1,e2,hq,rfl,h3⟩:=h;exact⟨iz,q,Fs,j0,e1,e2,(kp q bO).trans hq,rfl,h3.imp λkd kv f m r=>⟨r.1,r.2.keep xb λb hb=>kp b (bM _ (fI.2 ⟨f,m,hb⟩))⟩⟩
  .rw[if_neg ‹_›];exact Ac6.keep xb kp h
theorem Aej.share (xb:Ext B B')(kp:∀ a∈F,∀ o,H a=aa o->B' a=aa o)(h:Aej K B H n d v F):Abj K B' d v:=by
 unfold Aej at h;split at h
 .exact h.share xb kp
 .split at h
  .rcases h with⟨rfl,rfl,_⟩|h
   .exact Abp.2 rfl
   .exact h.share xb kp
  .exact Ac6.share xb kp h
theorem Aej.flat (xb:∀ a xs,B a=aa (.tup xs)->B' a=aa (.tup xs))(f:fO n d=af)(h:Aej K B H n d v F):Aej K B' H n d v F:=by
 unfold Aej at h ⊢;split at h
 .rw[if_pos ‹_›];exact h.flat xb
 .rw[if_neg ‹_›];split at h
  .rw[if_pos ‹_›];refine h.imp id λh=>?_
   obtain⟨iz,q,Fs,j0,e1,e2,hq,eF,h3⟩:=h;exact⟨iz,q,Fs,j0,e1,e2,hq,eF,h3.imp λkd kv p m r=>⟨r.1,r.2.flat xb⟩⟩
  .rw[if_neg ‹_›];exact Ac6.flat xb f h
theorem Aej.mut (h:Aej K B H n d v F):∀ a∈F,(∃ xs,H a=aa (.lst xs))\/∃ q:DQ,H a=aa (dO q):=by
 unfold Aej at h;split at h
 .exact h.mut
 .split at h
  .rcases h with⟨_,_,rfl⟩|⟨iz,q,Fs,j0,_,_,hq,rfl,h3⟩
   .exact λa m=>by simp at m
   intro b m;rcases cV.1 m with rfl|m
   .exact .inr ⟨.inl _,hq⟩
   .obtain⟨f,mf,m⟩:=fI.1 m;obtain⟨_,_,r⟩:=h3.of f mf;exact r.2.mut b m
  .exact Ac6.mut h
end
abbrev EF:=List (Option aA)->Option aA
abbrev BF:=List (Option aA)->Option Bool
abbrev AF:=List (Option aA)->Option (List aA)
def Ait (K:aK)(B:Hp)(Y:List (Option aA))(Z:St):Prop:=∀ (i:Nat) d,Y[i]?=aa (aa d)->∃ v,Z[i]?=aa (aa v)/\Abj K B d v
theorem Ait.ext{B:Hp}(h:Ait K B Y Z)(x:Ext B B'):Ait K B' Y Z:=λi d e=>let ⟨v,h1,h2⟩:=h i d e;⟨v,h1,h2.ext x⟩
def Res (K:aK)(P:aC->Prop)(n:Nat)(d:aA)(H:Hp)(Q:VK):Prop:=
 ∀ v H' Fr,Ext H H'->Fr.Nodup->(∀ a∈Fr,H a=ae/\∃ o,H' a=aa o)->Aej K (hid H' (bo P Fr)) H' n d v Fr->Q v H'
section
variable {P:aC->Prop}
theorem Res.zero (h:Res K P 0 d H Q)(x:Ext H H')(r:Abj K (hid H' P) d v):Q v H':=
 h v H' [] x .nil (λa m=>by simp at m) ⟨rfl,by rw[PP];exact r⟩
theorem dP (h:∀ v H',Ext H H'->Abj K (hid H' P) d v->Q v H'):Res K P 0 d H Q:=λv H' Fr x _ _ r=>by
 obtain⟨rfl,r⟩:=r;rw[PP] at r;exact h v H' x r
theorem Res.mono (h:Res K P n d H Q)(x:Ext H H'):Res K P n d H' Q:=λv H2 Fr x2 nd fr r=>
 h v H2 Fr (x.trans x2) nd (λa m=>⟨x.none (fr a m).1,(fr a m).2⟩) r
theorem Res.of (hP:Hid P H)(h:Res K P 0 d H Q):Res K P n d H Q:=λv H2 Fr x2 nd fr r=>
 h.zero x2 (r.share (fY λa p=>.inl p) λa m o e=>dS (hP.new (fr a m).1) e)
theorem Res.lst{p:aC}(hP:Hid P H)(h:Res K P 1 (.list ds) H Q)(n:H p=ae)(r:Aao K (hid H P) ds xs):Q (.ref p) (upd H p (.lst xs)):=by
 refine h (.ref p) _ [p] (Ext.new n) (gC.2 ⟨by simp,.nil⟩) (λa m=>?_) ⟨p,xs,xs.map λ_=>[],rfl,cN,?_,?_⟩
 .have:a=p:=by simpa using m
  subst this;exact⟨n,_,cN⟩
 .have:∀ l:List V,(l.map λ_=>([]:List aC)).flatten=[]:=λl=>by
   induction l with
   |nil=>rfl
   |cons a l ih=>rw[cY,iL,ih];rfl
  rw[this]
 .have xe:Ext (hid H P) (hid (upd H p (.lst xs)) (bo P [p])):=λb o e=>by
   obtain⟨nb,e⟩:=Abb.1 e;have hb:=gQ e n;exact dS (λq=>q.elim nb λm=>hb (by simpa using m)) (by rw[bP hb];exact e)
  generalize hid (upd H p (.lst xs)) (bo P [p])=B at xe;generalize upd H p (.lst xs)=H1;clear h;have go:∀ (ds:List aA) (xs:List V),Aao K (hid H P) ds xs->All3 (Ac6 K B H1 0) ds xs (xs.map λ_=>[]):=by
   intro ds;induction ds with
   |nil=>intro xs r;rw[Aaj.1 r];exact .nil
   |cons d ds ih=>
    intro xs r;obtain⟨y,t,rfl,h1,h2⟩:=Aaf.1 r;exact .cons ⟨rfl,h1.ext xe⟩ (ih t h2)
  exact go ds xs r
theorem Res.tup{p:aC}(hP:Hid P H)(h:Res K P 0 (.tuple ds) H Q)(n:H p=ae)(r:Aao K (hid H P) ds xs):Q (.ref p) (upd H p (.tup xs)):=by
 refine h.zero (Ext.new n) (Aar.2 ⟨p,xs,rfl,dS (hP.new n) cN,r.ext λb o e=>?_⟩)
 obtain⟨nb,e⟩:=Abb.1 e;exact dS nb (Ext.new n _ _ e)
end
def tF (K:aK)(n:Nat)(f:EF):TE:=λZ H Q=>∃ P Y d,Hid P H/\Ait K (hid H P) Y Z/\f Y=aa d/\Res K P n d H Q
def i6 (K:aK)(f:BF):TT:=λZ H Q=>∃ P Y b,Hid P H/\Ait K (hid H P) Y Z/\f Y=aa b/\∀ H',Ext H H'->Q b H'
def L1 (K:aK)(f:AF):TA:=λZ H Q=>∃ P Y ds,Hid P H/\Ait K (hid H P) Y Z/\f Y=aa ds/\∀ vs H',Ext H H'->Aao K (hid H' P) ds vs->Q vs H'
abbrev DF (n:Nat)(X:Cx)(e:aQ)(f:EF):Prop:=PE X e (tF X.K n f)
abbrev DE (X:Cx)(e:aQ)(f:EF):Prop:=PE X e (tF X.K 0 f)
abbrev DT (X:Cx)(e:aQ)(f:BF):Prop:=PT X e (i6 X.K f)
abbrev DW (X:Cx)(e:aQ)(f:BF):Prop:=PW X e (i6 X.K f)
abbrev DA (X:Cx)(es:List aQ)(f:AF):Prop:=PA X es (L1 X.K f)
section
variable {a:aQ}
theorem PE.imp {t t':TE}(h:PE X e t)(w:∀ Z H Q,t' Z H Q->t Z H Q):PE X e t':=λad s Z H Q I q=>h ad s Z H Q I (w _ _ _ q)
theorem PT.imp {t t':TT}(h:PT X e t)(w:∀ Z H Q,t' Z H Q->t Z H Q):PT X e t':=λad s Z H Q I q=>h ad s Z H Q I (w _ _ _ q)
theorem PW.imp {t t':TT}(h:PW X e t)(w:∀ Z H Q,t' Z H Q->t Z H Q):PW X e t':=λdg ad s Z H Q I q=>h dg ad s Z H Q I (w _ _ _ q)
theorem PA.imp {t t':TA}(h:PA X es t)(w:∀ Z H Q,t' Z H Q->t Z H Q):PA X es t':=λpos ad s Z H Q I q=>h pos ad s Z H Q I (w _ _ _ q)
theorem jV {f:EF}(h:DF n X e f):DE X e f:=PE.imp h λZ H Q ⟨P,Y,d,hP,rs,ef,k⟩=>⟨P,Y,d,hP,rs,ef,Res.of hP k⟩
noncomputable def aB (i:Nat):EF:=λY=>(Y[i]?).join
theorem TB(h:aB i Y=aa d):Y[i]?=aa (aa d):=by
 unfold aB at h
 grind
theorem eO (i:Nat)(hN:Nm X i x:=by exact fM):DE X (.Name x pos) (aB i):=PE.imp (hN.pe) λZ H Q gh=>by
 rw[5];obtain⟨v,h1,h2⟩:=rs i d (TB ef);exact⟨v,h1,k.zero Ext.refl h2⟩
def eC (d:aA):EF:=λ_=>aa d
theorem vT(h:PE X e (tC v))(hr:∀ H,Abj X.K H d v):DE X e (eC d):=PE.imp h λZ H Q gh=>by
 obtain⟨P,Y,d',hP,rs,ef,k⟩:=gh;cases ef;exact k.zero Ext.refl (hr _)
theorem jM {i j}:DE X (.Constant (.int i) j pos) (eC (.int i)):=vT wC λ_=>Aal.2 rfl
theorem NZ {i j}:DE X (.Constant (.bool i) j pos) (eC (.bool i)):=vT Fl λ_=>Aaz.2 rfl
theorem wH {j}:DE X (.Constant .none j pos) (eC .none):=vT ZL λ_=>Abp.2 rfl
theorem Hi {i j}(h:cF (.str i)=af:=by rw[0]):DE X (.Constant (.str i) j pos) (eC (.str i)):=vT ZN λ_=>Aa9.2 ⟨rfl,h⟩
theorem Vq{i:Int}{u:aF}(hg:Gl X x)(hm:X.mg x=aa u)(r:RelV (.int i) u)(hd:(x==("__debug__" : aE))=ag:=by decide):DE X (.Name x pos) (eC (.int i)):=vT (Uk hg hm r hd) λ_=>Aal.2 rfl
def aH:AF:=λ_=>aa []
def aD (f:EF)(g:AF):AF:=λY=>(f Y).bind λd=>(g Y).bind λds=>aa (d::ds)
theorem oI:DA X [] aH:=PA.imp gY λZ H Q gh=>by
 rw[5];cases ef;exact k [] H Ext.refl (Aaj.2 rfl)
theorem mC {f:EF}{g:AF}(h1:DE X e f)(h2:DA X es g)(hs:cC (e::es) X.env=(ag,bZ e X.env)::cC es X.env:=by rfl):DA X (e::es) (aD f g):=
 PA.imp (eN h1 h2 hs) λZ H Q gh=>by
  obtain⟨P,Y,ds,hP,rs,ef,k⟩:=gh;obtain⟨d,e1,ef⟩:=aj ef;obtain⟨r,e2,ef⟩:=aj ef;cases ef;exact⟨P,Y,d,hP,rs,e1,dP λv H1 x1 r1=>⟨P,Y,r,hP.ext x1,rs.ext (cG x1),e2,λvs H2 x2 r2=>
   k _ _ (x1.trans x2) (Aaf.2 ⟨v,vs,rfl,r1.ext (cG x2),r2⟩)⟩⟩
def dD (g:AF):EF:=λY=>(g Y).bind λds=>if ds.length<=sizeLine then aa (.tuple ds) else ae
def cU (g:AF):EF:=λY=>(g Y).bind λds=>if ds.length<=sizeLine then aa (.list ds) else ae
theorem cH {α:Type}{c:Prop}[Decidable c]{x y:α}(h:(if c then aa x else ae)=aa y):c/\x=y:=by
 grind
theorem Ai {g:AF}{x1}(h:DA X es g):DE X (.Tuple es x1 pos) (dD g):=PE.imp (AA h) λZ H Q gh=>by
 rw[5];obtain⟨ds,e1,ef⟩:=aj ef;obtain⟨hl,rfl⟩:=cH ef;exact⟨P,Y,ds,hP,rs,e1,λvs H1 x1 r1=>⟨by rw[r1.length];exact hl,λp hp=>(k.mono x1).tup (hP.ext x1) hp r1⟩⟩
theorem zO {g:AF}(h:DA X es g):DF 1 X (.List es pos) (cU g):=PE.imp (Je h) λZ H Q gh=>by
 rw[5];obtain⟨ds,e1,ef⟩:=aj ef;obtain⟨hl,rfl⟩:=cH ef;exact⟨P,Y,ds,hP,rs,e1,λvs H1 x1 r1=>⟨by rw[r1.length];exact hl,λp hp=>(k.mono x1).lst (hP.ext x1) hp r1⟩⟩
def OpD (K:aK)(n:Nat)(r:R2)(g:aA->aA->Option aA):Prop:=
 ∀ (P:aC->Prop) (H:Hp) (x y:V) (a b d:aA) (Q:VK),Hid P H->Abj K (hid H P) a x->Abj K (hid H P) b y->g a b=aa d->Res K P n d H Q->r x y H Q
def ah (g:aA->aA->Option aA)(fa fb:EF):EF:=λY=>(fa Y).bind λa=>(fb Y).bind λb=>g a b
theorem KA{fa fb:EF}(hg:OpD K n r g):∀ Z H Q,tF K n (ah g fa fb) Z H Q->p9 r (tF K 0 fa) (tF K 0 fb) Z H Q:=λZ H Q gh=>by
 rw[5];obtain⟨d1,e1,ef⟩:=aj ef;obtain⟨d2,e2,ef⟩:=aj ef;exact⟨P,Y,d1,hP,rs,e1,dP λv H1 x1 r1=>⟨P,Y,d2,hP.ext x1,rs.ext (cG x1),e2,dP λu H2 x2 r2=>
  hg P H2 v u d1 d2 d Q (hP.ext (x1.trans x2)) (r1.ext (cG x2)) r2 ef (k.mono (x1.trans x2))⟩⟩
theorem nZ {op:Operator}{fa fb:EF}(ho:OpR X (jQ op) r)(hg:OpD X.K n r g)(ha:DE X a fa)(hb:DE X b fb):DF n X (.BinOp a op b pos) (ah g fa fb):=PE.imp (Ga ho ha hb) (KA hg)
theorem zT {op:CmpOp}{fa fb:EF}(ho:OpR X (iH op) r)(hg:OpD X.K 0 r g)(ha:DE X a fa)(hb:DE X b fb)(hm:sQ op b=ag):DE X (.Compare a [op] [b] pos) (ah g fa fb):=PE.imp (Ua ho ha hb hm) (KA hg)
theorem OpD.or{r':R2}{g':aA->aA->Option aA}(h:OpD K n r g)(h':OpD K n r' g'):OpD K n (λx y H Q=>r x y H Q\/r' x y H Q) (λa b=>(g a b).or (g' a b)):=λP H x y a b d Q hP ra rb e k=>by
 have e:(g a b).or (g' a b)=aa d:=e;cases q:g a b with
 |some d'=>
  rw[q] at e;cases e;exact .inl (h P H x y a b d Q hP ra rb q k)
 |none=>
  rw[q] at e;exact .inr (h' P H x y a b d Q hP ra rb (by simpa using e) k)
def dz (g:aA->Option aA)(fa:EF):EF:=λY=>(fa Y).bind g
def CallD (K:aK)(n:Nat)(r:List V->Hp->VK->Prop)(g:List aA->Option aA):Prop:=
 ∀ (P:aC->Prop) (H:Hp) (xs:List V) (ds:List aA) (d:aA) (Q:VK),Hid P H->Aao K (hid H P) ds xs->g ds=aa d->Res K P n d H Q->r xs H Q
def aM (g:List aA->Option aA)(fa:AF):EF:=λY=>(fa Y).bind g
variable {r:List V->Hp->VK->Prop}{g:List aA->Option aA}{fa:AF}{id:String}
theorem qF (hc:Adc X (.builtin id) r)(hg:CallD X.K n r g)(nh:Gl X x)(hm:X.mg x=ae)(hv:lC x=aa (.builtin id))(ha:DA X (e::es) fa)(hn:x ≠ "__name__":=by decide)(gn:(x==("__debug__" : aE))=ag:=by decide)
  (he:cC (e::es) X.env=(ag,bZ e X.env)::cC es X.env:=by rfl) (fu:(jG pos (cC es X.env)).any (·.1)=ag:=by rfl):DF n X (.Call (.Name x p) (e::es) [] pos) (aM g fa):=
 PE.imp (SJ hc nh hm hv ha hn gn he fu) λZ H Q gh=>by
  rw[5];obtain⟨d1,e1,ef⟩:=aj ef;exact⟨P,Y,d1,hP,rs,e1,λvs H1 x1 r1=>hg P H1 vs d1 d Q (hP.ext x1) r1 ef (k.mono x1)⟩
theorem qE (hc:Adc X (.type T) r)(hg:CallD X.K n r g)(nh:Gl X x)(hm:X.mg x=ae)(hv:lC x=aa (.type T))(ha:DA X (e::es) fa)(hn:x ≠ "__name__":=by decide)(gn:(x==("__debug__" : aE))=ag:=by decide)
  (he:cC (e::es) X.env=(ag,bZ e X.env)::cC es X.env:=by rfl) (fu:(jG pos (cC es X.env)).any (·.1)=ag:=by rfl):DF n X (.Call (.Name x p) (e::es) [] pos) (aM g fa):=
 PE.imp (xM hc nh hm hv ha hn gn he fu) λZ H Q gh=>by
  rw[5];obtain⟨d1,e1,ef⟩:=aj ef;exact⟨P,Y,d1,hP,rs,e1,λvs H1 x1 r1=>hg P H1 vs d1 d Q (hP.ext x1) r1 ef (k.mono x1)⟩
def i5:aA->Option Bool
 |.bool b=>aa b
 |_=>ae
theorem HE{b:Bool}(h:i5 d=aa b):d=.bool b:=by
 cases d<;>simp[i5] at h;rw[h]
def ak (f:EF):BF:=λY=>(f Y).bind i5
theorem Ii {f:EF}(h:DE X e f)(he:∀ dg,isTrue e X.env dg=(do let v <-dg;standAt e.pos;nK [v] (truthy v)):=by intro _;rfl):DT X e (ak f):=PT.imp (Iv h he) λZ H Q gh=>by
 obtain⟨P,Y,b,hP,rs,ef,k⟩:=gh;obtain⟨d,e1,ef⟩:=aj ef;cases HE ef;exact⟨P,Y,_,hP,rs,e1,dP λv H1 x1 r1=>⟨b,Aaz.1 r1,k H1 x1⟩⟩
theorem kL {op:CmpOp}{r:R2}{g:aA->aA->Option aA}{fa fb:EF}(ho:OpR X (iH op) r)(hg:OpD X.K 0 r g)(ha:DE X a fa)(hb:DE X b fb)(hm:sQ op b=ag):DT X (.Compare a [op] [b] pos) (ak (ah g fa fb)):=
 PT.imp (GA ho ha hb hm) λZ H Q gh=>by
  obtain⟨P,Y,c,hP,rs,ef,k⟩:=gh;obtain⟨d,e1,ef⟩:=aj ef;cases HE ef;exact KA hg Z H _ ⟨P,Y,_,hP,rs,e1,dP λv H1 x1 r1=>⟨c,Aaz.1 r1,k H1 x1⟩⟩
def qX (f:BF):BF:=λY=>(f Y).bind λb=>aa (!b)
def fL (f g:BF):BF:=λY=>(f Y).bind λb=>if b=af then g Y else aa ag
def m3 (f g:BF):BF:=λY=>(f Y).bind λb=>if b=af then aa af else g Y
variable {fB gB:BF}{rest:List aQ}
theorem Ia (h:DT X a fB):DT X (.UnaryOp .Not a pos) (qX fB):=PT.imp (Kj h) λZ H Q gh=>by
 obtain⟨P,Y,c,hP,rs,ef,k⟩:=gh;obtain⟨b,e1,ef⟩:=aj ef;cases ef;exact⟨P,Y,b,hP,rs,e1,λH1 x1=>k H1 x1⟩
theorem QR (h:DT X a fB):DW X (.BoolOp .And [a] pos) fB:=Bb h
theorem Ja (h:DT X a fB):DW X (.BoolOp .Or [a] pos) fB:=Iq h
theorem YZ (h:DT X a fB)(h2:DW X (.BoolOp .And (b::rest) pos) gB):DW X (.BoolOp .And (a::b::rest) pos) (fL fB gB):=PW.imp (ZT h h2) λZ H Q gh=>by
 obtain⟨P,Y,c,hP,rs,ef,k⟩:=gh;obtain⟨b,e1,ef⟩:=aj ef;refine⟨P,Y,b,hP,rs,e1,λH1 x1=>?_⟩
 cases b with
 |true=>exact lL ⟨P,Y,c,hP.ext x1,rs.ext (cG x1),by simpa using ef,λH2 x2=>k H2 (x1.trans x2)⟩
 |false=>
  grind
theorem Ho (h:DT X a fB)(h2:DW X (.BoolOp .Or (b::rest) pos) gB):DW X (.BoolOp .Or (a::b::rest) pos) (m3 fB gB):=PW.imp (Fe h h2) λZ H Q gh=>by
 obtain⟨P,Y,c,hP,rs,ef,k⟩:=gh;obtain⟨b,e1,ef⟩:=aj ef;refine⟨P,Y,b,hP,rs,e1,λH1 x1=>?_⟩
 cases b with
 |true=>
  grind
 |false=>exact lO ⟨P,Y,c,hP.ext x1,rs.ext (cG x1),by simpa using ef,λH2 x2=>k H2 (x1.trans x2)⟩
theorem DV (h:DW X a fB):DT X a fB:=h.pt
def NS (f:EF):EF:=λY=>(f Y).bind λd=>(i5 d).bind λb=>aa (.bool (!b))
def tM (f g:EF):EF:=λY=>(f Y).bind λd=>(i5 d).bind λb=>if b=af then g Y else aa (.bool ag)
def A2 (f g:EF):EF:=λY=>(f Y).bind λd=>(i5 d).bind λb=>if b=af then aa (.bool af) else g Y
variable {f1 f2:EF}
theorem Hz (h:DE X a f1)(h2:DE X (.BoolOp .And (b::rest) pos) f2):DE X (.BoolOp .And (a::b::rest) pos) (tM f1 f2):=PE.imp (Jh h h2) λZ H Q gh=>by
 obtain⟨P,Y,c,hP,rs,ef,k⟩:=gh;obtain⟨d,e1,ef⟩:=aj ef;obtain⟨b,e2,bq⟩:=aj ef;clear ef;have ef:=bq;clear bq;cases HE e2;refine⟨P,Y,_,hP,rs,e1,dP λv H1 x1 r1=>⟨b,Aaz.1 r1,?_⟩⟩
 cases b with
 |true=>exact lL ⟨P,Y,c,hP.ext x1,rs.ext (cG x1),by simpa using ef,k.mono x1⟩
 |false=>
  have:hV ag=c:=by simpa using ef
  subst this;exact lO (k.zero x1 (Aaz.2 rfl))
def A1 (t:BF)(f g:EF):EF:=λY=>(t Y).bind λb=>if b=af then f Y else g Y
end
abbrev Slot:=Option (Nat×aA)
abbrev aP:=List Slot
def vS (Y:aP):List (Option aA):=Y.map λs=>match s with|some (0,d)=>aa d|_=>ae
def vA (Y:aP):List (Option aA):=Y.map λs=>s.map (·.2)
theorem Kg {Y:aP}(h:(vS Y)[i]?=aa (aa d)):Y[i]?=aa (aa (0,d)):=by
 unfold vS at h
 grind
theorem Kb {Y:aP}(h:(vA Y)[i]?=aa (aa d)):∃ n,Y[i]?=aa (aa (n,d)):=by
 unfold vA at h;rw[gJ] at h;cases e:Y[i]? with
 |none=>rw[e] at h;simp at h
 |some s=>
  rw[e] at h;cases s with
  |none=>simp at h
  |some q=>
   grind
abbrev Hd (P0:aC->Prop)(fp:Nat->List aC):aC->Prop:=λa=>P0 a\/∃ i,a∈fp i
structure Sta (K:aK)(H0:Hp)(P0:aC->Prop)(B0:Hp)(Y:aP)(Z:St)(H:Hp)(fp:Nat->List aC):Prop where
 len:Z.length=Y.length
 nd:∀ i,(fp i).Nodup
 dj:∀ i j a,a∈fp i->a∈fp j->i=j
 own:∀ i a,a∈fp i->H0 a=ae/\((∃ xs,H a=aa (.lst xs))\/∃ q:DQ,H a=aa (dO q))
 ext:Ext H0 H
 hd:Hid P0 H0
 base:Ext B0 (hid H (Hd P0 fp))
 slot:∀ (i:Nat) n d,Y[i]?=aa (aa (n,d))->∃ v,Z[i]?=aa (aa v)/\Aej K (hid H (Hd P0 fp)) H n d v (fp i)
section
variable {Y:aP}
theorem Sta.hid (S:Sta K H0 P0 B0 Y Z H fp):Hid (Hd P0 fp) H:=λa h=>by
 rcases h with h|⟨i,h⟩
 .exact S.hd.ext S.ext a h
 .exact(S.own i a h).2
theorem Sta.np (S:Sta K H0 P0 B0 Y Z H fp)(m:a∈fp i):¬ P0 a:=S.hd.new (S.own i a m).1
theorem Sta.grow (S:Sta K H0 P0 B0 Y Z H fp)(x:Ext H H'):Sta K H0 P0 B0 Y Z H' fp:=by
 refine⟨S.len,S.nd,S.dj,λi a m=>⟨(S.own i a m).1,(S.own i a m).2.imp (λ⟨xs,e⟩=>⟨xs,x _ _ e⟩) λ⟨xs,e⟩=>⟨xs,x _ _ e⟩⟩,S.ext.trans x,S.hd,S.base.trans (cG x),λi n d e=>?_⟩
 obtain⟨v,h1,h2⟩:=S.slot i n d e;refine⟨v,h1,h2.keep (cG x) λa m=>?_⟩
 rcases(S.own i a m).2 with⟨xs,e⟩|⟨xs,e⟩
 all_goals grind
theorem Sta.viewS (S:Sta K H0 P0 B0 Y Z H fp):Ait K (L2.hid H (Hd P0 fp)) (vS Y) Z:=λi d e=>by
 obtain⟨v,h1,h2⟩:=S.slot i 0 d (Kg e);exact⟨v,h1,h2.2⟩
theorem Sta.viewA (S:Sta K H0 P0 B0 Y Z H fp):Ait K (L2.hid H P0) (vA Y) Z:=λi d e=>by
 obtain⟨n,e⟩:=Kb e;obtain⟨v,h1,h2⟩:=S.slot i n d e;exact⟨v,h1,h2.share (fY λa p=>.inl p) λa m o e=>dS (S.np m) e⟩
def Tmp (K:aK)(H0:Hp)(P0:aC->Prop)(B0:Hp)(Y:aP)(Z:St)(n:Nat)(d:aA)(v:V)(H:Hp):Prop:=
 ∃ fp,Sta K H0 P0 B0 Y Z H fp/\Aej K (L2.hid H (Hd P0 fp)) H n d v (fp Y.length)
inductive Md|s|a
noncomputable def eV (n:Nat)(m:Md)(f:EF)(Y:aP):Option aA:=match m with
 |.s=>f (vS Y)
 |.a=>(f (vA Y)).bind λd=>if fO n d=af then aa d else ae
noncomputable def bV (m:Md)(f:BF)(Y:aP):Option Bool:=match m with
 |.s=>f (vS Y)
 |.a=>f (vA Y)
noncomputable def aV (m:Md)(f:AF)(Y:aP):Option (List aA):=match m with
 |.s=>f (vS Y)
 |.a=>f (vA Y)
def tE (K:aK)(H0:Hp)(P0:aC->Prop)(n:Nat)(m:Md)(f:EF):TE:=λZ H Q=>∃ B0 Y fp d,Sta K H0 P0 B0 Y Z H fp/\eV n m f Y=aa d/\∀ v H',Tmp K H0 P0 B0 Y Z n d v H'->Q v H'
end
theorem Sta.trim{Y:aP}(S:Sta K H0 P0 B0 Y Z H fp):∃ bg,Sta K H0 P0 B0 Y Z H bg/\∀ i a,a∈bg i->a∈fp i/\∃ n d,Y[i]?=aa (aa (n,d)):=by
 let bg:Nat->List aC:=λi=>match Y[i]? with
  |some (aa _)=>fp i
  |_=>[]
 have sub:∀ i a,a∈bg i->a∈fp i/\∃ n d,Y[i]?=aa (aa (n,d)):=λi a m=>by
  grind
 have same:∀ i n d,Y[i]?=aa (aa (n,d))->bg i=fp i:=λi n d e=>by
  grind
 have xb:Ext (L2.hid H (Hd P0 fp)) (L2.hid H (Hd P0 bg)):=fY λa h=>h.imp id λ⟨i,m⟩=>⟨i,(sub i a m).1⟩
 refine⟨bg,⟨S.len,λi=>?_,λi j a h1 h2=>S.dj i j a (sub i a h1).1 (sub j a h2).1,λi a m=>S.own i a (sub i a m).1,S.ext,S.hd,S.base.trans xb,λi n d e=>?_⟩,sub⟩
 .show(match Y[i]? with|some (aa _)=>fp i|_=>[]).Nodup
  split
  .exact S.nd i
  .exact Cp
 .obtain⟨v,h1,h2⟩:=S.slot i n d e;rw[same i n d e];exact⟨v,h1,h2.keep xb λa m=>rfl⟩
theorem NK{f:EF}(m:Md):∀ Z H Q,tE K H0 P0 n m f Z H Q->tF K n f Z H Q:=λZ H Q gh=>by
 obtain⟨B0,Y,fp,d,S,ef,k⟩:=gh;cases m with
 |s=>
  refine⟨Hd P0 fp,vS Y,d,S.hid,S.viewS,ef,λv H' Fr x nd fr r=>k v H' ?_⟩
  have S':=S.grow x;have cf:∀ a,Hd P0 (λi=>if i=Y.length then Fr else fp i) a->bo (Hd P0 fp) Fr a:=λa h=>by
   grind
  have C4:∀ i a,a∈fp i->a∉Fr:=λi a h1 h2=>by
   have:=(fr a h2).1;rcases(S.own i a h1).2 with⟨xs,e⟩|⟨xs,e⟩<;>rw[this] at e<;>first|cases e|(cases xs<;>simp[dO] at e)
  have xb:Ext (L2.hid H (Hd P0 fp)) (L2.hid H' (Hd P0 λi=>if i=Y.length then Fr else fp i)):=λb o e=>by
   obtain⟨nb,e⟩:=Abb.1 e;refine dS (λq=>?_) (x _ _ e)
   grind
  refine⟨λi=>if i=Y.length then Fr else fp i,⟨S.len,λi=>?_,λi j a hi hj=>?_,λi a hi=>?_,S'.ext,S.hd,S.base.trans xb,λi n' d' e'=>?_⟩,?_⟩
  .by_cases hi:i=Y.length
   .simp only[hi,if_true];exact nd
   .simp only[hi,if_false];exact S.nd i
  .by_cases h1:i=Y.length<;>by_cases h2:j=Y.length
   .rw[h1,h2]
   .grind
   .grind
   .simp only[h1,if_false] at hi;simp only[h2,if_false] at hj;exact S.dj i j a hi hj
  .by_cases h1:i=Y.length
   .simp only[h1,if_true] at hi;exact⟨S.ext.none (fr a hi).1,r.mut a hi⟩
   .simp only[h1,if_false] at hi;exact S'.own i a hi
  .have br:=(cR.1 e').1;have h1:i≠Y.length:=()
   obtain⟨v',q1,q2⟩:=S'.slot i n' d' e';refine⟨v',q1,?_⟩;simp only[h1,if_false];obtain⟨v2,p1,p2⟩:=S.slot i n' d' e';have ev:=fH (fH (p1.symm.trans q1));subst ev;refine p2.keep xb λa m=>?_
   rcases(S.own i a m).2 with⟨xs,e⟩|⟨xs,e⟩
   all_goals grind
  .simp only[if_true];exact r.keep (fY cf) λa m=>rfl
 |a=>
  obtain⟨d',ed,ef⟩:=aj ef;obtain⟨fl,rfl⟩:=cH ef;obtain⟨fp,S,trm⟩:=S.trim;refine⟨P0,vA Y,d',S.hd.ext S.ext,S.viewA,ed,λv H' Fr x nd fr r=>k v H' ?_⟩
  have S':=S.grow x;have C4:∀ i a,a∈fp i->a∉Fr:=λi a h1 h2=>by
   have:=(fr a h2).1;rcases(S.own i a h1).2 with⟨xs,e⟩|⟨xs,e⟩<;>rw[this] at e<;>first|cases e|(cases xs<;>simp[dO] at e)
  have xb:Ext (L2.hid H (Hd P0 fp)) (L2.hid H' (Hd P0 λi=>if i=Y.length then Fr else fp i)):=λb o e=>by
   obtain⟨nb,e⟩:=Abb.1 e;refine dS (λq=>?_) (x _ _ e)
   grind
  refine⟨λi=>if i=Y.length then Fr else fp i,⟨S.len,λi=>?_,λi j a hi hj=>?_,λi a hi=>?_,S'.ext,S.hd,S.base.trans xb,λi n' d' e'=>?_⟩,?_⟩
  .by_cases hi:i=Y.length
   .simp only[hi,if_true];exact nd
   .simp only[hi,if_false];exact S.nd i
  .by_cases h1:i=Y.length<;>by_cases h2:j=Y.length
   .rw[h1,h2]
   .grind
   .grind
   .simp only[h1,if_false] at hi;simp only[h2,if_false] at hj;exact S.dj i j a hi hj
  .by_cases h1:i=Y.length
   .simp only[h1,if_true] at hi;exact⟨S.ext.none (fr a hi).1,r.mut a hi⟩
   .simp only[h1,if_false] at hi;exact S'.own i a hi
  .have br:=(cR.1 e').1;have h1:i≠Y.length:=()
   obtain⟨v2,p1,p2⟩:=S.slot i n' d' e';refine⟨v2,p1,?_⟩;simp only[h1,if_false];refine p2.keep xb λa m=>?_
   rcases(S.own i a m).2 with⟨xs,e⟩|⟨xs,e⟩
   all_goals grind
  .simp only[if_true];refine r.flat (λa xs e=>?_) fl
   obtain⟨na,e⟩:=Abb.1 e;refine dS (λq=>?_) e
   rcases q with q|⟨j,q⟩
   .exact na (.inl q)
   .by_cases hj:j=Y.length
    .grind
    .simp only[hj,if_false] at q;rcases(S'.own j a q).2 with⟨ys,e2⟩|⟨ys,e2⟩<;>rw[e] at e2<;>first|cases e2|(cases ys<;>simp[dO] at e2)
theorem ev {f:EF}(m:Md)(h:DF n X e f):PE X e (tE X.K H0 P0 n m f):=PE.imp h (NK m)
def tB' (K:aK)(H0:Hp)(P0:aC->Prop)(m:Md)(f:BF):TT:=λZ H Q=>∃ B0 Y fp b,Sta K H0 P0 B0 Y Z H fp/\bV m f Y=aa b/\∀ H',Sta K H0 P0 B0 Y Z H' fp->Q b H'
theorem sx {f:BF}(m:Md)(h:DT X e f):PT X e (tB' X.K H0 P0 m f):=PT.imp h λZ H Q gh=>by
 obtain⟨B0,Y,fp,b,S,ef,k⟩:=gh;cases m with
 |s=>exact⟨Hd P0 fp,vS Y,b,S.hid,S.viewS,ef,λH' x=>k H' (S.grow x)⟩
 |a=>exact⟨P0,vA Y,b,S.hd.ext S.ext,S.viewA,ef,λH' x=>k H' (S.grow x)⟩
inductive Out where
 |nx (Y:aP)|rt (d:aA)|bk (Y:aP)|ct (Y:aP)
abbrev SF:=aP->Option Out
def MV (K:aK)(H0:Hp)(P0:aC->Prop)(n0:Nat)(d:aA)(v:V)(H':Hp):Prop:=
 ∃ Fr,Ext H0 H'/\Fr.Nodup/\(∀ a∈Fr,H0 a=ae/\∃ o,H' a=aa o)/\Aej K (hid H' (bo P0 Fr)) H' n0 d v Fr
def OE (K:aK)(H0:Hp)(P0:aC->Prop)(B0:Hp)(n0:Nat)(D:Ends):Out->Prop
 |.nx Y=>∀ Z H fp,Sta K H0 P0 B0 Y Z H fp->D.nx Z H
 |.bk Y=>∀ Z H fp,Sta K H0 P0 B0 Y Z H fp->D.bk Z H
 |.ct Y=>∀ Z H fp,Sta K H0 P0 B0 Y Z H fp->D.ct Z H
 |.rt d=>∀ v H',MV K H0 P0 n0 d v H'->D.rt v H'
def tS (K:aK)(H0:Hp)(P0:aC->Prop)(n0:Nat)(F:SF):TS:=λD Z H=>∃ B0 Y fp o,Sta K H0 P0 B0 Y Z H fp/\F Y=aa o/\OE K H0 P0 B0 n0 D o
abbrev DS (X:Cx)(H0:Hp)(P0:aC->Prop)(n0:Nat)(s:dU)(F:SF):Prop:=PS X s (tS X.K H0 P0 n0 F)
abbrev gb (X:Cx)(H0:Hp)(P0:aC->Prop)(n0:Nat)(s:List dU)(F:SF):Prop:=PSs X s (tS X.K H0 P0 n0 F)
section
variable {s:dU}{ss:List dU}{F G:SF}{f:EF}
theorem PS.imp {t t':TS}(h:PS X s t)(w:∀ D Z H,t' D Z H->t D Z H):PS X s t':=λad st Z H D I q=>h ad st Z H D I (w _ _ _ q)
theorem PSs.imp {t t':TS}(h:PSs X ss t)(w:∀ D Z H,t' D Z H->t D Z H):PSs X ss t':=λad st Z H D I q=>h ad st Z H D I (w _ _ _ q)
def cK:SF:=λY=>aa (.nx Y)
noncomputable def aO (F G:SF):SF:=λY=>(F Y).bind λo=>match o with
 |.nx Y'=>G Y'
 |o=>aa o
theorem Td:gb X H0 P0 n0 [] cK:=PSs.imp FT λD Z H gh=>by
 rw[4];cases ef;exact k Z H fp S
theorem Um (h:DS X H0 P0 n0 s F):gb X H0 P0 n0 [s] F:=OV h
theorem Wt (h:DS X H0 P0 n0 s F)(h2:gb X H0 P0 n0 ss G):gb X H0 P0 n0 (s::ss) (aO F G):=PSs.imp (Vk h h2) λD Z H gh=>by
 rw[4];obtain⟨o1,e1,ef⟩:=aj ef;refine⟨B0,Y,fp,o1,S,e1,?_⟩;cases o1 with
 |nx Y1=>exact λZ1 H1 j8 S1=>⟨B0,Y1,j8,o,S1,ef,k⟩
 |rt d=>cases ef;exact k
 |bk Y1=>cases ef;exact k
 |ct Y1=>cases ef;exact k
def bp (m:Md)(t:BF)(F G:SF):SF:=λY=>(bV m t Y).bind λb=>if b=af then F Y else G Y
theorem Ge{a b:List dU}{t:BF}(m:Md)(hc:DT X c t)(ha:gb X H0 P0 n0 a F)(hb:gb X H0 P0 n0 b G):DS X H0 P0 n0 (.If c a b pos) (bp m t F G):=
 PS.imp (EK (sx m hc) ha hb) λD Z H gh=>by
  rw[4];obtain⟨b,e1,ef⟩:=aj ef;refine⟨B0,Y,fp,b,S,e1,λH1 S1=>?_⟩
  cases b with
  |true=>exact lL ⟨B0,Y,fp,o,S1,by simpa using ef,k⟩
  |false=>exact lO ⟨B0,Y,fp,o,S1,by simpa using ef,k⟩
def frz (i:Nat)(Y:aP):aP:=match Y[i]? with
 |some (aa (_,d))=>Y.set i (aa (0,d))
 |_=>Y
theorem Sta.frz{Y:aP}(S:Sta K H0 P0 B0 Y Z H fp)(i:Nat):∃ bg,Sta K H0 P0 B0 (L2.frz i Y) Z H bg:=by
 unfold L2.frz;cases e:Y[i]? with
 |none=>exact⟨fp,S⟩
 |some s=>
  cases s with
  |none=>exact⟨fp,S⟩
  |some q=>
   obtain⟨n,d⟩:=q;have hi:=(cR.1 e).1;have cf:∀ a,Hd P0 (λj=>if j=i then [] else fp j) a->Hd P0 fp a:=λa h=>by
    grind
   refine⟨λj=>if j=i then [] else fp j,⟨by simp[S.len],λj=>?_,λj k a h1 h2=>?_,λj a h1=>?_,S.ext,S.hd,S.base.trans (fY cf),λj n' d' e'=>?_⟩⟩
   .by_cases hj:j=i
    .simp only[hj,if_true];exact .nil
    .simp only[hj,if_false];exact S.nd j
   .by_cases hj:j=i
    .simp only[hj,if_true] at h1;simp at h1
    .by_cases hk:k=i
     .simp only[hk,if_true] at h2;simp at h2
     .simp only[hj,if_false] at h1;simp only[hk,if_false] at h2;exact S.dj j k a h1 h2
   .by_cases hj:j=i
    .simp only[hj,if_true] at h1;simp at h1
    .simp only[hj,if_false] at h1;exact S.own j a h1
   .by_cases hj:j=i
    .subst hj;rw[iW hi] at e';cases e';obtain⟨v,h1,h2⟩:=S.slot j n d e;refine⟨v,h1,?_⟩;simp only[if_true];refine⟨rfl,h2.share (fY cf) λa m o q=>dS (λz=>?_) q⟩
     rcases z with z|⟨k,z⟩
     .exact S.np m z
     .by_cases hk:k=j
      .simp only[hk,if_true] at z;simp at z
      .simp only[hk,if_false] at z;exact hk (S.dj k j a z m)
    .rw[iO (λz=>hj z.symm)] at e'
     obtain⟨v,h1,h2⟩:=S.slot j n' d' e';refine⟨v,h1,?_⟩;simp only[hj,if_false];exact h2.keep (fY cf) λa m=>rfl
def hZ (i:Nat)(F:SF):SF:=λY=>F (frz i Y)
theorem Ls (i:Nat)(h:gb X H0 P0 n0 ss F):gb X H0 P0 n0 ss (hZ i F):=PSs.imp h λD Z H ⟨B0,Y,fp,o,S,ef,k⟩=>let ⟨bg,S'⟩:=S.frz i;⟨B0,_,bg,o,S',ef,k⟩
theorem Tmp.set{Y:aP}(t:Tmp K H0 P0 B0 Y Z n d v H)(hi:i<Y.length):∃ fp,Sta K H0 P0 B0 (Y.set i (aa (n,d))) (Z.set i (aa v)) H fp:=by
 obtain⟨fp,S,r⟩:=t;have gu:Y.length≠i:=()
 have cf:∀ a,Hd P0 (λj=>if j=i then fp Y.length else if j=Y.length then [] else fp j) a->Hd P0 fp a:=λa h=>by
  grind
 have l3:∀ j a,a∈(if j=i then fp Y.length else if j=Y.length then [] else fp j)->(j=i/\a∈fp Y.length)\/(j≠i/\j≠Y.length/\a∈fp j):=λj a h=>by
  grind
 refine⟨λj=>if j=i then fp Y.length else if j=Y.length then [] else fp j,⟨by simp[S.len],λj=>?_,λj k a h1 h2=>?_,λj a h1=>?_,S.ext,S.hd,S.base.trans (fY cf),λj n' d' e'=>?_⟩⟩
 .by_cases hj:j=i
  .rw[if_pos hj];exact S.nd _
  .by_cases hk:j=Y.length
   .rw[if_neg hj,if_pos hk];exact .nil
   .rw[if_neg hj,if_neg hk];exact S.nd _
 .rcases l3 j a h1 with⟨e1,m1⟩|⟨e1,l1,m1⟩<;>rcases l3 k a h2 with⟨e2,m2⟩|⟨e2,l2,m2⟩
  .rw[e1,e2]
  .exact absurd (S.dj _ _ a m2 m1) l2
  .exact absurd (S.dj _ _ a m1 m2) l1
  .exact S.dj j k a m1 m2
 .rcases l3 j a h1 with⟨e1,m1⟩|⟨e1,l1,m1⟩
  .exact S.own _ a m1
  .exact S.own _ a m1
 .by_cases hj:j=i
  .subst hj;rw[iW hi] at e';cases e';refine⟨v,?_,?_⟩
   .rw[iW (by rw[S.len];exact hi)]
   .rw[if_pos rfl];exact r.keep (fY cf) λa m=>rfl
  .rw[iO (λz=>hj z.symm)] at e'
   have br:=(cR.1 e').1;have hk:j≠Y.length:=()
   obtain⟨v',h1,h2⟩:=S.slot j n' d' e';refine⟨v',?_,?_⟩
   .grind
   .rw[if_neg hj,if_neg hk];exact h2.keep (fY cf) λa m=>rfl
def bC (i n:Nat)(m:Md)(f:EF):SF:=λY=>(eV n m f Y).bind λd=>if i<Y.length then aa (.nx (Y.set i (aa (n,d)))) else ae
theorem Iu{gm:bH}(n:Nat)(m:Md)(hN:X.N.Nodup)(hi:X.N[i]?=aa x)(hx:iQ X.env.scope x)(he:DF n X e f)(hs:iG e (aa (.Name x gm)) pos.line X.env=pure ag:=by rfl)(hf:X.fn x=af\/X.env.scope.names.lookup x=aa .local:=by first|exact .inl rfl|exact .inr rfl|assumption) :
  DS X H0 P0 n0 (.Assign [.Name x gm] e pos) (bC i n m f):=PS.imp (FH hN hi hx (ev m he) hs hf) λD Z H gh=>by
 rw[4];obtain⟨d,e1,ef⟩:=aj ef;obtain⟨hl,rfl⟩:=cH ef;refine⟨B0,Y,fp,d,S,e1,λv H' t=>?_⟩
 obtain⟨bg,S'⟩:=t.set hl;exact k _ _ bg S'
theorem Tmp.ret{Y:aP}(t:Tmp K H0 P0 B0 Y Z n d v H):MV K H0 P0 n d v H:=by
 obtain⟨fp,S,r⟩:=t;refine⟨fp Y.length,S.ext,S.nd _,λa m=>⟨(S.own _ a m).1,?_⟩,r.keep (fY λa h=>?_) λa m=>rfl⟩
 .rcases(S.own _ a m).2 with⟨xs,e⟩|⟨xs,e⟩
  all_goals grind
 all_goals grind
def bT (n:Nat)(m:Md)(f:EF):SF:=λY=>(eV n m f Y).bind λd=>aa (.rt d)
theorem Jg (m:Md)(he:DF n0 X e f):DS X H0 P0 n0 (.Return (aa e) pos) (bT n0 m f):=PS.imp (rQ (ev m he)) λD Z H gh=>by
 rw[4];obtain⟨d,e1,ef⟩:=aj ef;cases ef;exact⟨B0,Y,fp,d,S,e1,λv H' t=>k v H' t.ret⟩
def jA (i n0:Nat):SF:=λY=>match Y[i]? with
 |some (aa (n,d))=>if n=n0 then aa (.rt d) else ae
 |_=>ae
theorem Lr (i:Nat)(hN:Nm X i x:=by exact fM):DS X H0 P0 n0 (.Return (aa (.Name x p)) pos) (jA i n0):=PS.imp (rQ (hN.pe)) λD Z H gh=>by
 rw[4];unfold jA at ef;cases e:Y[i]? with
 |none=>rw[e] at ef;simp at ef
 |some q=>
  cases q with
  |none=>rw[e] at ef;simp at ef
  |some q=>
   obtain⟨n,d⟩:=q;rw[e] at ef;obtain⟨rfl,rfl⟩:=cH ef;obtain⟨v,h1,h2⟩:=S.slot i n d e;refine⟨v,h1,k v H ⟨fp i,S.ext,S.nd i,λa m=>⟨(S.own i a m).1,?_⟩,h2.keep (fY λa h=>?_) λa m=>rfl⟩⟩
   .rcases(S.own i a m).2 with⟨xs,e⟩|⟨xs,e⟩
    all_goals grind
   all_goals grind
def pV (m:Md)(f:EF):SF:=λY=>(eV 0 m f Y).bind λ_=>aa (.nx Y)
theorem Mi (m:Md)(he:DE X e f)(hs:iG e ae pos.line X.env=pure ag:=by rfl):DS X H0 P0 n0 (.Expr e pos) (pV m f):=PS.imp (pX (ev m he) hs) λD Z H gh=>by
 rw[4];obtain⟨d,e1,ef⟩:=aj ef;cases ef;refine⟨B0,Y,fp,d,S,e1,λv H' ⟨bg,S',r⟩=>k _ _ bg S'⟩
end
theorem Qz:Adc X (.builtin "isinstance") (λxs H Q=>∃ x T t b,xs=[x,.ty T]/\TyOf X.K H x t/\Ca X.K t (.type T)=aa b/\Q (.bl b) H):=by
 rw[6];obtain⟨x,T,t,b,rfl,ty,e,q⟩:=h;obtain⟨u,w',rfl,ru,gp⟩:=vals2 r;cases gp;exact Xw I ru ty e λtk=>⟨.bl b,H,I.tok tk,rfl,q⟩
def yZ (x:aE):It:=⟨λi _=>i<x.cps.size,λi H v H'=>H'=H/\∃ c,x.cps[i]?=aa c/\v=.str ⟨#[c]⟩,λi _=>x.cps.size<=i⟩
theorem TN {P:bN}{it:aC}{vp:Tok}{ty:String}
  (W:∀ A':cE,A'.handled=ae->Walks P w A' it [it] [it] x.cps.size (SignAt x) (λi h=>h.IsStrIter it ty x vp i))
  (sf:∀ (A:cE) (i:Nat) (s:aI) (Q:aF->aI->Prop) (E:aF->aI->Prop),s.heap.IsStrIter it ty x vp i->Q (.ref it) s->aT (aX P w) A (sP (.ref it)) Q E s)
  (i8:["enumerate","zip","dict_itemiterator","dict_reverseitemiterator","odict_iterator","itertools.zip_longest","itertools.pairwise"].contains ty=ag) :
  Turn P w K tg (yZ x) [it] it (λi h=>h.IsStrIter it ty x vp i/\i<=x.cps.size) where
 mem:=by simp
 obj:=λi h st b hb=>by
  have e:b=it:=by simpa using hb
  subst e;obtain⟨o,e,_,d⟩:=st.1
  grind
 keep:=λi h h' st k=>⟨let ⟨o,e,r⟩:=st.1;⟨o,k it (by simp) o e,r⟩,st.2⟩
 item:=by
  rw[1];obtain⟨f0,f1,f2,f3,f4,f5⟩:=hf it (by simp)
  refine(W X.A (I.ok.hd hc)).item i s _ _ hg st.1 λv h' tk hv ft kk=>?_
  obtain⟨c,u,C5,rfl⟩:=hv;have I1:Inv X ad Z H { s with heap:=h',toks:=tk }:=I.turned (λb o hb e=>kk b o (by simpa using hb) e) f0 f1 f3 f4 f5
  obtain⟨o,e,C6,d⟩:=id ft;exact⟨_,rfl,xW e C6 d i8 ⟨.str ⟨#[c]⟩,H,I1,⟨u,rfl⟩,⟨rfl,c,C5,rfl⟩,⟨ft,hg⟩,λb hb=>(hf b hb).1⟩⟩
 done:=by
  rw[1];obtain⟨f0,f1,f2,f3,f4,f5⟩:=hf it (by simp)
  have hi:=Nat.le_antisymm st.2 hg;subst hi;exact(W X.A (I.ok.hd hc)).done s _ _ st.1 λh' tk kk=>⟨rfl,I.turned (λb o hb e=>kk b o (by simpa using hb) e) f0 f1 f3 f4 f5⟩
 self:=λA i s Q E st h=>sf A i s Q E st.1 h
def Ej (tl:TE):TI:=λZ H R=>tl Z H λv H1=>∃ x,v=.str x/\R (yZ x) H1
theorem Hc {X:Cx}{l:aQ}{tl:TE}(hl:PE X l tl):PI X tg l (Ej tl):=by
 intro ad s Z H R I h;refine bb (hl ad s Z H _ I h) λv s1 gh=>?_
 obtain⟨y,H1,I1,r1,q1⟩:=gh;obtain⟨x,rfl,q⟩:=q1;obtain⟨t,rfl⟩:=r1;have fin:∀ (o:bI) (ty:String),Turn X.prog X.w X.K tg (yZ x) [s1.heap.objs.size] s1.heap.objs.size (λi h=>h.IsStrIter s1.heap.objs.size ty x t i/\i<=x.cps.size)->(s1.heap.push o).IsStrIter s1.heap.objs.size ty x t 0 ->
   xp X ad Z tg R (.ref s1.heap.objs.size) { s1 with heap:=s1.heap.push o }:=λo ty T st=>by
  refine⟨s1.heap.objs.size,[s1.heap.objs.size],_,_,H1,rfl,I1.kept λb o e=>bX _ e,T,⟨st,eA _⟩,λb hb=>?_,q⟩
  have e:b=s1.heap.objs.size:=by simpa using hb
  subst e;exact I1.fpOk (bJ _) (I1.hok.fresh (bJ _))
 cases ha:x.cps.all (· < 128)
 .exact wpAny_pyIter_wide ha (fin _ "str_iterator" (TN (λA' hA=>Walks.strWide hA _ x t) (λA i s Q E st h=>wpAny_pyIter_striter_wide st h) nofun) ⟨_,dG _ rfl,rfl,rfl⟩)
 .exact wpAny_pyIter_ascii ha (fin _ "str_ascii_iterator" (TN (λA' hA=>Walks.strAscii hA _ x t) (λA i s Q E st h=>wpAny_pyIter_striter_ascii st h) nofun) ⟨_,dG _ rfl,rfl,rfl⟩)
def allB (xs:List V):Bool:=xs.all λv=>decide (v=.bl af)
theorem Yh (hc:X.calm=af):Adc X (.builtin "all") (λxs H Q=>∃ p ys,xs=[.ref p]/\SqL X.K H p ys/\(∀ y∈ys,∃ b,y=.bl b)/\Q (.bl (allB ys)) H):=by
 rw[6];obtain⟨p,ys,rfl,hs,hb,q⟩:=h;obtain⟨u,rfl,ru⟩:=vals1 r;cases ru;obtain⟨its,rv,pl,hz⟩:=I.list hs;have hl:=pl.isList;have br:p<s.heap.objs.size:=by obtain⟨o,n,e,_⟩:=pl;exact bW e
 have hh:=I.ok.hd hc;have len:=rv.length;refine call_all_walk (KQ hl ⟨s.heap.objs.size,_,_,_,_,_,λi=>decide (ys[i]?=aa (.bl af)),rfl,Walks.list (A:=X.A.in1) hh s.heap.objs.size p (eB br) its.toArray,
  ⟨⟨_,dG _ rfl,rfl,rfl⟩,hl.at λo e=>bX _ e⟩,?_,?_⟩)
 .intro i v s' Q' E' hv hq;have yt:its[i]?=aa v:=by simpa using hv
  have hi:i<ys.length:=by rw[len];exact(cR.1 yt).1
  obtain⟨b,hy⟩:=hb ys[i] (lG hi);have j7:ys[i]?=aa (.bl b):=by rw[hX hi,hy]
  obtain⟨u',h1,h2⟩:=rv.get j7;rw[yt] at h1;cases h1;cases h2;refine KO ?_;have:decide (ys[i]?=aa (V.bl af))=b:=by rw[j7];cases b<;>simp
  grind
 .intro h' tk hk;have e:((cQ its.toArray.size).all λi=>decide (ys[i]?=aa (V.bl af)))=allB ys:=by
   have hn:its.toArray.size=ys.length:=by simp[len]
   rw[hn];unfold allB;rw[iP];simp only[fV,nU,decide_eq_true_eq];constructor
   .intro h v hv;obtain⟨i,hi,rfl⟩:=sY hv
    grind
   .intro h i hi;rw[hX hi,h _ (lG hi)]
  rw[e];refine⟨.bl (allB ys),H,?_,rfl,q⟩;exact I.kept λb o eb=>hk b o (by simp;exact eB (bW eb)) (bX _ eb)
structure Def (P:bN)(w:bD)(K:aK)(mg:aE->Option aF)(base:aU)(x:aE)(k:Nat)(ps:List aE)(sp:Sp):Prop where
 ex:∃ f fd,FnOk P w K mg base jc k f fd ps sp/\mg x=aa (.ref f)/\CI K (.ref f)=af/\Binds K fd ps []
section
variable {k:Nat}{t:TA}
theorem ZU (D:Def X.prog X.w X.K X.mg X.base x k ps sp)(hr:Room k X.A)(hg:Gl X x)(ha:PA X (e::es) t)(gn:(x==("__debug__" : aE))=ag:=by decide)(he:cC (e::es) X.env=(ag,bZ e X.env)::cC es X.env:=by rfl)
  (fu:(jG pos (cC es X.env)).any (·.1)=ag:=by rfl):PE X (.Call (.Name x p) (e::es) [] pos) (NU sp [] E0 t):=by
 obtain⟨f,fd,F,hm,hk,hb⟩:=D.ex;exact Tn F hr hg hm hk hb .nil Gp ha gn he fu
end
def EB (a b:String):Option Bool:=if (mG a==mG b)=af then aa af else if PySem.W.kitMeta b=af then(fastBuiltinMro a).map (·.contains (.type b)) else ae
theorem Akp{a b:String}:Ca K (.type a) (.type b)=EB a b:=rfl
def kinds:List String:=["NoneType","bool","int","str","list","tuple","dict"]
def j5 (t T:String):Bool:=t==T||(t == "bool" && T == "int")
theorem Wn:(kinds.all λt=>["int","bool","str","list","tuple","dict"].all λT=>decide (EB t T=aa (j5 t T)))=af:=by rw[0]
theorem Ui {t:String}(ht:t∈kinds)(hT:T∈["int","bool","str","list","tuple","dict"]):EB t T=aa (j5 t T):=by
 have h:=fV.1 Wn t ht
 grind
def Kd (K:aK)(H:Hp)(x:V)(t:String):Prop:=TyOf K H x (.type t)/\t∈kinds
theorem Kd.ext(x:Ext H H'){t:String}(h:Kd K H v t):Kd K H' v t:=⟨x.ty h.1,h.2⟩
theorem Kd.int{x:V}(h:Kd K H x "int"):∃ i,x=.int i:=by
 obtain⟨h,_⟩:=h;generalize e:mG "int" = t at h;cases h<;>first|exact⟨_,rfl⟩|exact absurd (Value.type.inj e) nofun|cases e
theorem Kd.str{x:V}(h:Kd K H x "str"):∃ i,x=.str i:=by
 obtain⟨h,_⟩:=h;generalize e:mG "str" = t at h;cases h<;>first|exact⟨_,rfl⟩|exact absurd (Value.type.inj e) nofun|cases e
theorem Gj(hg:Gl X x)(hm:X.mg x=ae)(hv:lC x=aa (.type T))(hn:x ≠ "__name__":=by decide)(hd:(x==("__debug__" : aE))=ag:=by decide):PE X (.Name x pos) (tC (.ty T)):=
 Lu hg hm hv rfl hn hd
theorem boot_isinstance:lC "isinstance" = aa (.builtin "isinstance"):=by rw[0]
theorem boot_all:lC "all" = aa (.builtin "all"):=by rw[0]
theorem bits_le {i:Int}(h:i.natAbs<2^n):lH i<=n:=by
 unfold lH;split
 .exact eA _
 .rename_i gu;have h0:i.natAbs≠0:=by
   grind
  have:=(Nat.log2_lt h0).2 h
  lia
theorem Kq:OpR X (jQ .Mult) (rI (λi j=>i.natAbs<2^1000/\j.natAbs<2^1000) λi j=>.int (i*j)):=p7 λi j _ _ _ _ _ hc q=>
 mul_int q (Yv (bits_le hc.1) (bits_le hc.2) nofun)
theorem JU{k:Nat}(hr:Room k A):A.units+100<cLine:=by
 have:=hr.un
 lia
theorem IZ:∀ {xs:List V} {us:List aF},xs.length=us.length->(∀ (j:Nat) x u,xs[j]?=aa x->us[j]?=aa u->RelV x u)->Vals xs us
 |[],[],_,_=>.nil
 |[],_::_,h,_=>by simp at h
 |_::_,[],h,_=>by simp at h
 |x::xs,u::us,h,r=>.cons (r 0 x u rfl rfl) (IZ (by simpa using h) λj y w h1 h2=>r (j+1) y w (by simpa using h1) (by simpa using h2))
def rE (c:Nat):V:=.str ⟨#[c]⟩
theorem Pz (hc:X.calm=af):Adc X (.type "list") (λxs H Q=>∃ z:aE,xs=[.str z]/\z.length<=sizeLine/\∀ l,H l=ae->Q (.ref l) (upd H l (.lst (z.cps.toList.map rE)))):=by
 rw[6];obtain⟨z,rfl,hz,q⟩:=h;obtain⟨u,rfl,t,rfl⟩:=vals1 r;refine call_list_str (I.ok.hd hc) z t (λh' tk cg c' hk hS d6=>?_) hz
 have hv:Vals (z.cps.toList.map rE) cg.toList:=by
  refine IZ (by simp[d6.1]) λj x u h1 h2=>?_
  obtain⟨c,t',i9,rfl⟩:=d6.2 j u (by simpa using h2)
  have:(z.cps.toList.map rE)[j]?=aa (rE c):=by simp[i9]
  rw[this] at h1;cases h1;exact⟨t',rfl⟩
 exact⟨.ref s.heap.objs.size,_,I.laid hk (bJ _) (show Acu X.prog X.w _ h' _ (.lst (z.cps.toList.map rE)) from⟨by rw[cD,Dq];exact hz,cg.toList,c',hv,by simpa using hS⟩),rfl,q _ I.fresh⟩
def gx (K:aK)(B:Hp)(J:It)(ds:List aA):Prop:=∀ (i:Nat) (H2:Hp),Ext B H2 ->
 (∀ d,ds[i]?=aa d->J.go i H2/\∀ x H3,J.yld i H2 x H3->Ext H2 H3/\∀ P2,Hid P2 H2->Ext B (hid H2 P2)->Abj K (hid H3 P2) d x)/\(ds.length=i->J.stop i H2)
def tI (K:aK)(f:AF):TI:=λZ H R=>∃ P Y ds,Hid P H/\Ait K (hid H P) Y Z/\f Y=aa ds/\∀ J H',Ext H H'->gx K (hid H' P) J ds->R J H'
def L3 (K:aK)(f:AF):TI:=λZ H R=>∃ P Y ds,Hid P H/\Ait K (hid H P) Y Z/\f Y=aa ds/\∀ J H',Ext H H'->gx K (λ_=>ae) J ds->R J H'
abbrev DI (X:Cx)(tg e:aQ)(f:AF):Prop:=PI X tg e (tI X.K f)
abbrev uw (X:Cx)(tg e:aQ)(f:AF):Prop:=PI X tg e (L3 X.K f)
def itemsOf:aA->Option (List aA)
 |.list ds=>aa ds
 |.tuple ds=>aa ds
 |.str x=>aa (x.cps.toList.map λc=>.str ⟨#[c]⟩)
 |_=>ae
def ax (f:EF):AF:=λY=>(f Y).bind itemsOf
section
variable {a:aQ}
theorem PI.imp {t t':TI}(h:PI X tg e t)(w:∀ Z H R,t' Z H R->t Z H R):PI X tg e t':=λad s Z H R I q=>h ad s Z H R I (w _ _ _ q)
theorem PI.or {t t':TI}(h:PI X tg e t)(h':PI X tg e t'):PI X tg e (λZ H R=>t Z H R\/t' Z H R):=λad s Z H R I q=>q.elim (h ad s Z H R I) (h' ad s Z H R I)
theorem SH{B:Hp}{a:aC}(h:SqL K B a xs)(r:Aao K B ds xs):gx K B (DJ K a) ds:=λi H2 x2=>by
 have h2:=x2.sqL h;refine⟨λd hd=>?_,λe=>⟨xs,h2,by rw[r.length];lia⟩⟩
 obtain⟨v,h3,h4⟩:=r.get hd;refine⟨⟨xs,v,h2,h3⟩,?_⟩;rintro x H3 ⟨rfl,hx⟩;have:=h3.symm.trans (hx xs h2);cases this;exact⟨Ext.refl,λP2 _ xb=>h4.ext xb⟩
theorem Mx{B:Hp}{a:aC}(h:B a=aa (.tup xs))(r:Aao K B ds xs):gx K B (DD K a) ds:=λi H2 x2=>by
 have h2:SqT K H2 a xs:=SqT.of (x2 _ _ h);refine⟨λd hd=>?_,λe=>⟨xs,h2,by rw[r.length];lia⟩⟩
 obtain⟨v,h3,h4⟩:=r.get hd;refine⟨⟨xs,v,h2,h3⟩,?_⟩;rintro x H3 ⟨rfl,hx⟩;have:aa v=aa x:=h3.symm.trans (hx xs h2);cases this;exact⟨Ext.refl,λP2 _ xb=>h4.ext xb⟩
theorem HJ {z:aE}{c:Nat}(h:cF (.str z)=af)(hc:z.cps.toList[i]?=aa c):cF (.str ⟨#[c]⟩)=af:=by
 have hz:∀ d∈z.cps,d<0x110000:=by
  have h':z.cps.all (· < 0x110000)=af:=by simpa only[cF,PyData.strOk] using h
  intro d hd;exact of_decide_eq_true (Array.all_eq_true'.1 h' d hd)
 have:=hz c (by simpa using fC hc)
 simp[cF,PyData.strOk,this]
theorem Uy{B:Hp}{z:aE}(hl:cF (.str z)=af):gx K B (yZ z) (z.cps.toList.map λc=>.str ⟨#[c]⟩):=λi H2 x2=>by
 refine⟨λd hd=>?_,λe=>?_⟩
 .rw[gJ] at hd;cases hc:z.cps.toList[i]? with
  |none=>rw[hc] at hd;simp at hd
  |some c=>
   rw[hc] at hd;have hd:dB ⟨#[c]⟩=d:=by simpa using hd
   subst hd;have br:i<z.cps.size:=by simpa using(cR.1 hc).1
   refine⟨br,?_⟩;rintro x H3 ⟨rfl,c',de,rfl⟩;have:z.cps.toList[i]?=aa c':=by simpa using de
   rw[hc] at this;cases this;exact⟨Ext.refl,λP2 _ _=>Aa9.2 ⟨rfl,HJ hl hc⟩⟩
 .have:z.cps.size=i:=by simpa using e
  exact LS this
theorem Pa{lo:Int}{B:Hp}:gx K B (zF lo n) ((cQ n).map λ(k:Nat)=>bF (lo+k)):=λi H2 x2=>by
 refine⟨λd hd=>?_,λe=>?_⟩
 .have br:i<n:=by
   have:=(cR.1 hd).1;simpa using this
  have m6:bF (lo+i)=d:=by
   rw[gJ,List.getElem?_range br] at hd;simpa using hd
  subst m6;refine⟨br,?_⟩;rintro x H3 ⟨rfl,rfl⟩;exact⟨Ext.refl,λP2 _ _=>Aal.2 rfl⟩
 .have:n=i:=by simpa using e
  exact LS this
theorem zZ {f:EF}(h:DE X e f):DI X tg e (ax f):=PI.imp (PI.or (GU h) (PI.or (Ih h) (Hc h))) λZ H R gh=>by
 obtain⟨P,Y,ds,hP,rs,ef,k⟩:=gh;obtain⟨d,e1,ef⟩:=aj ef;cases d with
 |list jk=>
  have:jk=ds:=by simpa [itemsOf] using ef
  subst this;refine .inl ⟨P,Y,_,hP,rs,e1,dP λv H1 x1 r1=>?_⟩
  obtain⟨a,xs,rfl,hr,rr⟩:=Abe.1 r1;exact⟨a,rfl,⟨xs,Aap.sqL hr⟩,k _ H1 x1 (SH hr rr)⟩
 |tuple jk=>
  have:jk=ds:=by simpa [itemsOf] using ef
  subst this;refine .inr (.inl ⟨P,Y,_,hP,rs,e1,dP λv H1 x1 r1=>?_⟩)
  obtain⟨a,xs,rfl,hr,rr⟩:=Aar.1 r1;exact⟨a,rfl,⟨xs,SqT.of (Aap _ _ hr)⟩,k _ H1 x1 (Mx hr rr)⟩
 |str z=>
  have:z.cps.toList.map (λc=>dB ⟨#[c]⟩)=ds:=by simpa [itemsOf] using ef
  subst this;refine .inr (.inr ⟨P,Y,_,hP,rs,e1,dP λv H1 x1 r1=>?_⟩)
  exact⟨z,(Aa9.1 r1).1,k _ H1 x1 (Uy (Aa9.1 r1).2)⟩
 |_=>simp[itemsOf] at ef
def EC (lo hi:Int):Option (List aA):=if -(2^62)<=lo/\lo<2^62 /\ -(2^62)<=hi/\hi<2^62 then aa ((cQ (hi-lo).toNat).map λ(k:Nat)=>bF (lo+k)) else ae
def jr (fa:AF):AF:=λY=>(fa Y).bind λds=>match ds with
 |[.int j]=>EC 0 j
 |_=>ae
theorem Oo {fa:AF}(hg:Gl X "range")(hm:X.mg "range" = ae)(ha:DA X [a] fa)(hs:cC [a] X.env=[(ag,bZ a X.env)]:=by rfl):uw X tg (.Call (.Name "range" p) [a] [] pos) (jr fa):=PI.imp (Ou hg hm ha hs) λZ H R gh=>by
 obtain⟨P,Y,ds,hP,rs,ef,k⟩:=gh;obtain⟨as,e1,ef⟩:=aj ef;refine⟨P,Y,as,hP,rs,e1,λvs H1 x1 r1=>?_⟩
 split at ef
 .rename_i j;obtain⟨hb,rfl⟩:=cH ef;obtain⟨v,t,rfl,h1,h2⟩:=Aaf.1 r1;obtain rfl:=Aaj.1 h2;obtain rfl:=Aal.1 h1;have e0:(j-0).toNat=j.toNat:=by simp
  refine⟨j,rfl,hb.2.2.1,hb.2.2.2,k _ H1 x1 ?_⟩;rw[e0];exact Pa
 .cases ef
theorem Gv {f:AF}(h:uw X tg e f):DI X tg e f:=PI.imp h λZ H R ⟨P,Y,ds,hP,rs,ef,k⟩=>⟨P,Y,ds,hP,rs,ef,λJ H' x it=>k J H' x λi H2 x2=>by
 obtain⟨h1,h2⟩:=it i H2 (λ_ _ e=>by cases e)
 exact⟨λd hd=>⟨(h1 d hd).1,λv H3 y=>⟨((h1 d hd).2 v H3 y).1,λP2 hp _=>((h1 d hd).2 v H3 y).2 P2 hp λ_ _ e=>by cases e⟩⟩,h2⟩⟩
def tI' (K:aK)(H0:Hp)(P0:aC->Prop)(m:Md)(f:AF):TI:=λZ H R=>∃ B0 Y fp ds,Sta K H0 P0 B0 Y Z H fp/\aV m f Y=aa ds/\∀ J B1 H',Sta K H0 P0 B1 Y Z H' fp->Ext B0 B1->gx K B1 J ds->R J H'
theorem Sta.rebase{B1:Hp}{Y:aP}(S:Sta K H0 P0 B0 Y Z H fp)(b:Ext B1 (L2.hid H (Hd P0 fp))):Sta K H0 P0 B1 Y Z H fp:=⟨S.len,S.nd,S.dj,S.own,S.ext,S.hd,b,S.slot⟩
theorem L0 {f:AF}(h:DI X tg e f):PI X tg e (tI' X.K H0 P0 .s f):=PI.imp h λZ H R ⟨B0,Y,fp,ds,S,ef,k⟩=>
 ⟨Hd P0 fp,vS Y,ds,S.hid,S.viewS,ef,λJ H' x it=>k J _ H' ((S.grow x).rebase Ext.refl) (S.grow x).base it⟩
theorem Ey {f:AF}(m:Md)(h:uw X tg e f):PI X tg e (tI' X.K H0 P0 m f):=PI.imp h λZ H R gh=>by
 obtain⟨B0,Y,fp,ds,S,ef,k⟩:=gh;have up:∀ {J:It} {B:Hp},gx X.K (λ_=>ae) J ds->gx X.K B J ds:=λ{J B} it i H2 x2=>by
  obtain⟨h1,h2⟩:=it i H2 (λ_ _ e=>by cases e)
  exact⟨λd hd=>⟨(h1 d hd).1,λv H3 y=>⟨((h1 d hd).2 v H3 y).1,λP2 hp _=>((h1 d hd).2 v H3 y).2 P2 hp λ_ _ e=>by cases e⟩⟩,h2⟩
 cases m with
 |s=>exact⟨Hd P0 fp,vS Y,ds,S.hid,S.viewS,ef,λJ H' x it=>k J _ H' (S.grow x) Ext.refl (up it)⟩
 |a=>exact⟨P0,vA Y,ds,S.hd.ext S.ext,S.viewA,ef,λJ H' x it=>k J _ H' (S.grow x) Ext.refl (up it)⟩
end
def tG (K:aK)(H0:Hp)(P0:aC->Prop)(T:aA->aP->Option aP):TG:=λv Z H Q=>∃ B0 Y fp d Y',Sta K H0 P0 B0 Y Z H fp/\Abj K (hid H (Hd P0 fp)) d v/\T d Y=aa Y'/\∀ Z' bg,Sta K H0 P0 B0 Y' Z' H bg->Q Z' H
abbrev DG (X:Cx)(H0:Hp)(P0:aC->Prop)(tg:aQ)(T:aA->aP->Option aP):Prop:=PG X tg (tG X.K H0 P0 T)
theorem PG.imp{t t':TG}(h:PG X tg t)(w:∀ v Z H Q,t' v Z H Q->t v Z H Q):PG X tg t':=λad s Z H v u Q I r q=>h ad s Z H v u Q I r (w _ _ _ _ q)
theorem Sta.set0{Y:aP}(S:Sta K H0 P0 B0 Y Z H fp)(r:Abj K (L2.hid H (Hd P0 fp)) d v)(hi:i<Y.length):∃ bg,Sta K H0 P0 B0 (Y.set i (aa (0,d))) (Z.set i (aa v)) H bg:=by
 have cf:∀ a,Hd P0 (λj=>if j=Y.length then [] else fp j) a->Hd P0 fp a:=λa h=>by
  rcases h with h|⟨j,h⟩
  .exact .inl h
  .by_cases hj:j=Y.length
   .simp only[hj,if_true] at h;simp at h
   .simp only[hj,if_false] at h;exact .inr ⟨j,h⟩
 have S2:Sta K H0 P0 B0 Y Z H (λj=>if j=Y.length then [] else fp j):=by
  refine⟨S.len,λj=>?_,λj k a h1 h2=>?_,λj a h1=>?_,S.ext,S.hd,S.base.trans (fY cf),λj n d e=>?_⟩
  .by_cases hj:j=Y.length
   .simp only[hj,if_true];exact .nil
   .simp only[hj,if_false];exact S.nd j
  .by_cases hj:j=Y.length
   .simp only[hj,if_true] at h1;simp at h1
   .by_cases hk:k=Y.length
    .simp only[hk,if_true] at h2;simp at h2
    .simp only[hj,if_false] at h1;simp only[hk,if_false] at h2;exact S.dj j k a h1 h2
  .by_cases hj:j=Y.length
   .simp only[hj,if_true] at h1;simp at h1
   .simp only[hj,if_false] at h1;exact S.own j a h1
  .have br:=(cR.1 e).1;have hj:j≠Y.length:=()
   obtain⟨v',h1,h2⟩:=S.slot j n d e;refine⟨v',h1,?_⟩;simp only[hj,if_false];exact h2.keep (fY cf) λa m=>rfl
 refine Tmp.set ⟨_,S2,?_⟩ hi;simp only[if_true];exact⟨rfl,r.ext (fY cf)⟩
def dq (i:Nat):aA->aP->Option aP:=λd Y=>if i<Y.length then aa (Y.set i (aa (0,d))) else ae
theorem Mh(hN:X.N.Nodup)(hi:X.N[i]?=aa x)(hx:iQ X.env.scope x)(hf:X.fn x=af\/X.env.scope.names.lookup x=aa .local:=by first|exact .inl rfl|exact .inr rfl|assumption):DG X H0 P0 (.Name x pos) (dq i):=
 PG.imp (oM hN hi hx hf) λv Z H Q gh=>by
  obtain⟨B0,Y,fp,d,Y',S,r,ef,k⟩:=gh;obtain⟨hl,rfl⟩:=cH ef;obtain⟨bg,S'⟩:=S.set0 r hl;exact k _ bg S'
def jL (i j:Nat):aA->aP->Option aP:=λd Y=>match d with
 |.tuple [a,b]=>(dq i a Y).bind λY'=>dq j b Y'
 |_=>ae
theorem Tf{p1:bH}{k}(hc:X.calm=af)(hN:X.N.Nodup)(hi:X.N[i]?=aa x)(hj:X.N[j]?=aa y)(hx:iQ X.env.scope x)(hy:iQ X.env.scope y)
  (hf:X.fn x=af\/X.env.scope.names.lookup x=aa .local:=by first|exact .inl rfl|exact .inr rfl|assumption) (vq:X.fn y=af\/X.env.scope.names.lookup y=aa .local:=by first|exact .inl rfl|exact .inr rfl|assumption)
  (hn:(hJ [.Name x p1,.Name y p2] X.env).length=2:=by rfl) (i7:(hJ [.Name x p1,.Name y p2] X.env).findIdx? (·.1)=ae:=by rfl)
  (h1:(hJ [.Name x p1,.Name y p2] X.env).map (·.2)=jZ (.Name x p1) X.env::(hJ [.Name y p2] X.env).map (·.2):=by rfl) (h2:(hJ [.Name y p2] X.env).map (·.2)=jZ (.Name y p2) X.env::(hJ [] X.env).map (·.2):=by rfl):DG X H0 P0 (.Tuple [.Name x p1,.Name y p2] k pos) (jL i j):=
 PG.imp (EX hc (uQ (oM hN hi hx hf) (uQ (oM hN hj hy vq) FR h2) h1) hn i7) λv Z H Q gh=>by
  obtain⟨B0,Y,fp,d,Y',S,r,ef,k⟩:=gh;unfold jL at ef;split at ef
  .rename_i a b;obtain⟨Y1,e1,e2⟩:=aj ef;obtain⟨l1,rfl⟩:=cH e1;obtain⟨l2,rfl⟩:=cH e2;obtain⟨p,xs,rfl,hp,rr⟩:=Aar.1 r;obtain⟨v1,t1,rfl,r1,rr⟩:=Aaf.1 rr;obtain⟨v2,t2,rfl,r2,rr⟩:=Aaf.1 rr;obtain rfl:=Aaj.1 rr;refine⟨p,_,rfl,SqT.of (Aap _ _ hp),rfl,v1,_,rfl,v2,_,rfl,rfl,?_⟩;have Sb:=S.rebase Ext.refl;obtain⟨j8,S1⟩:=Sb.set0 r1 l1;obtain⟨b7,S2⟩:=S1.set0 (r2.ext S1.base) l2;exact k _ b7 (S2.rebase (S.base.trans S2.base))
  .cases ef
def iC (F:SF)(T:aA->aP->Option aP):List aA->SF
 |[],Y=>aa (.nx Y)
 |d::r,Y=>(T d Y).bind λY1=>(F Y1).bind λo=>match o with
  |.nx Y'=>iC F T r Y'
  |.ct Y'=>iC F T r Y'
  |.bk Y'=>aa (.nx Y')
  |.rt d=>aa (.rt d)
def cT (m:Md)(fi:AF)(T:aA->aP->Option aP)(F:SF):SF:=λY=>(aV m fi Y).bind λds=>iC F T ds Y
section
variable {body:List dU}{F:SF}{T:aA->aP->Option aP}{fi:AF}{m:Md}
theorem RA (hp:sT (aX X.prog X.w) X.A X.env X.xe)(hc:X.calm=af)(hi:PI X tg az (tI' X.K H0 P0 m fi))(hg:DG X H0 P0 tg T)(hb:gb X H0 P0 n0 body F)
  (hs:∀ x,kP az X.env x=pure x:=by intro _;rfl):DS X H0 P0 n0 (.For tg az body [] pos) (cT m fi T F):=PS.imp (FF hp hc hi hg hb hs) λD Z H gh=>by
 rw[4];obtain⟨ds,e1,ef⟩:=aj ef;refine⟨B0,Y,fp,ds,S,e1,λJ B1 H' S1 xb it=>?_⟩
 refine⟨λi m Z H=>m=ds.length-i/\i<=ds.length/\∃ Y fp,Sta X.K H0 P0 B1 Y Z H fp/\iC F T (ds.drop i) Y=aa o,⟨ds.length,by simp,eA _,Y,fp,S1,by simpa using ef⟩,?_⟩
 rintro i m Z2 H2 ⟨rfl,hi,Y2,b7,S2,e2⟩;have x2:=S2.base.trans Aap;obtain⟨go,st⟩:=it i H2 x2;by_cases br:i<ds.length
 .have hd:=hX br;rw[MF br] at e2;obtain⟨Y3,e3,e2⟩:=aj e2;obtain⟨o3,e4,e2⟩:=aj e2;obtain⟨g1,g2⟩:=go _ hd;refine .inr ⟨g1,λZ' H'=>i+1<=ds.length/\∃ Y fp,Sta X.K H0 P0 B1 Y Z' H' fp/\iC F T (ds.drop (i+1)) Y=aa o,λZ' H' ⟨h1,h2⟩=>⟨ds.length-(i+1),(),rfl,h1,h2⟩,λx H3 y=>?_⟩
  obtain⟨x3,r3⟩:=g2 x H3 y;refine⟨B1,Y2,b7,_,Y3,S2.grow x3,r3 _ S2.hid S2.base,e3,λZ4 vt S4=>⟨B1,Y3,vt,o3,S4,e4,?_⟩⟩
  cases o3 with
  |nx Y5=>exact λZ5 H5 h9 S5=>⟨br,Y5,h9,S5,e2⟩
  |ct Y5=>exact λZ5 H5 h9 S5=>⟨br,Y5,h9,S5,e2⟩
  |bk Y5=>
   cases e2;exact λZ5 H5 h9 S5=>k Z5 H5 h9 (S5.rebase (xb.trans S5.base))
  |rt d=>
   cases e2;exact k
 .have e:i=ds.length:=()
  subst e;rw[ME] at e2;cases e2;exact .inl ⟨st rfl,k Z2 H2 b7 (S2.rebase (xb.trans S2.base))⟩
theorem uE (hp:sT (aX X.prog X.w) X.A X.env X.xe)(hc:X.calm=af)(hi:DI X tg az fi)(hg:DG X H0 P0 tg T)(hb:gb X H0 P0 n0 body F)
  (hs:∀ x,kP az X.env x=pure x:=by intro _;rfl):DS X H0 P0 n0 (.For tg az body [] pos) (cT .s fi T F):=RA hp hc (L0 hi) hg hb hs
theorem Kz (m:Md)(hp:sT (aX X.prog X.w) X.A X.env X.xe)(hc:X.calm=af)(hi:uw X tg az fi)(hg:DG X H0 P0 tg T)(hb:gb X H0 P0 n0 body F)
  (hs:∀ x,kP az X.env x=pure x:=by intro _;rfl):DS X H0 P0 n0 (.For tg az body [] pos) (cT m fi T F):=RA hp hc (Ey m hi) hg hb hs
end
def iu (m:Md)(t:BF)(F:SF):Nat->SF
 |0,_=>ae
 |n+1,Y=>(bV m t Y).bind λb=>if b=af then(F Y).bind λo=>match o with
   |.nx Y'=>iu m t F n Y'
   |.ct Y'=>iu m t F n Y'
   |.bk Y'=>aa (.nx Y')
   |.rt d=>aa (.rt d)
  else aa (.nx Y)
section
variable {body:List dU}{F:SF}{t:BF}
theorem RD (m:Md)(cz:Nat)(hp:sT (aX X.prog X.w) X.A X.env X.xe)(hc:DT X c t)(hb:gb X H0 P0 n0 body F):DS X H0 P0 n0 (.While c body [] pos) (iu m t F cz):=
 PS.imp (Uz hp (sx m hc) hb) λD Z H gh=>by
  rw[4];refine⟨λn Z H=>∃ Y fp,Sta X.K H0 P0 B0 Y Z H fp/\iu m t F n Y=aa o,⟨cz,Y,fp,S,ef⟩,?_⟩
  rintro n Z1 H1 ⟨Y1,j8,S1,e1⟩;cases n with
  |zero=>cases e1
  |succ n=>
   obtain⟨b,e2,e1⟩:=aj e1;refine⟨B0,Y1,j8,b,S1,e2,λH2 S2=>?_⟩
   cases b with
   |false=>
    have:aa (Out.nx Y1)=aa o:=by simpa using e1
    cases this;exact lO (k Z1 H2 j8 S2)
   |true=>
    rw[if_pos rfl] at e1;obtain⟨o3,e4,e1⟩:=aj e1;refine lL ⟨λZ' H'=>∃ Y fp,Sta X.K H0 P0 B0 Y Z' H' fp/\iu m t F n Y=aa o,λZ' H' h=>⟨n,Nat.lt_succ_self n,h⟩,B0,Y1,j8,o3,S2,e4,?_⟩
    cases o3 with
    |nx Y5=>exact λZ5 H5 h9 S5=>⟨Y5,h9,S5,e1⟩
    |ct Y5=>exact λZ5 H5 h9 S5=>⟨Y5,h9,S5,e1⟩
    |bk Y5=>cases e1;exact k
    |rt d=>cases e1;exact k
end
def gg (T:aA->List (Option aA)->Option (List (Option aA)))(t:BF)(f:EF)(Y:List (Option aA)):List aA->Option (List aA)
 |[]=>aa []
 |d::r=>(T d Y).bind λY1=>(t Y1).bind λc=>if c=af then(f Y1).bind λy=>(gg T t f Y r).bind λys=>aa (y::ys) else gg T t f Y r
def fK (cap:List (Option Nat))(Y:List (Option aA)):List (Option aA):=cap.map λo=>o.bind λj=>(Y[j]?).join
def bw (cap:List (Option Nat))(fi:AF)(T:aA->List (Option aA)->Option (List (Option aA)))(t:BF)(f:EF):EF:=λY=>(fi Y).bind λds=>(gg T t f (fK cap Y) ds).bind λys=>if ds.length<=sizeLine then aa (.list ys) else ae
def o4 (K:aK)(T:aA->List (Option aA)->Option (List (Option aA))):TG:=λv Z H Q=>∃ P Y d Y',Hid P H/\Ait K (hid H P) Y Z/\Abj K (hid H P) d v/\T d Y=aa Y'/\∀ Z',Ait K (hid H P) Y' Z'->Q Z' H
def mw (T:aA->List (Option aA)->Option (List (Option aA))):Prop:=∀ d Y Y',T d Y=aa Y'->∀ (i:Nat) d',Y[i]?=aa (aa d')->Y'[i]?=aa (aa d')
def cI:BF:=λ_=>aa af
def gB (j:Nat):aA->List (Option aA)->Option (List (Option aA)):=λd Y=>match Y[j]? with
 |some ae=>aa (Y.set j (aa d))
 |_=>ae
theorem AG{Y':List (Option aA)}(h:gB j d Y=aa Y'):Y[j]?=aa ae/\Y.set j (aa d)=Y':=by
 unfold gB at h;split at h
 .rename_i e;exact⟨e,fH h⟩
 .cases h
def pq (i j:Nat):aA->List (Option aA)->Option (List (Option aA)):=λd Y=>match d with
 |.tuple [a,b]=>(gB i a Y).bind λY'=>gB j b Y'
 |_=>ae
theorem pW:mw (gB j):=λd Y Y' e i d' h=>by
 obtain⟨hj,rfl⟩:=AG e;by_cases q:j=i
 .subst q;rw[hj] at h;cases h
 .rw[iO q];exact h
theorem Ju:mw (pq i j):=λd Y Y' e k d' h=>by
 unfold pq at e;split at e
 .obtain⟨Y1,e1,e2⟩:=aj e;exact pW _ _ _ e2 k d' (pW _ _ _ e1 k d' h)
 .cases e
section
variable {fi:AF}{T:aA->List (Option aA)->Option (List (Option aA))}{t:BF}{f:EF}
theorem wY:qM X [] (i6 X.K cI):=λad s Z H Q I gh=>by
 obtain⟨P,Y,b,hP,rs,ef,k⟩:=gh;cases ef;exact Le ad s Z H Q I (k H Ext.refl)
theorem AR (h:DT X c t):qM X [c] (i6 X.K t):=Mm h
theorem Ait.set{B:Hp}(h:Ait K B Y Z)(r:Abj K B d v)(hl:j<Z.length):Ait K B (Y.set j (aa d)) (Z.set j (aa v)):=λi d' e=>by
 by_cases q:j=i
 .subst q;have hj:j<Y.length:=by
   have:=(cR.1 e).1;simpa using this
  rw[iW hj] at e;cases e;exact⟨v,iW hl,r⟩
 .rw[iO q] at e;obtain⟨w,h1,h2⟩:=h i d' e;exact⟨w,by rw[iO q];exact h1,h2⟩
def uu (X:Cx)(tg:aQ)(T:aA->List (Option aA)->Option (List (Option aA))):Prop:=
 ∀ (ad:List (aC×bI)) (s:aI) (Z:St) (H:Hp) (v:V) (u:aF) (Q:St->Hp->Prop),Inv X ad Z H s->RelV v u->o4 X.K T v Z H Q ->
  aT (aX X.prog X.w) X.A (jZ tg X.env u) (λ_ s'=>∃ Z' H',Inv X ad Z' H' s'/\Q Z' H') X.xe s
theorem uR(hN:X.N.Nodup)(hi:X.N[j]?=aa x)(hx:iQ X.env.scope x)(hf:X.fn x=af\/X.env.scope.names.lookup x=aa .local:=by first|exact .inl rfl|exact .inr rfl|assumption):uu X (.Name x pos) (gB j):=λad s Z H v u Q I r gh=>by
 obtain⟨P,Y,d,Y',hP,rs,rd,ef,k⟩:=gh;obtain⟨hj,rfl⟩:=AG ef;have hl:j<Z.length:=by rw[I.len];exact(cR.1 hi).1
 exact oM hN hi hx hf ad s Z H v u Q I r (k _ (rs.set rd hl))
theorem Vs{p1:bH}{kk}(hc:X.calm=af)(hN:X.N.Nodup)(hi:X.N[i]?=aa x)(hj:X.N[j]?=aa y)(hx:iQ X.env.scope x)(hy:iQ X.env.scope y)
  (hf:X.fn x=af\/X.env.scope.names.lookup x=aa .local:=by first|exact .inl rfl|exact .inr rfl|assumption) (vq:X.fn y=af\/X.env.scope.names.lookup y=aa .local:=by first|exact .inl rfl|exact .inr rfl|assumption)
  (hn:(hJ [.Name x p1,.Name y p2] X.env).length=2:=by rfl) (i7:(hJ [.Name x p1,.Name y p2] X.env).findIdx? (·.1)=ae:=by rfl)
  (h1:(hJ [.Name x p1,.Name y p2] X.env).map (·.2)=jZ (.Name x p1) X.env::(hJ [.Name y p2] X.env).map (·.2):=by rfl) (h2:(hJ [.Name y p2] X.env).map (·.2)=jZ (.Name y p2) X.env::(hJ [] X.env).map (·.2):=by rfl):uu X (.Tuple [.Name x p1,.Name y p2] kk pos) (pq i j):=λad s Z H v u Q I r gh=>by
 obtain⟨P,Y,d,Y',hP,rs,rd,ef,k⟩:=gh;unfold pq at ef;split at ef
 .rename_i a b;obtain⟨Y1,e1,e2⟩:=aj ef;obtain⟨l1,rfl⟩:=AG e1;obtain⟨l2,rfl⟩:=AG e2;obtain⟨p,xs,rfl,hp,rr⟩:=Aar.1 rd;obtain⟨v1,t1,rfl,r1,rr⟩:=Aaf.1 rr;obtain⟨v2,t2,rfl,r2,rr⟩:=Aaf.1 rr;obtain rfl:=Aaj.1 rr;have hl:i<Z.length:=by rw[I.len];exact(cR.1 hi).1
  have vv:j<Z.length:=by rw[I.len];exact(cR.1 hj).1
  exact EX hc (uQ (oM hN hi hx hf) (uQ (oM hN hj hy vq) FR h2) h1) hn i7 ad s Z H _ u Q I r ⟨p,_,rfl,SqT.of (Aap _ _ hp),rfl,v1,_,rfl,v2,_,rfl,rfl,k _ ((rs.set r1 hl).set r2 (by simpa using vv))⟩
 .cases ef
theorem SQ{B:Hp}(h:Ait K B Y Z):Ait K B (fK cap Y) (tL cap Z):=λi d e=>by
 unfold fK at e;unfold tL;rw[gJ] at e ⊢;cases hc:cap[i]? with
 |none=>rw[hc] at e;simp at e
 |some o=>
  rw[hc] at e;cases o with
  |none=>simp at e
  |some j=>
   simp only[CL,bE,Option.some.injEq] at e ⊢;obtain⟨v,h1,h2⟩:=h j d (TB e);exact⟨v,by rw[h1];rfl,h2⟩
theorem OK(hT:mw T):∀ Z H Q,tF K 1 (bw cap fi T t f) Z H Q->yc cap (tI K fi) (o4 K T) (i6 K t) (tF K 0 f) Z H Q:=λZ H Q gh=>by
 rw[5];obtain⟨ds,e1,ef⟩:=aj ef;obtain⟨all,e2,ef⟩:=aj ef;obtain⟨hz,rfl⟩:=cH ef;refine⟨P,Y,ds,hP,rs,e1,λJ H1 x1 it A hA=>?_⟩
 have C7:=(hP.ext x1).new hA;have ia:∀ {H':Hp} {ys:List V},hid (upd H' A (.lst ys)) (bo P [A])=hid H' (bo P [A]):=λ{H' ys}=>by
  funext b;unfold hid;by_cases hb:bo P [A] b
  .rw[if_pos hb,if_pos hb]
  .rw[if_neg hb,if_neg hb];exact bP (λz=>hb (.inr (by simp[z])))
 refine⟨λi m ys Z' H'=>m=ds.length-i/\i<=ds.length/\H' A=aa (.lst ys)/\Ext H1 H'/\Ext (hid H1 P) (hid H' (bo P [A]))/\Ait K (hid H' (bo P [A])) (fK cap Y) Z'/\ys.length<=i /\
  ∃ done rest,Aao K (hid H' (bo P [A])) done ys/\gg T t f (fK cap Y) (ds.drop i)=aa rest/\all=done++rest,⟨ds.length,?_⟩,?_⟩
 .have xa:Ext (hid H1 P) (hid (upd H1 A (.lst [])) (bo P [A])):=λb o e=>by
   obtain⟨nb,e⟩:=Abb.1 e;have hb:=gQ e hA;exact dS (λz=>z.elim nb λm=>hb (by simpa using m)) (by rw[bP hb];exact e)
  exact⟨by simp,eA _,cN,Ext.new hA,xa,(SQ (rs.ext (cG x1))).ext xa,eA _,[],all,Aaj.2 rfl,by simpa using e2,rfl⟩
 .rintro i m ys Z' H' ⟨rfl,hi,hD,x2,xb,vw,hl,done,rest,rd,e3,rfl⟩;refine⟨hD,?_⟩;obtain⟨go,st⟩:=it i H' (Aap.trans x2);have dr:Hid (bo P [A]) H':=λa h=>by
   rcases h with h|h
   .exact(hP.ext (x1.trans x2)) a h
   .have:a=A:=by simpa using h
    subst this;exact .inl ⟨_,hD⟩
  by_cases br:i<ds.length
  .have hd:=hX br;rw[MF br] at e3;obtain⟨Y1,e4,e3⟩:=aj e3;obtain⟨c,e5,e3⟩:=aj e3;obtain⟨g1,g2⟩:=go _ hd;refine .inr ⟨g1,(),λys Z' H'=>i+1<=ds.length/\H' A=aa (.lst ys)/\Ext H1 H'/\Ext (hid H1 P) (hid H' (bo P [A]))/\Ait K (hid H' (bo P [A])) (fK cap Y) Z'/\ys.length<=i+1 /\
    ∃ d2 r2,Aao K (hid H' (bo P [A])) d2 ys/\gg T t f (fK cap Y) (ds.drop (i+1))=aa r2/\done++rest=d2++r2,λzs Z2 H2 h=>⟨ds.length-(i+1),(),rfl,h⟩,λx H2 y=>?_⟩
   obtain⟨x3,r3⟩:=g2 x H2 y;refine⟨bo P [A],fK cap Y,_,Y1,dr.ext x3,vw.ext (cG x3),r3 _ dr xb,e4,λZ3 ni=>?_⟩
   refine⟨bo P [A],Y1,c,dr.ext x3,ni,e5,λH4 x4=>?_⟩
   have qv:Ait K (hid H2 (bo P [A])) (fK cap Y) Z3:=λj d' e=>ni j d' (hT _ _ _ e4 j d' e)
   cases c with
   |false=>
    rw[if_neg kE] at e3;refine lO ⟨br,x4 _ _ (x3 _ _ hD),x2.trans (x3.trans x4),xb.trans (cG (x3.trans x4)),qv.ext (cG x4),(),done,rest,rd.ext (cG (x3.trans x4)),e3,rfl⟩
   |true=>
    rw[if_pos rfl] at e3;obtain⟨yd,e6,e3⟩:=aj e3;obtain⟨r2,e7,e3⟩:=aj e3;cases e3;refine lL ⟨bo P [A],Y1,yd,dr.ext (x3.trans x4),ni.ext (cG x4),e6,dP λv H5 x5 r5=>⟨x5 _ _ (x4 _ _ (x3 _ _ hD)),br,cN,?_,?_,?_,by simp;lia,done++[yd],r2,?_,e7,by simp⟩⟩
    .intro b o e;rw[bP (gQ e hA)];exact x5 _ _ (x4 _ _ (x3 _ _ (x2 _ _ e)))
    .rw[ia];exact xb.trans (cG (x3.trans (x4.trans x5)))
    .rw[ia];exact qv.ext (cG (x4.trans x5))
    .rw[ia];exact(rd.ext (cG (x3.trans (x4.trans x5)))).snoc r5
  .have e:i=ds.length:=()
   subst e;rw[ME] at e3;cases e3;rw[jJ] at k;refine .inl ⟨st rfl,?_⟩;refine k (.ref A) H' [A] (x1.trans x2) (gC.2 ⟨by simp,.nil⟩) (λa m=>?_) ⟨A,ys,ys.map λ_=>[],rfl,hD,?_,?_⟩
   .have:a=A:=by simpa using m
    subst this;exact⟨x1.none hA,_,hD⟩
   .have:∀ l:List V,(l.map λ_=>([]:List aC)).flatten=[]:=λl=>by
     induction l with
     |nil=>rfl
     |cons a l ih=>rw[cY,iL,ih];rfl
    rw[this]
   .have go:∀ (ds:List aA) (xs:List V),Aao K (hid H' (bo P [A])) ds xs->All3 (Ac6 K (hid H' (bo P [A])) H' 0) ds xs (xs.map λ_=>[]):=by
     intro ds;induction ds with
     |nil=>intro xs r;rw[Aaj.1 r];exact .nil
     |cons d ds ih=>
      intro xs r;obtain⟨y,t,rfl,h1,h2⟩:=Aaf.1 r;exact .cons ⟨rfl,h1⟩ (ih t h2)
    exact go _ _ rd
def FK (X:Cx)(N:List aE)(sc:gA)(tg c8:aQ)(cy:List aQ)(T:aA->List (Option aA)->Option (List (Option aA)))(t:BF)(f:EF):Prop:=
 ∀ (cl:List (aE×aC)) (C:aC) (s₀:aI) (H₀:Hp) (ex:List aC),uu (fE X N sc cl C s₀ H₀ ex) tg T/\qM (fE X N sc cl C s₀ H₀ ex) cy (i6 X.K t)/\DE (fE X N sc cl C s₀ H₀ ex) c8 f
theorem NW (hc:X.calm=af)(S:CompScope X N cap sc)(hT:mw T)(hi:DI X tg az fi)(hb:FK X N sc tg c8 cy T t f)(hs:∀ x,kP az X.env x=pure x:=by intro _;rfl) :
  DF 1 X (.ListComp c8 [⟨tg,az,cy,0⟩] sc pos) (bw cap fi T t f):=PE.imp (JW hc S hi (g:=o4 X.K T) (tc:=i6 X.K t) (te:=tF X.K 0 f) hb hs) (OK hT)
theorem HU(m:Md)(hc:X.calm=af)(hN:X.N.Nodup)(lx:X.N[i]?=aa x)(hx:iQ X.env.scope x)(S:CompScope X N cap sc)(hT:mw T)(hi:DI X tg az fi)(hb:FK X N sc tg c8 cy T t f)
  (fg:iG (.ListComp c8 [⟨tg,az,cy,0⟩] sc pos) (aa (.Name x px)) ca.line X.env=pure af:=by rfl)
  (hs:∀ x,kP az X.env x=pure x:=by intro _;rfl) (hf:X.fn x=af\/X.env.scope.names.lookup x=aa .local:=by first|exact .inl rfl|exact .inr rfl|assumption) :
  DS X H0 P0 n0 (.Assign [.Name x px] (.ListComp c8 [⟨tg,az,cy,0⟩] sc pos) ca) (bC i 1 m (bw cap fi T t f)):=PS.imp (RW hc hN lx hx S hi (g:=o4 X.K T) (tc:=i6 X.K t) (te:=tF X.K 0 f) hb fg hs hf) λD Z H gh=>by
 rw[4];obtain⟨d,e1,ef⟩:=aj ef;obtain⟨hl,rfl⟩:=cH ef;refine OK hT Z H _ (NK m Z H _ ⟨B0,Y,fp,d,S,e1,λv H' t=>?_⟩)
 obtain⟨bg,S'⟩:=t.set hl;exact k _ _ bg S'
end
def outD:Option Out->Option aA
 |some (.rt d)=>aa d
 |some (.nx _)=>aa .none
 |_=>ae
def bx (np n:Nat)(body:SF):List aA->Option aA:=λds=>if ds.length=np then outD (body (ds.map (λd=>aa (0,d))++mL (n-np) ae)) else ae
def tp (K:aK)(n0:Nat)(F:List aA->Option aA):Sp:=λvs H Q _=>∃ P ds d,Hid P H/\Aao K (hid H P) ds vs/\F ds=aa d/\Res K P n0 d H Q
section
variable {P:bN}{base:aU}
theorem OI{k np:Nat}{body:SF}(F:Fun K x qual st f fd)(S:FnScope N ps (dI st))(vx:np=ps.length)(hN:ps.length<=N.length)
  (hb:∀ (bz:aF) (A:cE) (outer:List eQ) (s:aI) (H:Hp) (E:XK) (P0:aC->Prop),Room k (A.deeper (envOfC qual (dI st) s.heap.objs.size f bz))->gb (nF jc P w K mg base N qual (dI st) f bz A outer s H E).nox H P0 n0 (mW st) body) :
  FnOk P w K mg base jc (k+1) f fd ps (tp K n0 (bx np N.length body)):=by
 refine F.ok S (λvs H Q E h=>?_) (λbz A outer s H vs Q E hr h=>?_)
 .obtain⟨P,ds,d,_,r,ef,_⟩:=h;unfold bx at ef;by_cases hl:ds.length=np
  .rw[r.length,hl,vx]
  .rw[if_neg hl] at ef;cases ef
 .obtain⟨P0,ds,d,hP,r,ef,k⟩:=h;refine⟨_,hb bz A outer s H E P0 hr,?_⟩;unfold bx at ef;by_cases hl:ds.length=np
  case neg=>rw[if_neg hl] at ef;cases ef
  rw[if_pos hl] at ef;rw[<-hl] at ef;have bh:=r.length;have S0:Sta K H P0 (hid H P0) (ds.map (λd=>aa (0,d))++mL (N.length-ds.length) ae) (start N vs) H (λ_=>[]):=by
   have eH:Hd P0 (λ_=>[])=P0:=by
    funext a;simp[Hd]
   refine⟨by simp[start,bh],λ_=>.nil,λi j a h=>by simp at h,λi a h=>by simp at h,Ext.refl,hP,by rw[eH];exact Ext.refl,λi n' d' e=>?_⟩
   rw[eH];by_cases hi:i<ds.length
   .rw[Yz (by simpa using hi),gJ] at e
    cases q:ds[i]? with
    |none=>rw[q] at e;simp at e
    |some d2=>
     rw[q] at e;have e':0=n'/\d2=d':=by simpa using e
     obtain⟨rfl,rfl⟩:=e';obtain⟨v,h1,h2⟩:=r.get q;refine⟨v,?_,rfl,h2⟩;unfold start;rw[Yz (by rw[cD,bh];exact hi),gJ,h1]
     rfl
   .rw[List.getElem?_append_right (by simpa using hi)] at e
    have:=fC e;simp at this
  cases eb:body (ds.map (λd=>aa (0,d))++mL (N.length-ds.length) ae) with
  |none=>rw[eb] at ef;cases ef
  |some o=>
   rw[eb] at ef;refine⟨_,_,_,o,S0,eb,?_⟩;cases o with
   |rt d'=>
    cases ef;exact λv H' ⟨Fr,h1,h2,h3,h4⟩=>k v H' Fr h1 h2 h3 h4
   |nx Y'=>
    cases ef;intro Z' H' bg S';refine k .non H' [] S'.ext .nil (λa m=>by simp at m) ?_
    cases n0 with
    |zero=>exact⟨rfl,Abp.2 rfl⟩
    |succ n=>
     unfold Aej;split
     .exact .inl ⟨rfl,rfl,rfl⟩
     .split
      .exact .inl ⟨rfl,rfl,rfl⟩
      .exact⟨rfl,Abp.2 rfl⟩
   |bk _=>cases ef
   |ct _=>cases ef
variable {k np:Nat}{F:List aA->Option aA}{fa:AF}
theorem wB (D:Def X.prog X.w X.K X.mg X.base x k ps (tp X.K n0 F))(hr:Room k X.A)(hg:Gl X x)(ha:DA X (e::es) fa)(gn:(x==("__debug__" : aE))=ag:=by decide)(he:cC (e::es) X.env=(ag,bZ e X.env)::cC es X.env:=by rfl)
  (fu:(jG pos (cC es X.env)).any (·.1)=ag:=by rfl):DF n0 X (.Call (.Name x p) (e::es) [] pos) (aM F fa):=
 PE.imp (ZU D hr hg ha gn he fu) λZ H Q gh=>by
  rw[5];obtain⟨ds,e1,ef⟩:=aj ef;refine⟨P,Y,ds,hP,rs,e1,λvs H1 x1 r1=>?_⟩
  show tp X.K n0 F (vs++[]) H1 Q E0;rw[jJ];exact⟨P,ds,d,hP.ext x1,r1,ef,k.mono x1⟩
end
def m4 (g:Int->Int->aA):aA->aA->Option aA
 |.int i,.int j=>aa (g i j)
 |_,_=>ae
def kh (C:Int->Int->Prop)[∀ i j,Decidable (C i j)](g:Int->Int->aA):aA->aA->Option aA
 |.int i,.int j=>if C i j then aa (g i j) else ae
 |_,_=>ae
theorem ZP {g:Int->Int->V}{gd:Int->Int->aA}(h:∀ i j H,Abj K H (gd i j) (g i j)):OpD K 0 (km g) (m4 gd):=λP H x y a b d Q hP ra rb e k=>by
 unfold m4 at e;split at e
 .rename_i i j;cases e;exact⟨i,j,Aal.1 ra,Aal.1 rb,k.zero Ext.refl (h i j _)⟩
 .cases e
theorem vZ {C C':Int->Int->Prop}[∀ i j,Decidable (C' i j)]{g:Int->Int->V}{gd:Int->Int->aA}(hC:∀ i j,C' i j->C i j)(h:∀ i j H,Abj K H (gd i j) (g i j)):OpD K 0 (rI C g) (kh C' gd):=λP H x y a b d Q hP ra rb e k=>by
 unfold kh at e;split at e
 .rename_i i j;obtain⟨hc,rfl⟩:=cH e;exact⟨i,j,Aal.1 ra,Aal.1 rb,hC i j hc,k.zero Ext.refl (h i j _)⟩
 .cases e
section
variable {a:aQ}{fa fb fc:EF}
def mS:aA->aA->Option aA:=m4 λi j=>.int (i-j)
theorem Jy (ha:DE X a fa)(hb:DE X b fb):DE X (.BinOp a .Sub b pos) (ah mS fa fb):=nZ Gz (ZP λ_ _ _=>Aal.2 rfl) ha hb
def gF:aA->aA->Option aA:=kh (λi j=>(i.natAbs<2^64\/j.natAbs<2^64)\/(i.natAbs<2^1000/\j.natAbs<2^1000)) λi j=>.int (i*j)
theorem VO:OpR X (jQ .Mult) (rI (λi j=>(i.natAbs<2^64\/j.natAbs<2^64)\/(i.natAbs<2^1000/\j.natAbs<2^1000)) λi j=>.int (i*j)):=by
 rw[3];obtain⟨i,j,ex,ey,hc,q⟩:=h;rcases hc with hc|hc
 .refine Ig ad s Z H x y v u Q I rx ry ⟨i,j,ex,ey,?_,q⟩;rcases hc with hc|hc
  .exact .inl ⟨(),()⟩
  .exact .inr ⟨(),()⟩
 .exact Kq ad s Z H x y v u Q I rx ry ⟨i,j,ex,ey,hc,q⟩
theorem Jv (ha:DE X a fa)(hb:DE X b fb):DE X (.BinOp a .Mult b pos) (ah gF fa fb):=nZ VO (vZ (λ_ _ h=>h) λ_ _ _=>Aal.2 rfl) ha hb
def dY:aA->aA->Option aA:=kh (λ_ j=>0<j/\j<1073741824) λi j=>.int (i/j)
theorem Uj (ha:DE X a fa)(hb:DE X b fb):DE X (.BinOp a .FloorDiv b pos) (ah dY fa fb):=nZ My (vZ (λ_ _ h=>h) λ_ _ _=>Aal.2 rfl) ha hb
def cJ:aA->aA->Option aA:=kh (λ_ j=>0<j) λi j=>.int (i%j)
theorem Ib (ha:DE X a fa)(hb:DE X b fb):DE X (.BinOp a .Mod b pos) (ah cJ fa fb):=nZ Jn (vZ (λ_ _ h=>h) λ_ _ _=>Aal.2 rfl) ha hb
def tQ:aA->aA->Option aA:=kh (λi j=>0<=j/\j<=1000000/\i.natAbs<2^64) λi j=>.int (i^j.toNat)
theorem YX (ha:DE X a fa)(hb:DE X b fb):DE X (.BinOp a .Pow b pos) (ah tQ fa fb):=nZ Ie (vZ (λ_ _ h=>h) λ_ _ _=>Aal.2 rfl) ha hb
theorem Qg(hx:cF (.str x)=af)(hy:cF (.str y)=af):cF (.str (x++y))=af:=by
 have e:(x++y).cps=x.cps++y.cps:=rfl;simp only[cF,PyData.strOk] at hx hy ⊢;rw[e,Array.all_append,hx,hy]
 rfl
def dE:aA->aA->Option aA
 |.int i,.int j=>aa (.int (i+j))
 |.str x,.str y=>if x.length+y.length<=sizeLine then aa (.str (x++y)) else ae
 |.tuple (x::xs),.tuple ys=>if (x::xs).length+ys.length<=sizeLine then aa (.tuple ((x::xs)++ys)) else ae
 |_,_=>ae
theorem Mg:OpD K 0 (λx y H Q=>km (λi j=>.int (i+j)) x y H Q\/(∃ i j,x=.str i/\y=.str j/\i.length+j.length<=sizeLine/\Q (.str (i++j)) H)\/EG K x y H Q) dE:=λP H x y a b d Q hP ra rb e k=>by
 unfold dE at e;split at e
 .rename_i i j;cases e;exact .inl ⟨i,j,Aal.1 ra,Aal.1 rb,k.zero Ext.refl (Aal.2 rfl)⟩
 .rename_i i j;obtain⟨hc,rfl⟩:=cH e;exact .inr (.inl ⟨i,j,(Aa9.1 ra).1,(Aa9.1 rb).1,hc,k.zero Ext.refl (Aa9.2 ⟨rfl,Qg (Aa9.1 ra).2 (Aa9.1 rb).2⟩)⟩)
 .rename_i z zs ys;obtain⟨hc,rfl⟩:=cH e;obtain⟨p,us,rfl,hp,r1⟩:=Aar.1 ra;obtain⟨q,ws,rfl,hq,r2⟩:=Aar.1 rb;have l1:=r1.length;have l2:=r2.length;refine .inr (.inr ⟨p,q,us,ws,rfl,rfl,SqT.of (Aap _ _ hp),SqT.of (Aap _ _ hq),λz=>by rw[z] at l1;simp at l1,by rw[l1,l2];exact hc,λz=>?_,λz r hr=>?_⟩)
  .subst z;have:ys=[]:=by simpa using l2.symm
   subst this;refine k.zero Ext.refl ?_;rw[jJ];exact ra
  .exact k.tup hP hr (r1.append r2)
 .cases e
theorem Hg (ha:DE X a fa)(hb:DE X b fb):DE X (.BinOp a .Add b pos) (ah dE fa fb):=nZ (Bd5.or (Awc.or A0x)) Mg ha hb
mutual
def noDict:aA->Bool
 |.dict _=>ag
 |.list ds=>noDicts ds
 |.tuple ds=>noDicts ds
 |_=>af
def noDicts:List aA->Bool
 |[]=>af
 |d::r=>noDict d&&noDicts r
end
mutual
theorem kM {X:Cx}(I:Inv X ad Z H s):∀ {d:aA} {v:V} {u:aF},noDict d=af->Abj X.K H d v->RelV v u->d.canLay0=af/\∃ as,pE s.heap u d as
 |.none,v,u,_,h,r=>by
  obtain rfl:=Abp.1 h;cases r;exact⟨by simp[cF],_,.none⟩
 |.bool b,v,u,_,h,r=>by
  obtain rfl:=Aaz.1 h;cases r;exact⟨by simp[cF],_,.bool b⟩
 |.int i,v,u,_,h,r=>by
  obtain rfl:=Aal.1 h;obtain⟨t,rfl⟩:=r;exact⟨by simp[cF],_,.int i t⟩
 |.str x,v,u,_,h,r=>by
  obtain⟨rfl,hl⟩:=Aa9.1 h;obtain⟨t,rfl⟩:=r;exact⟨hl,_,.str x t⟩
 |.list ds,v,u,n,h,r=>by
  obtain⟨a,xs,rfl,hs,hr⟩:=Abe.1 h;cases r;obtain⟨its,rv,⟨o,m,e,hc,_,hd⟩,_⟩:=I.list hs;obtain⟨hl,as,ha⟩:=JA I (by simpa [noDict] using n) hr rv
  exact⟨by simpa [cF] using hl,_,.list e hc hd (by simpa using ha)⟩
 |.tuple ds,v,u,n,h,r=>by
  obtain⟨a,xs,rfl,hs,hr⟩:=Aar.1 h;cases r;obtain⟨its,rv,⟨o,e,hc,m,hd⟩,_⟩:=I.tuple (SqT.of hs);obtain⟨hl,as,ha⟩:=JA I (by simpa [noDict] using n) hr rv
  exact⟨by simpa [cF] using hl,_,.tuple e hc hd (by simpa using ha)⟩
 |.dict _,_,_,n,h,_=>by simp[noDict] at n
theorem JA {X:Cx}(I:Inv X ad Z H s):∀ {ds:List aA} {vs:List V} {us:List aF},noDicts ds=af->Aao X.K H ds vs->Vals vs us->yF ds=af/\∃ as,pD s.heap us ds as
 |[],vs,us,_,h,r=>by
  obtain rfl:=Aaj.1 h;cases r;exact⟨by simp[yF],_,.nil⟩
 |d::ds,vs,us,n,h,r=>by
  have n':noDict d=af/\noDicts ds=af:=by simpa [noDicts] using n
  obtain⟨x,rr,rfl,h1,h2⟩:=Aaf.1 h;cases r with
  |cons r1 r2=>
   obtain⟨l1,as,ha⟩:=kM I n'.1 h1 r1;obtain⟨l2,bs,hb⟩:=JA I n'.2 h2 r2;exact⟨by simp[yF,l1,l2],_,.cons ha hb⟩
end
def cS (d:aA):Bool:=noDict d&&decide (d.depth<=60)
def ck:aA->aA->Option aA:=λa b=>if (cS a&&cS b)=af then aa (.bool (bU a b)) else ae
def cn:aA->aA->Option aA:=λa b=>if (cS a&&cS b)=af then aa (.bool (!bU a b)) else ae
def vR (K:aK)(neg:Bool):R2:=λx y H Q=>∃ da db,Abj K H da x/\Abj K H db y/\cS da=af/\cS db=af/\Q (.bl (neg != bU da db)) H
theorem Jz (hu:X.A.units+100<cLine):OpR X (iH .Eq) (vR X.K ag):=by
 rw[3];obtain⟨da,db,ra,rb,fa,fb,q⟩:=h;have j9:noDict da=af/\da.depth<=60:=by simpa [cS] using fa
 have vy:noDict db=af/\db.depth<=60:=by simpa [cS] using fb
 obtain⟨la,as,ra⟩:=kM I j9.1 ra rx;obtain⟨lb,bs,rb⟩:=kM I vy.1 rb ry;exact SeqAt.compareEq_reads ra rb la lb () ⟨.bl _,H,I,rfl,by simpa using q⟩
theorem Ab (hu:X.A.units+100<cLine):OpR X (iH .NotEq) (vR X.K af):=by
 rw[3];obtain⟨da,db,ra,rb,fa,fb,q⟩:=h;have j9:noDict da=af/\da.depth<=60:=by simpa [cS] using fa
 have vy:noDict db=af/\db.depth<=60:=by simpa [cS] using fb
 obtain⟨la,as,ra⟩:=kM I j9.1 ra rx;obtain⟨lb,bs,rb⟩:=kM I vy.1 rb ry;exact SeqAt.compareNe_reads ra rb la lb () ⟨.bl _,H,I,rfl,by simpa using q⟩
theorem Hu:OpD K 0 (vR K ag) ck:=λP H x y a b d Q hP ra rb e k=>by
 obtain⟨hc,rfl⟩:=cH e;have de:cS a=af/\cS b=af:=by simpa using hc
 exact⟨a,b,ra.ext Aap,rb.ext Aap,de.1,de.2,k.zero Ext.refl (Aaz.2 (by simp))⟩
theorem Ht:OpD K 0 (vR K af) cn:=λP H x y a b d Q hP ra rb e k=>by
 obtain⟨hc,rfl⟩:=cH e;have de:cS a=af/\cS b=af:=by simpa using hc
 exact⟨a,b,ra.ext Aap,rb.ext Aap,de.1,de.2,k.zero Ext.refl (Aaz.2 (by simp))⟩
def ED (K:aK)(neg:Bool):R2:=λx y H Q=>∃ d ds,Abj K H d x/\(Abj K H (.list ds) y\/Abj K H (.tuple ds) y)/\cS d=af/\noDicts ds=af/\Q (.bl (neg != ds.any λz=>bU z d)) H
theorem Hb (hu:X.A.units+100<cLine):OpR X (iH .In) (ED X.K ag):=by
 rw[3];obtain⟨d,ds,ra,rb,fa,fb,q⟩:=h;have j9:noDict d=af/\d.depth<=60:=by simpa [cS] using fa
 obtain⟨la,as,ra⟩:=kM I j9.1 ra rx;rcases rb with rb|rb
 .obtain⟨lb,bs,rb⟩:=kM I (by simpa [noDict] using fb) rb ry
  exact SeqAt.in_list_reads rb ra (by simpa [cF] using lb) la () ⟨.bl _,H,I,rfl,by simpa using q⟩
 .obtain⟨lb,bs,rb⟩:=kM I (by simpa [noDict] using fb) rb ry
  exact SeqAt.in_tuple_reads rb ra (by simpa [cF] using lb) la () ⟨.bl _,H,I,rfl,by simpa using q⟩
theorem SY (hu:X.A.units+100<cLine):OpR X (iH .NotIn) (ED X.K af):=by
 rw[3];obtain⟨d,ds,ra,rb,fa,fb,q⟩:=h;have j9:noDict d=af/\d.depth<=60:=by simpa [cS] using fa
 obtain⟨la,as,ra⟩:=kM I j9.1 ra rx;rcases rb with rb|rb
 .obtain⟨lb,bs,rb⟩:=kM I (by simpa [noDict] using fb) rb ry
  exact SeqAt.notIn_list_reads rb ra (by simpa [cF] using lb) la () ⟨.bl _,H,I,rfl,by simpa using q⟩
 .obtain⟨lb,bs,rb⟩:=kM I (by simpa [noDict] using fb) rb ry
  exact SeqAt.notIn_tuple_reads rb ra (by simpa [cF] using lb) la () ⟨.bl _,H,I,rfl,by simpa using q⟩
end
theorem PE.or{t t':TE}(h:PE X e t)(h':PE X e t'):PE X e (λZ H Q=>t Z H Q\/t' Z H Q):=λad s Z H Q I q=>q.elim (h ad s Z H Q I) (h' ad s Z H Q I)
def je:aA->aA->Option aA
 |.int i,.int j=>aa (.bool (decide (i<j)))
 |.str i,.str j=>aa (.bool (decide (i.cps.toList<j.cps.toList)))
 |_,_=>ae
def A4:aA->aA->Option aA
 |.int i,.int j=>aa (.bool (decide (i<=j)))
 |.str i,.str j=>aa (.bool (!(decide (j.cps.toList<i.cps.toList))))
 |_,_=>ae
def fy:aA->aA->Option aA:=m4 λi j=>.bool (decide (j<i))
def A3:aA->aA->Option aA:=m4 λi j=>.bool (decide (j<=i))
theorem Gu:OpD K 0 (λx y H Q=>km (λi j=>.bl (decide (i<j))) x y H Q\/∃ i j,x=.str i/\y=.str j/\Q (.bl (decide (i.cps.toList<j.cps.toList))) H) je:=λP H x y a b d Q hP ra rb e k=>by
 unfold je at e;split at e
 .cases e;exact .inl ⟨_,_,Aal.1 ra,Aal.1 rb,k.zero Ext.refl (Aaz.2 rfl)⟩
 .cases e;exact .inr ⟨_,_,(Aa9.1 ra).1,(Aa9.1 rb).1,k.zero Ext.refl (Aaz.2 rfl)⟩
 .cases e
theorem FD:OpD K 0 (km λi j=>.bl (decide (j<i))) fy:=ZP λ_ _ _=>Aaz.2 rfl
def qY:aA->aA->Option aA
 |.none,.none=>aa (.bool af)
 |_,.none=>aa (.bool ag)
 |_,_=>ae
def gW:aA->aA->Option aA
 |.none,.none=>aa (.bool ag)
 |_,.none=>aa (.bool af)
 |_,_=>ae
theorem UA{a:aA}{x:V}(r:Abj K H a x):decide (x=.non)=(match a with|.none=>af|_=>ag):=by
 cases a with
 |none=>obtain rfl:=Abp.1 r;rfl
 |bool b=>obtain rfl:=Aaz.1 r;rfl
 |int b=>obtain rfl:=Aal.1 r;rfl
 |str b=>obtain⟨rfl,_⟩:=Aa9.1 r;rfl
 |list b=>obtain⟨_,_,rfl,_⟩:=Abe.1 r;rfl
 |tuple b=>obtain⟨_,_,rfl,_⟩:=Aar.1 r;rfl
 |dict b=>obtain⟨_,rfl,_⟩:=Acv.1 r;rfl
theorem GO:OpD K 0 (λx y H Q=>y=.non/\Q (.bl (decide (x=.non))) H) qY:=λP H x y a b d Q hP ra rb e k=>by
 have q:=UA ra;unfold qY at e;split at e
 .cases e;exact⟨Abp.1 rb,k.zero Ext.refl (Aaz.2 (by rw[q]))⟩
 .rename_i h;cases e;refine⟨Abp.1 rb,k.zero Ext.refl (Aaz.2 ?_)⟩;rw[q];cases a<;>first|rfl|exact(h rfl).elim
 .cases e
theorem SW:OpD K 0 (λx y H Q=>y=.non/\Q (.bl (!decide (x=.non))) H) gW:=λP H x y a b d Q hP ra rb e k=>by
 have q:=UA ra;unfold gW at e;split at e
 .cases e;exact⟨Abp.1 rb,k.zero Ext.refl (Aaz.2 (by rw[q];rfl))⟩
 .rename_i h;cases e;refine⟨Abp.1 rb,k.zero Ext.refl (Aaz.2 ?_)⟩;rw[q];cases a<;>first|rfl|exact(h rfl).elim
 .cases e
noncomputable def bK:aA->Option aG
 |.int i=>aa (.inl i)
 |.str x=>aa (.inr x)
 |_=>ae
theorem qI{k:aG}(h:bK d=aa k):d=kD k:=by
 cases d<;>simp[bK] at h<;>subst h<;>rfl
noncomputable def bQ (kds:List (aA×aA))(k:aG):Option aA:=(kds.find? λkd=>decide (bK kd.1=aa k)).map (·.2)
theorem iF (k:aG):bK (kD k)=aa k:=by cases k<;>rfl
theorem sI{k:aG}:∀ {kds:List (aA×aA)} {kvs:List (aG×V)},Abr K H kds kvs->(bQ kds k=ae/\dF kvs k=ae)\/∃ d v,bQ kds k=aa d/\dF kvs k=aa v/\Abj K H d v
 |[],kvs,h=>by rw[Abn.1 h];exact .inl ⟨rfl,rfl⟩
 |(k0,d)::r,kvs,h=>by
  obtain⟨k',x,rr,rfl,rfl,h1,h2⟩:=Aa6.1 h;by_cases e:k'=k
  .refine .inr ⟨d,x,?_,jU e,h1⟩;simp[bQ,gD,iF,e]
  .have e1:bQ ((kD k',d)::r) k=bQ r k:=by simp[bQ,gD,iF,e]
   rw[e1,jN e];exact sI h2
theorem XH{k:aG}:∀ {kds:List (aA×aA)} {kvs:List (List aA×V)},Acd K H kds kvs->bQ kds k=ae
 |[],kvs,h=>rfl
 |(k0,d)::r,kvs,h=>by
  obtain⟨k',x,rr,rfl,⟨rfl,_⟩,h1,h2⟩:=Ab3.1 h;have e1:bQ ((.tuple k',d)::r) k=bQ r k:=by simp[bQ,gD,bK]
  rw[e1];exact XH h2
theorem Vo{k:aG}(h:Abj K H (.dict kds) v)(e:bQ kds k=aa d):∃ a,∃ kvs:Nat×List (aG×V),v=.ref a/\H a=aa (.dK kvs.1 kvs.2)/\Abr K H kds kvs.2:=by
 obtain⟨a,ev,⟨kvs,h1,r⟩|⟨ts,h1,r⟩|⟨xs,h1,r⟩⟩:=Acv.1 h
 case inr.inr=>
  obtain⟨es,rfl,_⟩:=IJ r;cases e
 .exact⟨a,kvs,ev,h1,r⟩
 .cases kds with
  |nil=>simp[Awg] at r
  |cons p q=>
   obtain⟨k0,m⟩:=p;obtain⟨rfl,r2⟩:=Adz.1 r;have e1:bQ ((.none,m)::q) k=bQ q k:=by simp[bQ,gD,bK]
   rw[e1,XH r2] at e;cases e
def kG (kds:List (aA×aA))(k:List aA):Option aA:=(kds.find? λkd=>bU kd.1 (.tuple k)).map (·.2)
theorem PB (a b:List aA):bU (.tuple a) (.tuple b)=mH a b:=by simp[bU]
theorem WK {a k:List aA}{r:List (aA×aA)}(ha:bY a=af)(hk:bY k=af):kG ((.tuple a,d)::r) k=if a=k then aa d else kG r k:=by
 have e:bU (.tuple a) (.tuple k)=decide (a=k):=by rw[PB,xN _ _ ha hk]
 unfold kG;rw[gD,e];by_cases h:a=k
 .rw[if_pos h,decide_eq_true h];rfl
 .rw[if_neg h,decide_eq_false h]
theorem IC{k:List aA}(hk:bY k=af):∀ {kds:List (aA×aA)} {kvs:List (List aA×V)},Acd K H kds kvs->(kG kds k=ae/\dF kvs k=ae)\/∃ d v,kG kds k=aa d/\dF kvs k=aa v/\Abj K H d v
 |[],kvs,h=>by rw[Ac8.1 h];exact .inl ⟨rfl,rfl⟩
 |(k0,d)::r,kvs,h=>by
  obtain⟨k',x,rr,rfl,⟨rfl,fq⟩,h1,h2⟩:=Ab3.1 h;rw[WK fq hk];by_cases e:k'=k
  .rw[if_pos e];exact .inr ⟨d,x,rfl,jU e,h1⟩
  .rw[if_neg e,jN e];exact IC hk h2
noncomputable def putD (kds:List (aA×aA))(k:aG)(d:aA):List (aA×aA):=
 if (kds.any λkd=>decide (bK kd.1=aa k))=af then kds.map λkd=>if bK kd.1=aa k then(kd.1,d) else kd else kds++[(kD k,d)]
theorem PC{k:aG}:∀ {kds:List (aA×aA)} {kvs:List (aG×V)},Abr K H kds kvs->(kds.any λkd=>decide (bK kd.1=aa k))=kvs.any λkv=>decide (kv.1=k)
 |[],kvs,h=>by rw[Abn.1 h];rfl
 |(k0,d)::r,kvs,h=>by
  obtain⟨k',x,rr,rfl,rfl,h1,h2⟩:=Aa6.1 h;rw[qS,qS,PC h2,iF];simp
theorem HW{k:aG}(rv:Abj K H d v):∀ {kds:List (aA×aA)} {kvs:List (aG×V)},Abr K H kds kvs ->
  Abr K H (kds.map λkd=>if bK kd.1=aa k then(kd.1,d) else kd) (kvs.map λkv=>if kv.1=k then(kv.1,v) else kv)
 |[],kvs,h=>by rw[Abn.1 h];exact Abn.2 rfl
 |(k0,d0)::r,kvs,h=>by
  obtain⟨k',x,rr,rfl,rfl,h1,h2⟩:=Aa6.1 h;rw[cY,cY];by_cases e:k'=k
  .rw[if_pos (show bK (kD k',d0).1=aa k by rw[iF,e]),if_pos (show(k',x).1=k from e)]
   exact Aa6.2 ⟨k',v,_,rfl,rfl,rv,HW rv h2⟩
  .rw[if_neg (show ¬ bK (kD k',d0).1=aa k by rw[iF];simpa using e),if_neg (show ¬ (k',x).1=k from e)]
   exact Aa6.2 ⟨k',x,_,rfl,rfl,h1,HW rv h2⟩
theorem Abr.snoc{k:aG}(rv:Abj K H d v):∀ {kds:List (aA×aA)} {kvs:List (aG×V)},Abr K H kds kvs->Abr K H (kds++[(kD k,d)]) (kvs++[(k,v)])
 |[],kvs,h=>by rw[Abn.1 h];exact Aa6.2 ⟨k,v,[],rfl,rfl,rv,Abn.2 rfl⟩
 |(k0,d0)::r,kvs,h=>by
  obtain⟨k',x,rr,rfl,rfl,h1,h2⟩:=Aa6.1 h;exact Aa6.2 ⟨k',x,_,rfl,rfl,h1,Abr.snoc rv h2⟩
theorem AE{k:aG}{kvs:List (aG×V)}(h:Abr K H kds kvs)(rv:Abj K H d v):Abr K H (putD kds k d) (putK kvs k v):=by
 unfold putD putK;rw[PC h];by_cases q:(kvs.any λkv=>decide (kv.1=k))=af
 .rw[if_pos q,if_pos q];exact HW rv h
 .rw[if_neg q,if_neg q];exact Abr.snoc rv h
theorem Abr.length:∀ {kds:List (aA×aA)} {kvs:List (aG×V)},Abr K H kds kvs->kvs.length=kds.length
 |[],kvs,h=>by rw[Abn.1 h];rfl
 |(k0,d0)::r,kvs,h=>by
  obtain⟨k',x,rr,rfl,rfl,h1,h2⟩:=Aa6.1 h;rw[fJ,fJ,Abr.length h2]
theorem jO{x:V}{k:aG}(h:bK d=aa k)(r:Abj K H d x):x=kV k:=by
 rw[qI h] at r;exact Rj r
def aq:aA->aA->Option aA
 |.list ds,.int i=>e8 ds i
 |.tuple ds,.int i=>e8 ds i
 |.str z,.int i=>if z.length<=sizeLine then(e8 z.cps.toList i).bind λc=>aa (.str ⟨#[c]⟩) else ae
 |.dict kds,d=>(bK d).bind λk=>bQ kds k
 |_,_=>ae
theorem GR{i:Int}(r:Aao K H ds xs)(h:e8 ds i=aa d):∃ v,e8 xs i=aa v/\Abj K H d v:=by
 unfold e8 at h ⊢;rw[r.length];obtain⟨j,h1,h2⟩:=aj h;obtain⟨v,h3,h4⟩:=r.get h2;exact⟨v,by rw[h1];exact h3,h4⟩
theorem Ta {α:Type}{xs:List α}{i:Int}{x:α}(h:e8 xs i=aa x):∃ j:Nat,xs[j]?=aa x:=by
 unfold e8 at h;obtain⟨j,h1,h2⟩:=aj h;exact⟨j,h2⟩
section
variable {a:aQ}{fa fb f:EF}
theorem rD (hu:X.A.units+40<cLine)(ha:DE X a fa)(hb:DE X b fb)(hs:uM b):DE X (.Subscript a b pos) (ah aq fa fb):=PE.imp (PE.or (xX wD ha hb hs) (FQ hu ha hb hs)) λZ H Q h=>by
 obtain⟨P,Y,d,hP,rs,ef,k⟩:=h;obtain⟨d1,e1,bq⟩:=aj ef;obtain⟨d2,e2,bi⟩:=aj bq;clear ef bq;have seq:(∀ (H2:Hp) (v u:V),Ext H H2->Abj X.K (hid H2 P) d1 v->Abj X.K (hid H2 P) d2 u->xy X.K v u H2 Q)->p9 (xy X.K) (tF X.K 0 fa) (tF X.K 0 fb) Z H Q:=λz=>
  ⟨P,Y,d1,hP,rs,e1,dP λv H1 x1 r1=>⟨P,Y,d2,hP.ext x1,rs.ext (cG x1),e2,dP λu H2 x2 r2=>z H2 v u (x1.trans x2) (r1.ext (cG x2)) r2⟩⟩
 cases d1 with
 |list ds=>
  cases d2 with
  |int i=>
   refine .inl (seq λH2 v u x r1 r2=>.inl ?_)
   obtain⟨q,xs,rfl,hq,rr⟩:=Abe.1 r1;obtain⟨w,h1,h2⟩:=GR rr (show e8 ds i=aa d from bi)
   exact⟨q,xs,i,w,rfl,Aal.1 r2,Aap.sqL hq,h1,k.zero x h2⟩
  |_=>cases bi
 |tuple ds=>
  cases d2 with
  |int i=>
   refine .inl (seq λH2 v u x r1 r2=>.inr (.inl ?_))
   obtain⟨q,xs,rfl,hq,rr⟩:=Aar.1 r1;obtain⟨w,h1,h2⟩:=GR rr (show e8 ds i=aa d from bi)
   exact⟨q,xs,i,w,rfl,Aal.1 r2,SqT.of (Aap _ _ hq),h1,k.zero x h2⟩
  |_=>cases bi
 |str z=>
  cases d2 with
  |int i=>
   have bi:(if z.length<=sizeLine then(e8 z.cps.toList i).bind λc=>aa (.str ⟨#[c]⟩) else ae)=aa d:=bi
   by_cases hz:z.length<=sizeLine
   .rw[if_pos hz] at bi;obtain⟨c,h1,h2⟩:=aj bi;cases h2;obtain⟨j,hj⟩:=Ta h1;refine .inl (seq λH2 v u x r1 r2=>.inr (.inr ⟨z,i,c,(Aa9.1 r1).1,Aal.1 r2,hz,h1,k.zero x (Aa9.2 ⟨rfl,HJ (Aa9.1 r1).2 hj⟩)⟩))
   .rw[if_neg hz] at bi;cases bi
  |_=>cases bi
 |dict kds=>
  obtain⟨kk,h1,h2⟩:=aj (show((bK d2).bind λk=>bQ kds k)=aa d by cases d2<;>exact bi)
  refine .inr ⟨P,Y,_,hP,rs,e1,dP λv H1 x1 r1=>⟨P,Y,d2,hP.ext x1,rs.ext (cG x1),e2,dP λu H2 x2 r2=>?_⟩⟩
  obtain⟨q,kvs,rfl,hq,rr⟩:=Vo (r1.ext (cG x2)) h2;rcases sI rr with⟨n1,_⟩|⟨d',v',s1,s2,rd⟩
  .rw[h2] at n1;cases n1
  .rw[h2] at s1;cases s1;refine⟨q,v',rfl,.inl ⟨kvs.1,kvs.2,kk,.inl (Aap _ _ hq),jO h1 r2,s2.symm⟩,k.zero (x1.trans x2) rd⟩
 |_=>cases d2<;>cases bi
def DZ (neg:Bool):aA->List (aA×aA)->Option aA
 |.tuple _,(_,.list _)::_=>ae
 |.tuple k,(_,_)::kds=>if (bY k&&decide (cX k<=6))=af then aa (.bool (neg != (kG kds k).isSome)) else ae
 |_,_=>ae
def fz (neg:Bool):aA->aA->Option aA
 |d,.list ds=>if (cS d&&noDicts ds)=af then aa (.bool (neg != ds.any λz=>bU z d)) else ae
 |d,.tuple ds=>if (cS d&&noDicts ds)=af then aa (.bool (neg != ds.any λz=>bU z d)) else ae
 |.str i,.str j=>aa (.bool (neg != !(MQ j i 0 j.length 1).isEmpty))
 |d,.dict kds=>if cv kds=af then(bK d).bind λk=>aa (.bool (neg != (bQ kds k).isSome)) else DZ neg d kds
 |_,_=>ae
def ET (K:aK)(neg:Bool):R2:=λx y H Q=>ED K neg x y H Q\/(∃ i j,x=.str i/\y=.str j/\Q (.bl (neg != !(MQ j i 0 j.length 1).isEmpty)) H)\/∃ a o,y=.ref a/\Awh H a x o/\Q (.bl (neg != o.isSome)) H
theorem GZ (hu:X.A.units+100<cLine):OpR X (iH .In) (ET X.K ag):=by
 rw[3];rcases h with h|⟨i,j,ex,ey,q⟩|⟨a,o,rfl,g,q⟩
 .exact Hb hu ad s Z H x y v u Q I rx ry h
 .exact Nw ad s Z H x y v u Q I rx ry ⟨i,j,ex,ey,by simpa using q⟩
 .cases ry;exact Fb () I g rx λs' I'=>⟨.bl _,H,I',rfl,by simpa using q⟩
theorem WU (hu:X.A.units+100<cLine):OpR X (iH .NotIn) (ET X.K af):=by
 rw[3];rcases h with h|⟨i,j,ex,ey,q⟩|⟨a,o,rfl,g,q⟩
 .exact SY hu ad s Z H x y v u Q I rx ry h
 .exact Rw ad s Z H x y v u Q I rx ry ⟨i,j,ex,ey,by simpa using q⟩
 .cases ry;exact Lk () I g rx λs' I'=>⟨.bl _,H,I',rfl,by simpa using q⟩
theorem wN{neg:Bool}:OpD K 0 (ET K neg) (fz neg):=λP H x y a b d Q hP ra rb e k=>by
 unfold fz at e;split at e
 .obtain⟨hc,rfl⟩:=cH e;have de:=iM.1 hc;exact .inl ⟨a,_,ra.ext Aap,.inl (rb.ext Aap),de.1,de.2,k.zero Ext.refl (Aaz.2 rfl)⟩
 .obtain⟨hc,rfl⟩:=cH e;have de:=iM.1 hc;exact .inl ⟨a,_,ra.ext Aap,.inr (rb.ext Aap),de.1,de.2,k.zero Ext.refl (Aaz.2 rfl)⟩
 .cases e;exact .inr (.inl ⟨_,_,(Aa9.1 ra).1,(Aa9.1 rb).1,k.zero Ext.refl (Aaz.2 rfl)⟩)
 .rename_i kds;by_cases pk:cv kds=af
  case neg=>
   rw[if_neg pk] at e;have ek:∃ m r,kds=(.none,m)::r:=by
    cases kds with
    |nil=>simp[cv] at pk
    |cons p r=>
     obtain⟨k0,m⟩:=p;cases k0<;>simp[cv] at pk;exact⟨m,r,rfl⟩
   obtain⟨m,r,rfl⟩:=ek;cases a with
   |tuple kk=>
    have hm:∀ es,m ≠ .list es:=by
     rintro es rfl;cases e
    replace e:(if (bY kk&&decide (cX kk<=6))=af then aa (hV (neg != (kG r kk).isSome)) else ae)=aa d:=by
     cases m with
     |list es=>exact absurd rfl (hm es)
     |_=>exact e
    obtain⟨hc,rfl⟩:=cH e;have de:bY kk=af/\cX kk<=6:=by simpa using hc
    obtain⟨q,ts,rfl,hq,rr⟩:=(IG hm).1 rb;obtain⟨b,xs,rfl,hb,rx⟩:=Aar.1 (ra.ext Aap);refine .inr (.inr ⟨q,dF ts.2 kk,rfl,.inr ⟨ts.2,kk,b,⟨_,.inl (Aap _ _ hq)⟩,rfl,⟨de.1,de.2,xs,hb,Aao.keys kk de.1 rx⟩,rfl⟩,k.zero Ext.refl (Aaz.2 ?_)⟩);rcases IC de.1 rr with⟨n1,n2⟩|⟨d',v',s1,s2,rd⟩
    .rw[n1,n2];rfl
    .rw[s1,s2];rfl
   |_=>simp[DZ] at e
  rw[if_pos pk] at e;obtain⟨kk,h1,h2⟩:=aj e;cases h2;obtain⟨q,kvs,rfl,hq,rr⟩:=(mY pk).1 rb;refine .inr (.inr ⟨q,dF kvs.2 kk,rfl,.inl ⟨kvs.1,kvs.2,kk,.inl (Aap _ _ hq),jO h1 ra,rfl⟩,k.zero Ext.refl (Aaz.2 ?_)⟩);rcases sI rr with⟨n1,n2⟩|⟨d',v',s1,s2,rd⟩
  .rw[n1,n2];rfl
  .rw[s1,s2];rfl
 .cases e
end
def bR:List aA->Option aA
 |[.list ds]=>aa (.int ds.length)
 |[.tuple ds]=>aa (.int ds.length)
 |[.dict kds]=>if cv kds=af then aa (.int kds.length) else ae
 |[.str z]=>if z.length<=sizeLine then aa (.int z.length) else ae
 |_=>ae
theorem gP(r:Aao K H [d] xs):∃ v,xs=[v]/\Abj K H d v:=by
 obtain⟨v,t,rfl,h1,h2⟩:=Aaf.1 r;obtain rfl:=Aaj.1 h2;exact⟨v,rfl,h1⟩
section
def MX (K:aK):List V->Hp->VK->Prop:=λxs H Q=>(∃ p ys,xs=[.ref p]/\(SqL K H p ys\/SqT K H p ys)/\Q (.int ys.length) H)\/(∃ z,xs=[.str z]/\z.length<=sizeLine/\Q (.int z.length) H)\/∃ a ep kvs,xs=[V.ref a]/\H a=aa (.dK ep kvs)/\Q (.int kvs.length) H
theorem WQ:Adc X (.builtin "len") (MX X.K):=Aqp.or (Aqs.or Ot)
theorem VA:CallD K 0 (MX K) bR:=λP H xs ds d Q hP r e k=>by
 unfold bR at e;split at e
 .cases e;obtain⟨v,rfl,r'⟩:=gP r;replace r:=r';obtain⟨q,ys,rfl,hq,rr⟩:=Abe.1 r;exact .inl ⟨q,ys,rfl,.inl (Aap.sqL hq),k.zero Ext.refl (Aal.2 (by rw[rr.length]))⟩
 .cases e;obtain⟨v,rfl,r'⟩:=gP r;replace r:=r';obtain⟨q,ys,rfl,hq,rr⟩:=Aar.1 r;exact .inl ⟨q,ys,rfl,.inr (SqT.of (Aap _ _ hq)),k.zero Ext.refl (Aal.2 (by rw[rr.length]))⟩
 .obtain⟨pk,rfl⟩:=cH e;obtain⟨v,rfl,r'⟩:=gP r;replace r:=r';obtain⟨q,ys,rfl,hq,rr⟩:=(mY pk).1 r;exact .inr (.inr ⟨q,ys.1,ys.2,rfl,Aap _ _ hq,k.zero Ext.refl (Aal.2 (by rw[rr.length]))⟩)
 .obtain⟨hz,rfl⟩:=cH e;obtain⟨v,rfl,r'⟩:=gP r;replace r:=r';exact .inr (.inl ⟨_,by rw[(Aa9.1 r).1],hz,k.zero Ext.refl (Aal.2 rfl)⟩)
 .cases e
noncomputable def kU:aA->String
 |.none=>"NoneType"
 |.bool _=>"bool"
 |.int _=>"int"
 |.str _=>"str"
 |.list _=>"list"
 |.tuple _=>"tuple"
 |.dict _=>"dict"
def RH:List String:=["int","bool","str","list","tuple","dict"]
theorem Yi (d:aA):kU d∈kinds:=by cases d<;>simp[kU,kinds]
theorem Pn:Adc X (.builtin "isinstance") (λxs H Q=>∃ x T d,xs=[x,.ty T]/\Abj X.K H d x/\T∈RH/\Q (.bl (j5 (kU d) T)) H):=by
 rw[6];obtain⟨x,T,d,rfl,rd,hT,q⟩:=h;have ek:=Ui (Yi d) hT;have by_ty:TyOf X.K H x (.type (kU d))->aT (aX X.prog X.w) X.A (call (.builtin "isinstance") us) (EP X ad Z Q) X.xe s:=λty=>
  Qz ad s Z H _ us Q I r ⟨x,T,_,j5 (kU d) T,rfl,ty,Akp.trans ek,q⟩
 cases d with
 |none=>obtain rfl:=Abp.1 rd;exact by_ty .non
 |bool b=>obtain rfl:=Aaz.1 rd;exact by_ty (.bl _)
 |int b=>obtain rfl:=Aal.1 rd;exact by_ty (.int _)
 |str b=>obtain⟨rfl,_⟩:=Aa9.1 rd;exact by_ty (.str _)
 |list b=>
  obtain⟨a,ys,rfl,h,_⟩:=Abe.1 rd;obtain⟨u,w',rfl,ru,gp⟩:=vals2 r;cases gp;cases ru;obtain⟨its,_,⟨o,n,e1,hc,_,_⟩,_⟩:=I.list h;exact lE By I.kIn ⟨o,e1,hc⟩ (Akp.trans ek) (λz=>nomatch z) λtk=>⟨.bl _,H,I.tok tk,rfl,q⟩
 |tuple b=>obtain⟨_,_,rfl,h,_⟩:=Aar.1 rd;exact by_ty (.tup h)
 |dict b=>
  obtain⟨_,rfl,⟨_,h,_⟩|⟨_,h,_⟩|⟨_,h,_⟩⟩:=Acv.1 rd
  .exact by_ty (.dK h)
  .exact by_ty (.dT h)
  .obtain⟨u,w',rfl,ru,gp⟩:=vals2 r;cases gp;cases ru;obtain⟨⟨_,_,o,_,e1,hc,_⟩,_⟩:=I.hok _ _ h;exact lE Bz I.kIn ⟨o,e1,hc.1⟩ (Akp.trans ek) (λz=>nomatch z) λtk=>⟨.bl _,H,I.tok tk,rfl,q⟩
noncomputable def fD (T:String):aA->Option aA:=λd=>aa (.bool (j5 (kU d) T))
variable {a:aQ}{f:EF}{fa:AF}{ao au:bH}
theorem Aq(nh:Gl X "isinstance")(hm:X.mg "isinstance" = ae)(hg:Gl X x)(C8:X.mg x=ae)(hv:lC x=aa (.type T))(hT:T∈RH)(he:DE X e f)
  (hn:x ≠ "__name__":=by decide) (hd:(x==("__debug__" : aE))=ag:=by decide) (nn:cC (e::[.Name x p2]) X.env=(ag,bZ e X.env)::cC [.Name x p2] X.env:=by rfl)
  (ib:cC (.Name x p2::[]) X.env=(ag,bZ (.Name x p2) X.env)::cC [] X.env:=by rfl) (fu:(jG pos (cC [.Name x p2] X.env)).any (·.1)=ag:=by rfl):DE X (.Call (.Name "isinstance" p) [e,.Name x p2] [] pos) (dz (fD T) f):=
 PE.imp (SJ Pn nh hm boot_isinstance (eN he (eN (Gj hg C8 hv hn hd) gY ib) nn) nofun nofun nn fu) λZ H Q gh=>by
  rw[5];obtain⟨d1,e1,ef⟩:=aj ef;cases ef;exact⟨P,Y,d1,hP,rs,e1,dP λv H1 x1 r1=>⟨v,T,d1,rfl,r1.ext Aap,hT,k.zero x1 (Aaz.2 rfl)⟩⟩
def gG:List aA->Option aA
 |[.list ds]=>aa (.tuple ds)
 |[.tuple ds]=>aa (.tuple ds)
 |_=>ae
theorem Rk:CallD K 0 (λxs H Q=>∃ p ys,xs=[.ref p]/\((SqL K H p ys/\∀ l,H l=ae->Q (.ref l) (upd H l (.tup ys)))\/(SqT K H p ys/\Q (.ref p) H))) gG:=λP H xs ds d Q hP r e k=>by
 unfold gG at e;split at e
 .cases e;obtain⟨v,rfl,r'⟩:=gP r;replace r:=r';obtain⟨q,ys,rfl,hq,rr⟩:=Abe.1 r;exact⟨q,ys,rfl,.inl ⟨Aap.sqL hq,λl hl=>k.tup hP hl rr⟩⟩
 .cases e;obtain⟨v,rfl,r'⟩:=gP r;replace r:=r';obtain⟨q,ys,rfl,hq,rr⟩:=Aar.1 r;exact⟨q,ys,rfl,.inr ⟨SqT.of (Aap _ _ hq),k.zero Ext.refl r⟩⟩
 .cases e
def rC:List aA->Option aA
 |[.list ds]=>aa (.list ds)
 |[.tuple ds]=>aa (.list ds)
 |[.str z]=>if z.length<=sizeLine then aa (.list (z.cps.toList.map λc=>.str ⟨#[c]⟩)) else ae
 |_=>ae
def OL (K:aK):List V->Hp->VK->Prop:=λxs H Q=>(∃ p ys,xs=[.ref p]/\(SqL K H p ys\/SqT K H p ys)/\∀ l,H l=ae->Q (.ref l) (upd H l (.lst ys)))\/∃ z:aE,xs=[.str z]/\z.length<=sizeLine/\∀ l,H l=ae->Q (.ref l) (upd H l (.lst (z.cps.toList.map rE)))
theorem JJ (hc:X.calm=af):Adc X (.type "list") (OL X.K):=Aoq.or (Pz hc)
theorem VZ:∀ {cs:List Nat},(∀ c∈cs,cF (.str ⟨#[c]⟩)=af)->Aao K H (cs.map λc=>.str ⟨#[c]⟩) (cs.map rE)
 |[],_=>Aaj.2 rfl
 |c::r,h=>Aaf.2 ⟨_,_,rfl,Aa9.2 ⟨rfl,h c bO⟩,VZ λc' m=>h c' (bM _ m)⟩
theorem VR:CallD K 1 (OL K) rC:=λP H xs ds d Q hP r e k=>by
 unfold rC at e;split at e
 .cases e;obtain⟨v,rfl,r'⟩:=gP r;replace r:=r';obtain⟨q,ys,rfl,hq,rr⟩:=Abe.1 r;exact .inl ⟨q,ys,rfl,.inl (Aap.sqL hq),λl hl=>k.lst hP hl rr⟩
 .cases e;obtain⟨v,rfl,r'⟩:=gP r;replace r:=r';obtain⟨q,ys,rfl,hq,rr⟩:=Aar.1 r;exact .inl ⟨q,ys,rfl,.inr (SqT.of (Aap _ _ hq)),λl hl=>k.lst hP hl rr⟩
 .obtain⟨hz,rfl⟩:=cH e;obtain⟨v,rfl,r'⟩:=gP r;replace r:=r';refine .inr ⟨_,by rw[(Aa9.1 r).1],hz,λl hl=>k.lst hP hl (VZ λc m=>?_)⟩
  obtain⟨j,hj⟩:=Cu.1 m;exact HJ (Aa9.1 r).2 hj
 .cases e
def MY:List aA->Option aA
 |[.int i]=>aa (.int i)
 |[.bool b]=>aa (.int (if b then 1 else 0))
 |_=>ae
def rA:List aA->Option (List Bool)
 |[]=>aa []
 |.bool b::r=>(rA r).bind λbs=>aa (b::bs)
 |_::_=>ae
def vU:List aA->Option aA
 |[.list ds]=>(rA ds).bind λbs=>aa (.bool (bs.all id))
 |_=>ae
theorem RZ:∀ {ds:List aA} {xs:List V} {bs:List Bool},rA ds=aa bs->Aao K H ds xs->xs=bs.map V.bl
 |[],xs,bs,e,r=>by
  cases e;rw[Aaj.1 r];rfl
 |.bool b::ds,xs,bs,e,r=>by
  obtain⟨bs',e1,e2⟩:=aj (show((rA ds).bind λbs=>aa (b::bs))=aa bs from e)
  cases e2;obtain⟨v,t,rfl,h1,h2⟩:=Aaf.1 r;rw[Aaz.1 h1,RZ e1 h2];rfl
 |.none::_,_,_,e,_=>by cases e
 |.int _::_,_,_,e,_=>by cases e
 |.str _::_,_,_,e,_=>by cases e
 |.list _::_,_,_,e,_=>by cases e
 |.tuple _::_,_,_,e,_=>by cases e
 |.dict _::_,_,_,e,_=>by cases e
theorem Ym:CallD K 0 (λxs H Q=>∃ p ys,xs=[.ref p]/\SqL K H p ys/\(∀ y∈ys,∃ b,y=.bl b)/\Q (.bl (allB ys)) H) vU:=λP H xs ds d Q hP r e k=>by
 unfold vU at e;split at e
 .obtain⟨bs,e1,e2⟩:=aj e;cases e2;obtain⟨v,rfl,r'⟩:=gP r;replace r:=r';obtain⟨q,ys,rfl,hq,rr⟩:=Abe.1 r;obtain rfl:=RZ e1 rr;refine⟨q,_,rfl,Aap.sqL hq,λy m=>?_,k.zero Ext.refl (Aaz.2 ?_)⟩
  .grind
  .unfold allB;rw[List.all_map]
   grind
 .cases e
def cutD (ds:List aA)(lo hi:Option Int):List aA:=(ds.drop (HT.sIx ds.length 0 lo)).take (HT.sIx ds.length ds.length hi-HT.sIx ds.length 0 lo)
abbrev OF:=List (Option aA)->Option (Option Int)
def L5 (K:aK)(f:OF):TO:=λZ H Q=>∃ P Y o,Hid P H/\Ait K (hid H P) Y Z/\f Y=aa o/\∀ H',Ext H H'->Q o H'
abbrev DO (X:Cx)(e:Option aQ)(f:OF):Prop:=PO X e (L5 X.K f)
def oN:OF:=λ_=>aa ae
def oS (f:EF):OF:=λY=>(f Y).bind λd=>match d with
 |.int i=>aa (aa i)
 |_=>ae
theorem PO.imp {o:Option aQ}{t t':TO}(h:PO X o t)(w:∀ Z H Q,t' Z H Q->t Z H Q):PO X o t':=λad s Z H Q I q=>h ad s Z H Q I (w _ _ _ q)
theorem rX:DO X ae oN:=PO.imp OY λZ H Q gh=>by
 obtain⟨P,Y,o,hP,rs,ef,k⟩:=gh;cases ef;exact k H Ext.refl
theorem sA (h:DE X e f):DO X (aa e) (oS f):=PO.imp (Ay h) λZ H Q gh=>by
 obtain⟨P,Y,o,hP,rs,ef,k⟩:=gh;obtain⟨d,e1,ef⟩:=aj ef;refine⟨P,Y,d,hP,rs,e1,dP λv H1 x1 r1=>?_⟩
 cases d with
 |int i=>cases ef;exact⟨i,Aal.1 r1,k H1 x1⟩
 |_=>cases ef
def qO (f:EF)(lo hi:OF):EF:=λY=>(f Y).bind λd=>(lo Y).bind λl=>(hi Y).bind λh=>match d with
 |.list ds=>aa (.list (cutD ds l h))
 |_=>ae
theorem zR {lo hi:Option aQ}{fl fh:OF}{pp:bH}(he:DE X e f)(hl:DO X lo fl)(hh:DO X hi fh):DF 1 X (.Subscript e (.Slice lo hi ae pp) pos) (qO f fl fh):=PE.imp (HI QH he hl hh) λZ H Q gh=>by
 rw[5];obtain⟨d1,e1,bq⟩:=aj ef;obtain⟨l,e2,bi⟩:=aj bq;obtain⟨h,e3,b9⟩:=aj bi;clear ef bq bi;cases d1 with
 |list ds=>
  cases b9;refine⟨P,Y,_,hP,rs,e1,dP λv H1 x1 r1=>⟨P,Y,l,hP.ext x1,rs.ext (cG x1),e2,λH2 x2=>⟨P,Y,h,hP.ext (x1.trans x2),rs.ext (cG (x1.trans x2)),e3,λH3 x3=>?_⟩⟩⟩
  obtain⟨q,ys,rfl,hq,rr⟩:=Abe.1 (r1.ext (cG (x2.trans x3)));refine⟨q,ys,rfl,Aap.sqL hq,λp hp=>(k.mono ((x1.trans x2).trans x3)).lst (hP.ext ((x1.trans x2).trans x3)) hp ?_⟩
  unfold lT cutD;rw[rr.length];exact(rr.drop _).take _
 |_=>cases b9
theorem xA {α:Type}{c:Prop}[Decidable c]{x:Option α}{y:α}(h:(if c then x else ae)=aa y):c/\x=aa y:=by
 grind
def KD:aA->aA->aA->Option aA
 |.dict kds,k,x=>if cv kds=af then(bK k).bind λk=>aa ((bQ kds k).getD x) else ae
 |_,_,_=>ae
def eY (fd fk fx:EF):EF:=λY=>(fd Y).bind λd=>(fk Y).bind λk=>(fx Y).bind λx=>KD d k x
theorem GJ {o k z:aQ}{fd fk fx:EF}(hu:X.A.units+40<cLine)(ho:DE X o fd)(hk:DE X k fk)(hz:DE X z fx)(m:M2 X o "get" ao k z au:=by exact⟨rfl,rfl,rfl,rfl⟩):DE X (.Call (.Attribute o "get" ao) [k,z] [] au) (eY fd fk fx):=
 PE.imp (Xf hu ho hk hz m) λZ H Q gh=>by
  obtain⟨P,Y,d,hP,rs,ef,kk⟩:=gh;obtain⟨d1,e1,bq⟩:=aj ef;obtain⟨d2,e2,bi⟩:=aj bq;obtain⟨d3,e3,b9⟩:=aj bi;clear ef bq bi;cases d1 with
  |dict kds=>
   obtain⟨pk,dw⟩:=xA (show(if cv kds=af then(bK d2).bind λk=>aa ((bQ kds k).getD d3) else ae)=aa d from b9)
   obtain⟨key,h1,h2⟩:=aj dw;cases h2;refine⟨P,Y,_,hP,rs,e1,dP λv H1 x1 r1=>?_⟩
   obtain⟨q,kvs,rfl,hq,rr⟩:=(mY pk).1 r1;refine⟨q,rfl,.inl ⟨kvs.1,kvs.2,.inl (Aap _ _ hq)⟩,P,Y,d2,hP.ext x1,rs.ext (cG x1),e2,dP λu H2 x2 r2=>⟨P,Y,d3,hP.ext (x1.trans x2),rs.ext (cG (x1.trans x2)),e3,dP λw H3 x3 r3=>?_⟩⟩
   refine⟨dF kvs.2 key,.inl ⟨kvs.1,kvs.2,key,.inl (x3 _ _ (x2 _ _ (Aap _ _ hq))),jO h1 r2,rfl⟩,kk.zero ((x1.trans x2).trans x3) ?_⟩;rcases sI (rr.ext (cG (x2.trans x3))) with⟨n1,n2⟩|⟨d',v',s1,s2,rd⟩
   .rw[n1,n2];exact r3
   .rw[s1,s2];exact rd
  |_=>cases b9
theorem Res.dic{P:aC->Prop}{ep:Nat}{kvs:List (aG×V)}{q:aC}(hP:Hid P H)(h:Res K P 1 (.dict kds) H Q)(n:H q=ae)(r:Abr K (hid H P) kds kvs):Q (.ref q) (upd H q (.dK ep kvs)):=by
 refine h (.ref q) _ [q] (Ext.new n) (gC.2 ⟨by simp,.nil⟩) (λa m=>?_) ⟨q,(ep,kvs),kvs.map λ_=>[],rfl,cN,?_,?_⟩
 .have:a=q:=by simpa using m
  subst this;exact⟨n,_,cN⟩
 .have:∀ l:List (aG×V),(l.map λ_=>([]:List aC)).flatten=[]:=λl=>by
   induction l with
   |nil=>rfl
   |cons a l ih=>rw[cY,iL,ih];rfl
  rw[this]
 .have xe:Ext (hid H P) (hid (upd H q (.dK ep kvs)) (bo P [q])):=λb o e=>by
   obtain⟨nb,e⟩:=Abb.1 e;have hb:=gQ e n;exact dS (λz=>z.elim nb λm=>hb (by simpa using m)) (by rw[bP hb];exact e)
  generalize hid (upd H q (.dK ep kvs)) (bo P [q])=B at xe;generalize upd H q (.dK ep kvs)=H1;clear h;have go:∀ (ds:List (aA×aA)) (xs:List (aG×V)),Abr K (hid H P) ds xs->All3 (λ(kd:aA×aA) (kv:aG×V) f=>kd.1=kD kv.1/\Aej K B H1 0 kd.2 kv.2 f) ds xs (xs.map λ_=>[]):=by
   intro ds;induction ds with
   |nil=>intro xs r;rw[Abn.1 r];exact .nil
   |cons d ds ih=>
    intro xs r;obtain⟨k',y,t,rfl,ek,h1,h2⟩:=Aa6.1 (show Abr K (hid H P) ((d.1,d.2)::ds) xs from r)
    exact .cons ⟨ek,rfl,h1.ext xe⟩ (ih t h2)
  exact go kds kvs r
theorem QG:DF 1 X (.Dict [] [] pos) (eC (.dict [])):=PE.imp QU λZ H Q gh=>by
 rw[5];cases ef;exact λq hq=>k.dic hP hq (Abn.2 rfl)
def JV:List aA->Option aA
 |[.dict kds]=>if cv kds=af then aa (.dict kds) else ae
 |_=>ae
theorem Qe:Adc X (.type "dict") (λxs H Q=>∃ a ep kvs,xs=[.ref a]/\H a=aa (.dK ep kvs)/\∀ p n,H p=ae->Q (.ref p) (upd H p (.dK n kvs))):=by
 rw[6];obtain⟨a,ep,kvs,rfl,ha,q⟩:=h;obtain⟨u,rfl,ru⟩:=vals1 r;cases ru;exact Xk I (.inl ha) λp n s' hp I'=>⟨.ref p,_,I',rfl,q p n hp⟩
theorem Ql:CallD K 1 (λxs H Q=>∃ a ep kvs,xs=[.ref a]/\H a=aa (.dK ep kvs)/\∀ p n,H p=ae->Q (.ref p) (upd H p (.dK n kvs))) JV:=λP H xs ds d Q hP r e k=>by
 unfold JV at e;split at e
 .obtain⟨pk,rfl⟩:=cH e;obtain⟨v,rfl,r'⟩:=gP r;replace r:=r';obtain⟨q,ys,rfl,hq,rr⟩:=(mY pk).1 r;exact⟨q,ys.1,ys.2,rfl,Aap _ _ hq,λl n hl=>k.dic hP hl rr⟩
 .cases e
end
section
variable {Y:aP}
theorem HZ {B:Hp}:∀ {ds:List aA} {xs:List V} {Fs:List (List aC)},All3 (Ac6 K B H 0) ds xs Fs->Aao K B ds xs/\Fs.flatten=[]:=by
 intro ds xs Fs h;induction h with
 |nil=>exact⟨Aaj.2 rfl,rfl⟩
 |cons h t ih=>
  obtain⟨rfl,r⟩:=h;exact⟨Aaf.2 ⟨_,_,rfl,r,ih.1⟩,by rw[iL,ih.2];rfl⟩
theorem Qh {B:Hp}:∀ {ds:List (aA×aA)} {xs:List (aG×V)} {Fs:List (List aC)},All3 (λ(kd:aA×aA) (kv:aG×V) f=>kd.1=kD kv.1/\Ac6 K B H 0 kd.2 kv.2 f) ds xs Fs->Abr K B ds xs/\Fs.flatten=[]:=by
 intro ds xs Fs h;induction h with
 |nil=>exact⟨Abn.2 rfl,rfl⟩
 |@cons p q F ds xs Fs h t ih=>
  obtain⟨k,d⟩:=p;obtain⟨k',v⟩:=q;obtain⟨ek,rfl,r⟩:=h;exact⟨Aa6.2 ⟨_,_,_,rfl,ek,r,ih.1⟩,by rw[iL,ih.2];rfl⟩
theorem BI {B:Hp}:∀ {ds:List aA} {xs:List V},Aao K B ds xs->All3 (Ac6 K B H1 0) ds xs (xs.map λ_=>[])/\(xs.map λ_=>([]:List aC)).flatten=[]
 |[],xs,r=>by rw[Aaj.1 r];exact⟨.nil,rfl⟩
 |d::ds,xs,r=>by
  obtain⟨y,t,rfl,h1,h2⟩:=Aaf.1 r;obtain⟨q1,q2⟩:=BI h2;exact⟨.cons ⟨rfl,h1⟩ q1,by rw[cY,iL,q2];rfl⟩
theorem WA {B:Hp}:∀ {ds:List (aA×aA)} {xs:List (aG×V)},Abr K B ds xs->All3 (λ(kd:aA×aA) (kv:aG×V) f=>kd.1=kD kv.1/\Ac6 K B H1 0 kd.2 kv.2 f) ds xs (xs.map λ_=>[])/\(xs.map λ_=>([]:List aC)).flatten=[]
 |[],xs,r=>by rw[Abn.1 r];exact⟨.nil,rfl⟩
 |(k,d)::ds,xs,r=>by
  obtain⟨k',y,t,rfl,ek,h1,h2⟩:=Aa6.1 r;obtain⟨q1,q2⟩:=WA h2;exact⟨.cons ⟨ek,rfl,h1⟩ q1,by rw[cY,iL,q2];rfl⟩
theorem Sta.write {p:aC}{d':aA}(S:Sta K H0 P0 B0 Y Z H fp)(hi:i<Y.length)(hv:Z[i]?=aa (aa (.ref p)))(hp:p∈fp i)(ho:(∃ xs,o=.lst xs)\/∃ q:DQ,o=dO q)
  (new:Aej K (L2.hid H (Hd P0 fp)) (upd H p o) 1 d' (.ref p) (fp i)):Sta K H0 P0 B0 (Y.set i (aa (1,d'))) Z (upd H p o) fp:=by
 have hb:L2.hid (upd H p o) (Hd P0 fp)=L2.hid H (Hd P0 fp):=by
  funext b;unfold L2.hid;by_cases q:Hd P0 fp b
  .rw[if_pos q,if_pos q]
  .rw[if_neg q,if_neg q];exact bP λz=>q (.inr ⟨i,by rw[z];exact hp⟩)
 refine⟨by simp[S.len],S.nd,S.dj,λj a m=>⟨(S.own j a m).1,?_⟩,λb u e=>?_,S.hd,by rw[hb];exact S.base,λj n d e=>?_⟩
 .by_cases q:a=p
  .subst q;rcases ho with⟨xs,rfl⟩|⟨xs,rfl⟩
   .exact .inl ⟨xs,cN⟩
   .exact .inr ⟨xs,cN⟩
  .rw[bP q];exact(S.own j a m).2
 .rw[bP (gQ e (S.own i p hp).1)];exact S.ext b u e
 .by_cases q:j=i
  .subst q;rw[iW hi] at e;cases e;exact⟨_,hv,by rw[hb];exact new⟩
  .rw[iO (λz=>q z.symm)] at e
   obtain⟨v,h1,h2⟩:=S.slot j n d e;refine⟨v,h1,?_⟩;rw[hb];exact h2.keep Ext.refl λa m=>bP λz=>q (S.dj j i a m (by rw[z];exact hp))
theorem Sta.lst1(S:Sta K H0 P0 B0 Y Z H fp)(e:Y[i]?=aa (aa (1,.list ds))):∃ p xs,Z[i]?=aa (aa (.ref p))/\H p=aa (.lst xs)/\Aao K (L2.hid H (Hd P0 fp)) ds xs /\
  ∀ jk gv,Aao K (L2.hid H (Hd P0 fp)) jk gv->Sta K H0 P0 B0 (Y.set i (aa (1,.list jk))) Z (upd H p (.lst gv)) fp:=by
 obtain⟨v,h1,h2⟩:=S.slot i 1 _ e;obtain⟨p,xs,Fs,rfl,hp,hF,h3⟩:=h2;obtain⟨r,hn⟩:=HZ h3;rw[hn] at hF;refine⟨p,xs,h1,hp,r,λjk gv r'=>S.write (cR.1 e).1 h1 (by rw[hF];exact bO) (.inl ⟨_,rfl⟩) ?_⟩
 obtain⟨q1,q2⟩:=BI r';exact⟨p,gv,_,rfl,cN,by rw[hF,q2],q1⟩
theorem Sta.dic1 {ds:List (aA×aA)}(S:Sta K H0 P0 B0 Y Z H fp)(e:Y[i]?=aa (aa (1,.dict ds))):∃ p ep xs,Z[i]?=aa (aa (.ref p))/\H p=aa (.dK ep xs)/\Abr K (L2.hid H (Hd P0 fp)) ds xs /\
  ∀ n jk gv,Abr K (L2.hid H (Hd P0 fp)) jk gv->Sta K H0 P0 B0 (Y.set i (aa (1,.dict jk))) Z (upd H p (.dK n gv)) fp:=by
 obtain⟨v,h1,h2⟩:=S.slot i 1 _ e;obtain⟨p,xs,Fs,rfl,hp,hF,h3⟩:=h2;obtain⟨r,hn⟩:=Qh h3;rw[hn] at hF;refine⟨p,xs.1,xs.2,h1,hp,r,λn jk gv r'=>S.write (cR.1 e).1 h1 (by rw[hF];exact bO) (.inr ⟨.inl (n,gv),rfl⟩) ?_⟩
 obtain⟨q1,q2⟩:=WA r';exact⟨p,(n,gv),_,rfl,cN,by rw[hF,q2],q1⟩
end
def getL (i:Nat)(Y:aP):Option (List aA):=match Y[i]? with
 |some (aa (1,.list ds))=>aa ds
 |_=>ae
def kT (i:Nat)(Y:aP):Option (List (aA×aA)):=match Y[i]? with
 |some (aa (1,.dict ds))=>aa ds
 |_=>ae
theorem mZ{Y:aP}(h:getL i Y=aa ds):Y[i]?=aa (aa (1,.list ds)):=by
 unfold getL at h;split at h
 .rename_i e;cases h;exact e
 .cases h
theorem oP{Y:aP}{ds:List (aA×aA)}(h:kT i Y=aa ds):Y[i]?=aa (aa (1,.dict ds)):=by
 unfold kT at h;split at h
 .rename_i e;cases h;exact e
 .cases h
section
variable {k o:aQ}{f g:EF}{ao au:bH}
def gE (i:Nat)(m:Md)(f:EF):SF:=λY=>(eV 0 m f Y).bind λd=>(getL i Y).bind λds=>if ds.length<sizeLine then aa (.nx (Y.set i (aa (1,.list (ds++[d]))))) else ae
theorem Nv (i:Nat)(m:Md)(he:DE X e f)(hN:Nm X i x:=by exact fM)(q5:Bm X (.Name x px) e [] "append" ao au:=by exact⟨rfl,rfl,rfl,rfl,rfl⟩)
  (fg:iG (.Call (.Attribute (.Name x px) "append" ao) [e] [] au) ae pos.line X.env=pure ag:=by rfl):DS X H0 P0 n0 (.Expr (.Call (.Attribute (.Name x px) "append" ao) [e] [] au) pos) (gE i m f):=
 PS.imp (pX (mP vJ LJ LI xO (hN.pe) (eN (ev m he) gY q5.s) q5) fg) λD Z H gh=>by
  rw[4];obtain⟨d,e1,bq⟩:=aj ef;obtain⟨ds,e2,bi⟩:=aj bq;obtain⟨hl,rfl⟩:=cH bi;obtain⟨p,xs,h1,h2,_,_⟩:=S.lst1 (mZ e2);refine⟨.ref p,h1,.inl ⟨rfl,xs,SqL.of h2⟩,B0,Y,fp,d,S,e1,λv H2 gh=>?_⟩
  obtain⟨b7,S2,r2⟩:=gh;obtain⟨p2,t8,q1,q2,q3,q4⟩:=S2.lst1 (mZ e2);have:p2=p:=by rw[h1] at q1;cases q1;rfl
  subst this;exact⟨p2,t8,v,rfl,rfl,q2,by rw[q3.length];exact hl,k _ _ b7 (q4 _ _ (q3.snoc r2.2))⟩
def NB (i:Nat):SF:=λY=>(getL i Y).bind λds=>aa (.nx (Y.set i (aa (1,.list []))))
def lW (i:Nat)(m:Md)(f:EF)(mk:Md)(g:EF):SF:=λY=>(eV 0 m f Y).bind λd=>(getL i Y).bind λds=>(eV 0 mk g Y).bind λk=>match k with
 |.int j=>(gf ds.length j).bind λj=>aa (.nx (Y.set i (aa (1,.list (ds.set j d)))))
 |_=>ae
theorem oF{m:Md}{Y:aP}(S:Sta K H0 P0 B0 Y Z H fp)(e:eV 0 m g Y=aa d)(hd:eD d=af)(k:∀ v H',Ext H H'->Abj K (hid H' (Hd P0 fp)) d v->Q v H'):tF K 0 g Z H Q:=by
 cases m with
 |s=>exact⟨Hd P0 fp,vS Y,d,S.hid,S.viewS,e,dP k⟩
 |a=>
  obtain⟨d',ed,ef⟩:=aj e;obtain⟨fl,rfl⟩:=cH ef;refine⟨P0,vA Y,d',S.hd.ext S.ext,S.viewA,ed,dP λv H' x r=>k v H' x (r.flat (λa xs e=>?_) _ hd)⟩
  obtain⟨na,e⟩:=Abb.1 e;refine dS (λq=>?_) e
  rcases q with q|⟨j,q⟩
  .exact na q
  .rcases((S.grow x).own j a q).2 with⟨ys,e2⟩|⟨ys,e2⟩<;>rw[e] at e2<;>first|cases e2|(cases ys<;>simp[dO] at e2)
theorem FM (i:Nat)(m mk:Md)(he:DE X e f)(hk:DE X k g)(hN:Nm X i x:=by exact fM)
  (ha:∀ v,jZ (.Subscript (.Name x px) k ao) X.env v=(do
   let ov <-nK [v] (bZ (.Name x px) X.env)
   let iv <-nK [v,ov] (bZ k X.env)
   standAt ao
   nK [v,ov,iv] (setItem ov iv v)
   release [v,ov,iv] []):=by intro _;rfl)
  (hs:KY [.Subscript (.Name x px) k ao] e pos.line X.env=pure ag:=by rfl) (hw:KZ [.Subscript (.Name x px) k ao] e X.env=pure ae:=by rfl)
  (h1:(hJ [.Subscript (.Name x px) k ao] X.env).map (·.2)=[jZ (.Subscript (.Name x px) k ao) X.env]:=by rfl):DS X H0 P0 n0 (.Assign [.Subscript (.Name x px) k ao] e pos) (lW i m f mk g):=
 PS.imp (KI (ev m he) (Ae (hN.pe) hk set_list ha) hs hw h1) λD Z H gh=>by
  obtain⟨B0,Y,fp,o,S,ef,kk⟩:=gh;obtain⟨d,e1,bq⟩:=aj ef;obtain⟨ds,e2,bi⟩:=aj bq;obtain⟨kd,e3,b9⟩:=aj bi;clear ef bq bi;cases kd with
  |int j=>
   obtain⟨jn,e5,dw⟩:=aj (show((gf ds.length j).bind λj=>aa (Out.nx (Y.set i (aa (1,.list (ds.set j d))))))=aa o from b9)
   cases dw;refine⟨B0,Y,fp,d,S,e1,λv H2 gh=>?_⟩
   obtain⟨b7,S2,r2⟩:=gh;obtain⟨p,xs,h1,h2,_,_⟩:=S2.lst1 (mZ e2);refine⟨.ref p,h1,oF S2 e3 (by simp[eD]) λu H3 x3 r3=>?_⟩
   have S3:=S2.grow x3;obtain⟨p3,f8,q1,q2,q3,q4⟩:=S3.lst1 (mZ e2);have:p3=p:=by rw[h1] at q1;cases q1;rfl
   subst this;exact⟨p3,f8,j,jn,rfl,Aal.1 r3,q2,by rw[q3.length];exact e5,kk _ _ b7 (q4 _ _ (q3.set (r2.2.ext (cG x3)) jn))⟩
  |_=>cases b9
def rL (i:Nat)(m:Md)(f:EF)(mk:Md)(g:EF):SF:=λY=>(eV 0 m f Y).bind λd=>(kT i Y).bind λkds=>(eV 0 mk g Y).bind λk=>(bK k).bind λk=>if kds.length<sizeLine then aa (.nx (Y.set i (aa (1,.dict (putD kds k d))))) else ae
theorem QF (i:Nat)(m mk:Md)(hu:X.A.units+40<cLine)(he:DE X e f)(hk:DE X k g)(hN:Nm X i x:=by exact fM)(hs:iG e (aa (.Subscript (.Name x px) k ao)) pos.line X.env=pure ag:=by rfl):DS X H0 P0 n0 (.Assign [.Subscript (.Name x px) k ao] e pos) (rL i m f mk g):=
 PS.imp (GN hu (hN.pe) hk (ev m he) hs) λD Z H gh=>by
  obtain⟨B0,Y,fp,o,S,ef,kk⟩:=gh;obtain⟨d,e1,bq⟩:=aj ef;obtain⟨kds,e2,bi⟩:=aj bq;obtain⟨kd,e3,b9⟩:=aj bi;obtain⟨key,e4,dw⟩:=aj b9;obtain⟨hl,rfl⟩:=cH dw;clear ef bq bi b9;refine⟨B0,Y,fp,d,S,e1,λv H2 gh=>?_⟩
  obtain⟨b7,S2,r2⟩:=gh;obtain⟨p,ep,xs,h1,h2,_,_⟩:=S2.dic1 (oP e2);have hf:eD kd=af:=by rw[qI e4];cases key<;>simp[kD,eD]
  refine⟨.ref p,h1,oF S2 e3 hf λu H3 x3 r3=>?_⟩
  have S3:=S2.grow x3;obtain⟨p3,ic,f8,q1,q2,q3,q4⟩:=S3.dic1 (oP e2);have:p3=p:=by rw[h1] at q1;cases q1;rfl
  subst this;refine⟨p3,_,rfl,.inl ⟨ic,f8,key,q2,jO e4 r3,by rw[q3.length];exact hl,rfl⟩,λn=>kk _ _ b7 (q4 n _ _ (AE q3 (r2.2.ext (cG x3))))⟩
end
section
variable {a:aQ}{fa fb fc:EF}
def oV:aA->aA->Option aA
 |.list xs,.list ys=>if xs.length+ys.length<=sizeLine then aa (.list (xs++ys)) else ae
 |_,_=>ae
theorem Tx:OpR X (jQ .Add) (λx y H Q=>∃ l b xs zs,x=.ref l/\y=.ref b/\SqL X.K H l xs/\SqL X.K H b zs/\xs.length+zs.length<=sizeLine/\∀ p,H p=ae->Q (.ref p) (upd H p (.lst (xs++zs)))):=by
 rw[3];obtain⟨l,b,xs,zs,rfl,rfl,hH,hB,hz,q⟩:=h;cases rx;cases ry;obtain⟨its,r,p1,z1⟩:=I.list hH;obtain⟨jy,r2,p2,z2⟩:=I.list hB;have l1:=r.length;have l2:=r2.length;obtain⟨⟨cls,dd,data,sl⟩,ho,hc,n,hd⟩:=p1.isList;obtain⟨⟨qi,lv,data2,o6⟩,j6,iy,n2,ji⟩:=p2.isList;simp only at hc hd iy ji;subst hc hd iy ji;refine LD ⟨_,ho,rfl⟩ ⟨_,j6,rfl⟩ noFill_list_add seq_list_add PySem.F.slot_list_add PySem.F.entry_list_add (PySem.F.args_list_add_2 _ _) (list_addW l b its.toArray jy.toArray n n2 dd lv sl o6 (by simp only[dW];lia)) ⟨ho,j6,?_⟩
 have ea:its.toArray++jy.toArray=(its++jy).toArray:=by simp
 rw[ea];exact⟨.ref _,_,I.lnew (r.append r2) (by rw[pH];lia),rfl,q _ I.fresh⟩
theorem ZK (ha:DE X a fa)(hb:DE X b fb):DF 1 X (.BinOp a .Add b pos) (ah oV fa fb):=nZ Tx (λP H x y a b d Q hP ra rb e k=>by
 unfold oV at e;split at e
 .obtain⟨hz,rfl⟩:=cH e;obtain⟨p,xs,rfl,hp,r1⟩:=Abe.1 ra;obtain⟨q,ys,rfl,hq,r2⟩:=Abe.1 rb;exact⟨p,q,xs,ys,rfl,rfl,Aap.sqL hp,Aap.sqL hq,by rw[r1.length,r2.length];exact hz,λl hl=>k.lst hP hl (r1.append r2)⟩
 .cases e) ha hb
end
variable {a:aQ}{f fa fb:EF}
def NV (K:aK):R2:=λx y H Q=>∃ a b ys,x=.ref a/\y=.ref b/\SqT K H a []/\SqT K H b ys/\Q (.ref b) H
theorem Km:OpR X (jQ .Add) (NV X.K):=by
 rw[3];obtain⟨a,b,ys,rfl,rfl,ha,hb,q⟩:=h;cases rx;cases ry;obtain⟨its,r1,p1,_⟩:=I.tuple ha;obtain⟨jy,r2,p2,_⟩:=I.tuple hb;cases r1;obtain⟨⟨cls,dd,data,sl⟩,ho,hc,n,hd⟩:=p1;obtain⟨⟨qi,lv,data2,o6⟩,j6,iy,n2,ji⟩:=p2;simp only at hc hd iy ji;subst hc hd iy ji;exact LD ⟨_,ho,rfl⟩ ⟨_,j6,rfl⟩ Bu seq_tuple_add Cd Cf (Cg _ _)
  (tuple_addW0 a b _ _ n n2 dd lv sl o6 rfl) ⟨ho,j6,⟨.ref b,H,I,rfl,q⟩⟩
def CB:aA->aA->Option aA
 |.tuple xs,.tuple ys=>if xs.length+ys.length<=sizeLine then aa (.tuple (xs++ys)) else ae
 |_,_=>ae
theorem Vf:OpD K 0 (λx y H Q=>EG K x y H Q\/NV K x y H Q) CB:=λP H x y a b d Q hP ra rb e k=>by
 unfold CB at e;split at e
 .rename_i zs ys;obtain⟨hc,rfl⟩:=cH e;obtain⟨p,us,rfl,hp,r1⟩:=Aar.1 ra;obtain⟨q,ws,rfl,hq,r2⟩:=Aar.1 rb;have l1:=r1.length;have l2:=r2.length;cases zs with
  |nil=>
   have eu:us=[]:=by simpa using l1
   subst eu;exact .inr ⟨p,q,ws,rfl,rfl,SqT.of (Aap _ _ hp),SqT.of (Aap _ _ hq),k.zero Ext.refl rb⟩
  |cons z zs=>
   refine .inl ⟨p,q,us,ws,rfl,rfl,SqT.of (Aap _ _ hp),SqT.of (Aap _ _ hq),λz=>by rw[z] at l1;simp at l1,by rw[l1,l2];exact hc,λz=>?_,λz r hr=>?_⟩
   .subst z;have:ys=[]:=by simpa using l2.symm
    subst this;refine k.zero Ext.refl ?_
    grind
   .exact k.tup hP hr (r1.append r2)
 .cases e
theorem Lw (ha:DE X a fa)(hb:DE X b fb):DE X (.BinOp a .Add b pos) (ah CB fa fb):=nZ (A0x.or Km) Vf ha hb
def tT:List aA->Option aA
 |[.int i,.int j]=>aa (.int (if j > i then j else i))
 |_=>ae
def DP:List aA->Option aA
 |[.int i,.int j]=>aa (.int (if j<i then j else i))
 |_=>ae
theorem VB:CallD K 0 (λxs H Q=>∃ i j,xs=[.int i,.int j]/\Q (.int (if j > i then j else i)) H) tT:=λP H xs ds d Q hP r e k=>by
 unfold tT at e;split at e
 .cases e;obtain⟨v,t,rfl,h1,h2⟩:=Aaf.1 r;obtain⟨v',rfl,h3⟩:=gP h2;rw[Aal.1 h1,Aal.1 h3];exact⟨_,_,rfl,k.zero Ext.refl (Aal.2 rfl)⟩
 .cases e
theorem Yg:CallD K 0 (λxs H Q=>∃ i j,xs=[.int i,.int j]/\Q (.int (if j<i then j else i)) H) DP:=λP H xs ds d Q hP r e k=>by
 unfold DP at e;split at e
 .cases e;obtain⟨v,t,rfl,h1,h2⟩:=Aaf.1 r;obtain⟨v',rfl,h3⟩:=gP h2;rw[Aal.1 h1,Aal.1 h3];exact⟨_,_,rfl,k.zero Ext.refl (Aal.2 rfl)⟩
 .cases e
end L2
namespace L2
open PySem PySem.Spec PyProof.Rows
variable {sl:Array (Option aF)}{us ai:Array aF}{Q E:aF->aI->Prop}{ds:List aA}{l a it D z i1 i2:aC}{h h':aU}{d:aA}{es cy:List aQ}{ep j c n nl N i m n0 cx:Nat}{s:aI}{e tg o c8 e2:aQ}{R:Result->aI->Prop}{w:bD}{kvs:List (aG×V)}{K:aK}{b b1:Bool}{u:aF}{x y:aE}{xs ys:List V}{fp:Nat->List aC}{v:V}{H H' H0 B0:Hp}{p1 p2 pos px gq ao au py ca p3 ap cp vz qw:bH}{kds:List (aA×aA)}{f g fk fv f2:EF}{wr o1 o2:List aC}{ad:List (aC×bI)}{T:String}{p:Array Nat}{vs:List aF}{ks:List aG}{kss:List (List aA)}{X:Cx}{P0:aC->Prop}{F:SF}{Y:aP}{A:cE}{prog:bN}{sc:gA}{cap:List (Option Nat)}{body:List dU}{S1 S2:Nat->aU->Prop}{fc:BF}
section
variable {P:bN}
theorem Sg {t sl:aC}{vl vu:aF}{lo hi:Option Int}(ht:IsTup s.heap t us)(hs:s.heap.IsSliceOf sl vl vu .none)(pl:pJ vl lo)(pu:pJ vu hi)
  (hw:HT.sIx us.size 0 lo=0/\HT.sIx us.size us.size hi=us.size) (h:Q (.ref t) s):aT (aX P w) A (pC (.ref t) (.ref sl)) Q E s:=by
 obtain⟨os,e1,e2,e3⟩:=id hs;have ty:s.TypeIs (.ref sl) "slice":=⟨os,e1,e2⟩;unfold pC
 try with_reducible refine jW ?_
 first|refine aJ (bA ?_)|skip
 refine aJ (wpAny_sequenceKey ht.typeIs nofun (aJ (pA ht.typeIs LB (jX LB ht.typeIs entry_tuple_getitem ?_ (args_tuple_getitem _ _)))))
 show aT _ _ (Dm (.ref t)>>=_) _ _ s;refine aJ (tupleItemsOf_ ht (aJ (sM ty ?_)));rw[if_pos nofun]
 refine aJ (HT.Afk hs pl pu ?_);have C9:(((HT.sIx us.size 0 lo:Nat):Int)==0&&(1:Int)==1&&(HT.sIx us.size us.size hi-HT.sIx us.size 0 lo)==us.size)=af:=by
  rw[hw.1,hw.2];simp
 show aT _ _ (if (((HT.sIx us.size 0 lo:Nat):Int)==0&&(1:Int)==1&&(HT.sIx us.size us.size hi-HT.sIx us.size 0 lo)==us.size)=af then _ else _) _ _ s
 rw[if_pos C9];unfold Builtin.Tuple.tupleIsExact;refine aJ (aJ (sM ht.typeIs (bA ?_)));rw[if_pos nofun]
 exact aJ (sN (bA ⟨_,rfl,bA h⟩))
end
def Dv (K:aK):V->Option Int->Option Int->Hp->VK->Prop:=λx lo hi H Q=>∃ a xs,x=.ref a/\SqT K H a xs/\(HT.sIx xs.length 0 lo=0/\HT.sIx xs.length xs.length hi=xs.length)/\Q (.ref a) H
theorem A5g:SlR X (Dv X.K):=by
 intro ad s Z H x v vl vu lo hi sl Q I rx hs pl pu h;obtain⟨a,xs,rfl,hx,hw,q⟩:=h;cases rx;obtain⟨its,r,ht,hz⟩:=I.tuple hx;have bh:its.toArray.size=xs.length:=by rw[dW];exact r.length.symm
 exact⟨"tuple",_,LB.lookup,ht.typeIs,Sg ht hs pl pu (by rw[bh];exact hw) ⟨.ref a,H,I,rfl,q⟩⟩
def tN (f:EF)(lo hi:OF):EF:=λY=>(f Y).bind λd=>(lo Y).bind λl=>(hi Y).bind λh=>match d with
 |.tuple ds=>aa (.tuple (cutD ds l h))
 |_=>ae
theorem Qk{l h:Option Int}(hw:HT.sIx ds.length 0 l=0/\HT.sIx ds.length ds.length h=ds.length):cutD ds l h=ds:=by
 unfold cutD;rw[hw.1,hw.2];simp
theorem KL {lo hi:Option aQ}{fl fh:OF}{pp:bH}(he:DE X e f)(hl:DO X lo fl)(hh:DO X hi fh):DE X (.Subscript e (.Slice lo hi ae pp) pos) (tN f fl fh):=PE.imp (HI (A5g.or Ka) he hl hh) λZ H Q gh=>by
 rw[5];obtain⟨d1,e1,bq⟩:=aj ef;obtain⟨l,e2,bi⟩:=aj bq;obtain⟨h,e3,b9⟩:=aj bi;clear ef bq bi;cases d1 with
 |tuple ds=>
  cases b9;refine⟨P,Y,_,hP,rs,e1,dP λv H1 x1 r1=>⟨P,Y,l,hP.ext x1,rs.ext (cG x1),e2,λH2 x2=>⟨P,Y,h,hP.ext (x1.trans x2),rs.ext (cG (x1.trans x2)),e3,λH3 x3=>?_⟩⟩⟩
  have r3:=r1.ext (cG (x2.trans x3));obtain⟨q,ys,rfl,hq,rr⟩:=Aar.1 r3;by_cases hw:HT.sIx ds.length 0 l=0/\HT.sIx ds.length ds.length h=ds.length
  .rw[Qk hw] at k;exact .inl ⟨q,ys,rfl,SqT.of (Aap _ _ hq),by rw[rr.length];exact hw,(k.mono ((x1.trans x2).trans x3)).zero Ext.refl r3⟩
  .refine .inr ⟨q,ys,rfl,SqT.of (Aap _ _ hq),by rw[rr.length];exact hw,λp hp=>(k.mono ((x1.trans x2).trans x3)).tup (hP.ext ((x1.trans x2).trans x3)) hp ?_⟩
   unfold lT cutD;rw[rr.length];exact(rr.drop _).take _
 |_=>cases b9
def Av6 (h:aU)(d:aC)(es:Array pM)(ep:Nat):Prop:=∃ o,h.get? d=aa o/\o.ExactDict/\o.data=.dict es ep
theorem Av6.keep{d:aC}{es:Array pM}(x:Av6 h d es ep)(k:∀ o,h.get? d=aa o->h'.get? d=aa o):Av6 h' d es ep:=
 let ⟨o,e,r⟩:=x;⟨o,k o e,r⟩
theorem Av6.ty{d:aC}{es:Array pM}(x:Av6 s.heap d es ep):s.TypeIs (.ref d) "dict":=let ⟨o,e,c,_⟩:=x;⟨o,e,c.1⟩
section
variable {d:aC}{es:Array pM}
theorem Vr(nm:(d==jE)=ag)(R:Av6 s.heap d es ep)
  (q:Q (.ref s.heap.objs.size) { s with heap:=s.heap.push { cls:=.type "dict_keyiterator",data:=.fields #[.ref d,.int 0 0,.int es.size 0,.int ep 0] } }):aT (aX prog w) A (sP (.ref d)) Q E s:=by
 have ty:=R.ty;obtain⟨o,eo,_,ed⟩:=R;refine wpAny_pyIter_slot ty F.slot_dict_iter (jX F.slot_dict_iter ty F.entry_dict_iter
  ?_ (F.args_dict_iter_1 _))
 unfold Builtin.«dict.__iter__»;refine aJ ?_;unfold Builtin.Dict.dictSlotNone;refine aJ (wpAny_notOrdered_dict ty ?_);refine bA ?_;show aT _ _ (Builtin.Dict.showsAll d>>=_) _ _ s;unfold Builtin.Dict.showsAll;rw[if_neg (show ¬ (d==jE)=af by rw[nm];exact kE)]
 refine aJ (bA ?_);refine aJ (Bs eo ed ?_);refine aJ (wpAny_dictEpoch eo ed ?_);refine aJ (oZ (bA ⟨_,rfl,"dict_keyiterator",_,
  ⟨_,dG _ rfl,rfl⟩,CW.lookup,?_⟩))
 simpa [gR] using q
theorem Xg {e:pM}{Q:Option aF->aI->Prop}(K:s.heap.IsKeyIter it d i es.size ep)(R:Av6 s.heap d es ep)(x:es[i]?=aa e)
  (q:∀ h',h'.IsKeyIter it d (i+1) es.size ep->yR it s.heap h'->Q (aa e.key) { s with heap:=h' }):aT (aX prog w) A (jY (.ref it)) Q E s:=by
 obtain⟨oi,ei,ci,di⟩:=id K;obtain⟨o,eo,_,ed⟩:=R;unfold jY;refine aJ (xZ (pA K.typeIs
  CW (jX CW K.typeIs
   Ze ?_ (Zf _))))
 refine aJ (bA ?_);refine aJ ?_;refine aJ ?_
 first
  |refine aJ (KN K.typeIs (bA ?_))
  |refine aJ (KM K.typeIs (bA ?_))
 refine aJ (wpAny_fieldsOf ei di ?_);have own:Builtin.Dict_items.ownsTuple "dict_keyiterator" = ag:=by decide
 simp only[own,tH,if_false];show aT _ _ (if (fR d==fT)=af then _ else _) _ _ s
 rw[if_neg (show ¬ (fR d==fT)=af from kE)]
 refine aJ (bA ?_);refine aJ (Bs eo ed ?_);rw[if_neg (by simp)]
 refine aJ (bA ?_);refine aJ (wpAny_dictEpoch eo ed ?_);rw[if_neg (by simp)]
 refine bA ?_;simp only[show ¬ ((i:Int)<0) from by lia,if_false,MJ,x]
 refine aJ ?_
 first
  |refine aJ (KN K.typeIs (bA ?_))
  |refine aJ (KM K.typeIs (bA ?_))
 refine aJ (wpAny_isOneOf_keyiter K.typeIs ?_);show aT _ _ (setField (.ref it) 1 (gR ((i:Int)+1))>>=_) _ _ s;refine aJ (KP ei di (by simp) ?_)
 have K':(s.heap.update it (Obj.mapFields (·.setIfInBounds 1 (gR ((i:Int)+1))))).IsKeyIter it d (i+1) es.size ep:=
  ⟨_,yP _ ei (Obj.isFreed_of_fields (LP di _)),(Obj.cls_mapFields ..).trans ci,by
   rw[LP di];simp[gR]⟩
 refine aJ (jW ?_);refine aJ (wpAny_isOneOf_keyiter
  K'.typeIs ?_)
 exact bA (bA ⟨_,rfl,bA (q _ K' (yQ ..))⟩)
theorem Mt {Q:Option aF->aI->Prop}(hh:A.handled=ae)(K:s.heap.IsKeyIter it d i es.size ep)(R:Av6 s.heap d es ep)(x:es.size<=i)
  (q:∀ h',CV it s.heap h'->Q ae { s with heap:=h' }):aT (aX prog w) A (jY (.ref it)) Q E s:=by
 obtain⟨oi,ei,ci,di⟩:=id K;obtain⟨o,eo,_,ed⟩:=R;unfold jY;refine aJ (xZ (pA K.typeIs
  CW (jX CW K.typeIs
   Ze ?_ (Zf _))))
 refine aJ (bA ?_);refine aJ ?_;refine aJ ?_
 first
  |refine aJ (KN K.typeIs (bA ?_))
  |refine aJ (KM K.typeIs (bA ?_))
 refine aJ (wpAny_fieldsOf ei di ?_);have own:Builtin.Dict_items.ownsTuple "dict_keyiterator" = ag:=by decide
 simp only[own,tH,if_false];show aT _ _ (if (fR d==fT)=af then _ else _) _ _ s
 rw[if_neg (show ¬ (fR d==fT)=af from kE)]
 refine aJ (bA ?_);refine aJ (Bs eo ed ?_);rw[if_neg (by simp)]
 refine aJ (bA ?_);refine aJ (wpAny_dictEpoch eo ed ?_);rw[if_neg (by simp)]
 refine bA ?_;simp only[show ¬ ((i:Int)<0) from by lia,if_false,MJ,Array.getElem?_eq_none x]
 refine aJ ?_
 first
  |refine aJ (KN K.typeIs (bA ?_))
  |refine aJ (KM K.typeIs (bA ?_))
 show aT _ _ (setField (.ref it) 0 .none>>=_) _ _ s;refine aJ (KP ei di (by simp) ?_)
 refine aJ ?_;simp only[newExc,newTuple];refine aJ (oZ ?_ (by size_fits))
 refine aJ (wpAny_of_eq
  (by first|rfl|(simp only[firstArgMember];rfl)) ?_)
 refine oZ ?_ (by size_fits)
 simp only[raiseNew];refine aJ (wpAny_handled ?_);rw[show A.in1.handled=ae from hh]
 refine aJ (bA (wpAny_throw ?_));refine aJ (CF
  ⟨_,dG _ rfl,rfl⟩ isSubtype_stop ?_)
 exact bA (q _ (((yQ ..).extBut.push _).push _))
theorem Xz (hh:A.handled=ae)(I d:aC)(ne:d≠I)(es:Array pM)(ep:Nat) :
  Walks prog w A I [I,d] [I] es.size (λi v=>∃ e,es[i]?=aa e/\v=e.key) (λi h=>h.IsKeyIter I d i es.size ep/\Av6 h d es ep) where
 sub:=λb hb=>by simp at hb;simp[hb]
 frame:=λ_ _ _ st hk=>⟨st.1.at λo e=>hk I (by simp) o e,st.2.keep λo e=>hk d (by simp) o e⟩
 item:=λi s Q E hi st hQ=>by
  have hx:=Zh hi;refine Xg st.1 st.2 hx λh' K' hs=>?_
  exact hQ _ h' s.toks ⟨_,hx,rfl⟩ ⟨K',st.2.keep λo e=>hs.extBut d o ne e⟩ λb o hb e=>hs.extBut b o (λh=>hb (by simp[h])) e
 done:=λs Q E st hQ=>Mt hh st.1 st.2 (bJ _) λh' he=>hQ h' s.toks λb o hb e=>he b o (λh=>hb (by simp[h])) e
 self:=λ_ _ _ _ st hQ=>wpAny_pyIter_keyiter st.1 hQ
theorem Sk:typeLookup (.type "dict") "__len__" = pure (aa (.builtin "dict.__len__")):=by rw[typeLookup_type,builtinLookup_eq_fast];kernel_rfl
theorem Pr(hh:A.handled=ae)(nm:(d==jE)=ag)(D:Av6 s.heap d es ep)(S:aC)(res:aF)(c₀:Nat)(v3:S≠d)
  (hS:s.heap.get? S=aa { cls:=.type "list",data:=.seq #[] c₀ }) (hn:es.size<=sizeLine)
  (q:∀ h' tk am c',(∀ b o,b≠S->s.heap.get? b=aa o->h'.get? b=aa o)->h'.get? S=aa { cls:=.type "list",dict:=ae,data:=.seq am c',slots:=#[] } ->
   ItemsOf (λi v=>∃ e,es[i]?=aa e/\v=e.key) am es.size->R (.ok (.ret res)) { s with heap:=h',toks:=tk }) :
  aT (aX prog w) A.in1 (MT (.ref S) (.ref d) res)
   (λfin s'=>match fin with|.done f=>R (.ok f) s'|.again c'=>c'.quiet=af/\nL (aX prog w) A c' R s') (λe s'=>R (.error e) s') s:=by
 have ty:=D.ty;unfold MT;refine aJ (sM ty ?_);have h1:Builtin.List.listSameRef (.ref S) (.ref d)=ag:=by
  simp[Builtin.List.listSameRef,v3]
 have h2:(mG "dict" == mG "list")=ag:=by decide
 have h3:(mG "dict" == mG "tuple")=ag:=by decide
 simp only[h1,h2,h3,Bool.or_false,tH,if_false];refine aJ (Vr nm D ?_);refine aJ (jW ?_);have t9:d<s.heap.objs.size:=by obtain⟨o,e,_⟩:=D;exact bW e
 have yu:S<s.heap.objs.size:=bW hS;have i3:∀ b o,s.heap.get? b=aa o->(s.heap.push { cls:=.type "dict_keyiterator",data:=.fields #[.ref d,.int 0 0,.int es.size 0,.int ep 0] }).get? b=aa o:=λb o e=>bX _ e
 have D':Av6 (s.heap.push { cls:=.type "dict_keyiterator",data:=.fields #[.ref d,.int 0 0,.int es.size 0,.int ep 0] }) d es ep:=D.keep λo e=>i3 d o e
 have yv:(s.heap.push { cls:=.type "dict_keyiterator",data:=.fields #[.ref d,.int 0 0,.int es.size 0,.int ep 0] }).IsKeyIter s.heap.objs.size d 0 es.size ep:=⟨_,dG _ rfl,rfl,rfl⟩;unfold Builtin.List.listLengthHint;refine aJ (CC (T:="dict") (v:=.ref d) (by obtain⟨o,e,c,_⟩:=D';exact⟨o,e,c.1⟩) Sk ?_)
 wp_delta
 refine aJ (CF (T:="dict") (v:=.ref d) (b:=af) (by obtain⟨o,e,c,_⟩:=D';exact⟨o,e,c.1⟩) (by rw[isSubtype_type];kernel_rfl) ?_)
 show aT _ _ (typeOf (fR d)>>=_) _ _ _;refine aJ (sM (T:="dict") (v:=.ref d) (by obtain⟨o,e,c,_⟩:=D';exact⟨o,e,c.1⟩) ?_)
 refine bA ?_;rw[if_pos nofun]
 refine aJ (sN ?_);refine aJ ?_;have S1:=i3 _ _ hS;generalize(s.heap.push { cls:=.type "dict_keyiterator",data:=.fields #[.ref d,.int 0 0,.int es.size 0,.int ep 0] })=G at i3 D' S1 yv ⊢;show aT _ _ (updateSeq S (·.push .none)>>=λ_=>updateSeq S (·.pop)) _ _ _
 refine aJ (wpAny_updateSeq S1 rfl ?_);have S2:=yP (iI (·.push fT)) S1 rfl;refine wpAny_updateSeq (hz:=by seq_fits) S2 rfl ?_
 have S3:=yP (iI (·.pop)) S2 rfl;have dm:∀ b o,b≠S->G.get? b=aa o->((G.update S (iI (·.push fT))).update S (iI (·.pop))).get? b=aa o:=λb o hb e=>
  (CU _ _ (jI hb)).trans ((CU _ _ (jI hb)).trans e)
 have gu:d≠s.heap.objs.size:=eB t9;have Db:S∉[s.heap.objs.size,d]:=λhm=>by
  rcases cV.1 hm with z|z
  .exact absurd yu (by rw[z];exact mK _)
  .exact v3 (cP.1 z)
 refine bA ⟨yA F.plain_extend_loop _,codeAny_extend_loopS (Xz (A:=A.in1) hh s.heap.objs.size d gu es ep).toS hn _ Db _ es.size 0 _ _ _ rfl (eA _)
  ⟨yv.at λo e=>dm _ o (pF yu) e,D'.keep λo e=>dm _ o (jI v3) e⟩ S3 (ItemsOf.nil _) λs' am c' hm no d6=>?_⟩
 rw[Moved.eq_with hm];refine q s'.heap s'.toks am c' (λb ob hb e=>hm.heap b ob (λhmem=>?_) (dm b ob hb (i3 _ _ e))) no d6
 rcases cV.1 hmem with z|hmem
 .exact hb z
 .exact absurd (bW e) (by rw[cP.1 hmem];exact mK _)
theorem Ve(hh:A.handled=ae)(nm:(d==jE)=ag)(D:Av6 s.heap d es ep)(hn:es.size<=sizeLine)
  (q:∀ h' tk am c',(∀ b o,s.heap.get? b=aa o->h'.get? b=aa o)->h'.get? s.heap.objs.size=aa { cls:=.type "list",dict:=ae,data:=.seq am c',slots:=#[] } ->
   ItemsOf (λi v=>∃ e,es[i]?=aa e/\v=e.key) am es.size->Q (.ref s.heap.objs.size) { s with heap:=h',toks:=tk }):aT (aX prog w) A (call (.type "list") [.ref d]) Q E s:=by
 refine callType_codes (Q₁:=λobj s₁=>obj=.ref s.heap.objs.size/\s₁={ s with heap:=s.heap.push { cls:=.type "list",data:=.seq #[] } })
  F.called_list (F.typeCall_list_1 _) F.entry_list_init (code_list_new _ ⟨rfl,rfl⟩) λobj s₁ h₁=>?_
 obtain⟨rfl,rfl⟩:=h₁;have t9:d<s.heap.objs.size:=by obtain⟨o,e,_⟩:=D;exact bW e
 have N1:(s.heap.push { cls:=.type "list",data:=.seq #[] }).get? s.heap.objs.size=aa { cls:=.type "list",data:=.seq #[] }:=dG _ rfl;refine⟨⟨_,N1,rfl⟩,F.args_list_init_2 _ _,?_⟩;show aT _ _ (do
  let dL <-Builtin.List.listItems (.ref s.heap.objs.size)
  Builtin.List.listUpdate (.ref s.heap.objs.size) (λ_=>#[])
  letGo dL.toList.reverse
  MT (.ref s.heap.objs.size) (.ref d) .none) _ _ _
 refine aJ ?_;unfold Builtin.List.listItems;refine aJ (mE N1 rfl (bA ?_));show aT _ _ (updateSeq s.heap.objs.size (λ_=>#[])>>=λ_=>letGo (#[]:Array aF).toList.reverse>>=λ_=>
  MT (.ref s.heap.objs.size) (.ref d) .none) _ _ _
 refine aJ (wpAny_updateSeq N1 rfl ?_);have N2:=yP (iI (λ_=>(#[]:Array aF))) N1 rfl
 have dm:∀ b o,b≠s.heap.objs.size->(s.heap.push { cls:=.type "list",data:=.seq #[] }).get? b=aa o ->
   ((s.heap.push { cls:=.type "list",data:=.seq #[] }).update s.heap.objs.size (iI (λ_=>(#[]:Array aF)))).get? b=aa o:=λb o hb e=>(CU _ _ (jI hb)).trans e
 refine aJ (CD ?_);refine Pr (A:=A.in1) hh nm (D.keep λo e=>dm d o (eB t9) (bX _ e)) s.heap.objs.size .none _ (pF t9) N2 hn λh' tk am c' hk no d6=>?_
 exact⟨rfl,q h' tk am c' (λb o e=>hk b o (eB (bW e)) (dm b o (eB (bW e)) (bX _ e))) no d6⟩
end
section
variable {Z:St}
theorem IR {P:bN}:∀ {es:List pM} {kvs:List (aG×V)} {vs:List (aG×aF)},KV kvs vs->PySem.Pairs (fF P w) es vs->Vals (kvs.map λkv=>kV kv.1) (es.map (·.key))
 |[],kvs,vs,r,p=>by
  cases p;cases r;exact .nil
 |e::es,kvs,vs,r,p=>by
  cases p with
  |cons h hv t=>
   cases r with
   |cons h' t'=>
    refine .cons ?_ (IR t' t);show RelV (kV _) e.key;rw[h'.1];rcases mD h with⟨i,tk,e1,e2⟩|⟨x,tk,e1,e2⟩
    .rw[e1,e2];exact⟨tk,rfl⟩
    .rw[e1,e2];exact⟨tk,rfl⟩
theorem Og {es:Array pM}{am:Array aF}(h:ItemsOf (λi v=>∃ e,es[i]?=aa e/\v=e.key) am es.size):am.toList=es.toList.map (·.key):=by
 obtain⟨h1,h2⟩:=h;apply List.ext_getElem?
 grind
theorem Hm {yn:Nat}(I:Inv X ad Z H s)(ha:H a=aa (.dK yn kvs)):kvs.length<=sizeLine/\(a==jE)=ag/\∃ es ep,Av6 s.heap a es ep/\Vals (kvs.map λkv=>kV kv.1) (es.toList.map (·.key))/\es.size=kvs.length:=by
 obtain⟨z,nm,vs,r,o,es,ep,e1,e2,e3,_,e5,_⟩:=pP I.hok ha;refine⟨z,nm,es,ep,⟨o,e1,e2,e3⟩,IR r e5,?_⟩;have l1:=(IR r e5).length;simp at l1;exact l1.symm
theorem Qi (hc:X.calm=af):Adc X (.type "list") (λxs H Q=>∃ a ep kvs,xs=[.ref a]/\H a=aa (.dK ep kvs)/\∀ l,H l=ae->Q (.ref l) (upd H l (.lst (kvs.map λkv=>kV kv.1)))):=by
 rw[6];obtain⟨a,ep1,kvs,rfl,ha,q⟩:=h;obtain⟨u,rfl,ru⟩:=vals1 r;cases ru;obtain⟨z,nm,es,ep,D,rv,el⟩:=Hm I ha;refine Ve (I.ok.hd hc) nm D () λh' tk am c' hk hS d6=>?_
 have ea:=Og d6;rw[<-ea] at rv;exact⟨.ref s.heap.objs.size,_,I.laid hk (bJ _) (show Acu X.prog X.w _ h' _ (.lst _) from⟨by rw[cD];exact z,am.toList,c',rv,by simpa using hS⟩),rfl,q _ I.fresh⟩
theorem UI:∀ {kds:List (aA×aA)} {kvs:List (aG×V)},Abr K H kds kvs->(∀ kd∈kds,cF kd.1=af)->Aao K H (kds.map (·.1)) (kvs.map λkv=>kV kv.1)
 |[],kvs,r,_=>by rw[Abn.1 r];exact Aaj.2 rfl
 |(k,d)::kds,kvs,r,h=>by
  obtain⟨k',x,rr,rfl,rfl,h1,h2⟩:=Aa6.1 r;refine Aaf.2 ⟨_,_,rfl,?_,UI h2 λkd m=>h kd (bM _ m)⟩
  have hl:=h (kD k',d) bO;cases k' with
  |inl i=>exact Aal.2 rfl
  |inr z=>exact Aa9.2 ⟨rfl,hl⟩
def EZ:List aA->Option aA
 |[.dict kds]=>if (cv kds&&kds.all λkd=>cF kd.1)=af then aa (.list (kds.map (·.1))) else ae
 |_=>ae
theorem Rc:CallD K 1 (λxs H Q=>∃ a ep kvs,xs=[.ref a]/\H a=aa (.dK ep kvs)/\∀ l,H l=ae->Q (.ref l) (upd H l (.lst (kvs.map λkv=>kV kv.1)))) EZ:=λP H xs ds d Q hP r e k=>by
 unfold EZ at e;split at e
 .obtain⟨hl,rfl⟩:=cH e;obtain⟨v,rfl,r'⟩:=gP r;obtain⟨pk,hl⟩:=iM.1 hl;obtain⟨q,ys,rfl,hq,rr⟩:=(mY pk).1 r';exact⟨q,ys.1,ys.2,rfl,Aap _ _ hq,λl o5=>k.lst hP o5 (UI rr (fV.1 hl))⟩
 .cases e
def qL (b:List (aA×aA)):List (aA×aA)->Bool
 |[]=>af
 |(k,d)::r=>match (bK k).bind (bQ b) with
  |none=>ag
  |some e=>bU d e&&qL b r
def zW (a b:List (aA×aA)):Bool:=a.length==b.length&&qL b a
def valsOk (a:List (aA×aA)):Bool:=a.all λkd=>cS kd.2
theorem Wd {b:List (aA×aA)}{k:aG}(h:valsOk b=af)(e:bQ b k=aa d):cS d=af:=by
 unfold bQ at e;cases q:b.find? λkd=>decide (bK kd.1=aa k) with
 |none=>rw[q] at e;cases e
 |some kd=>
  rw[q] at e;have:kd.2=d:=by simpa using e
  subst this;exact fV.1 h kd (Ct q)
theorem Bg (hu:X.A.units+100<cLine)(I:Inv X ad Z H s){kb:List (aA×aA)}{vb:List (aG×V)}{ub:List (aG×aF)}(rb:Abr X.K H kb vb)(qb:KV vb ub)(fb:valsOk kb=af) :
  ∀ {ka:List (aA×aA)} {va:List (aG×V)} {ua:List (aG×aF)},valsOk ka=af->Abr X.K H ka va->KV va ua->PySem.W.KeqHits X.A.in1 s ub ua (qL kb ka)
 |[],va,ua,_,ra,qa=>by
  obtain rfl:=Abn.1 ra;cases qa;exact .nil
 |(k,d)::ka,va,ua,fa,ra,qa=>by
  obtain⟨k',x,rr,rfl,rfl,h1,h2⟩:=Aa6.1 ra;have j9:cS d=af/\valsOk ka=af:=by simpa [valsOk] using fa
  cases qa with
  |@cons _ u _ us h' t'=>
  obtain⟨g1,g2⟩:=h';obtain⟨uk,uv⟩:=u;have e2:=g1;subst e2;have cc:=qb.val k';have eh:qL kb ((kD k',d)::ka)=(match bQ kb k' with|none=>ag|some e=>bU d e&&qL kb ka):=by
   show(match (bK (kD k')).bind (bQ kb) with|none=>ag|some e=>bU d e&&qL kb ka)=_
   rw[iF]
   rfl
  rcases sI rb with⟨n1,n2⟩|⟨d',v',s1,s2,rd⟩
  .rw[n2] at cc;rw[eh,n1];exact .miss cc.none_of
  .rw[s2] at cc;obtain⟨y,hy,ry⟩:=cc.some_of;have f1:noDict d=af/\d.depth<=60:=by simpa [cS] using j9.1
   have f2:noDict d'=af/\d'.depth<=60:=by simpa [cS] using Wd fb s1
   obtain⟨l1,as,D0⟩:=kM I f1.1 h1 g2;obtain⟨l2,bs,D1⟩:=kM I f2.1 rd ry;have eq:=SeqAt.eqAt_reads d d' X.A.in1 s uv y as bs D0 D1 l1 l2 (by
    have:X.A.in1.units=X.A.units+1:=rfl
    lia)
   rw[eh,s1];exact .hit hy eq (Bg hu I rb qb fb j9.2 h2 t')
def NT (K:aK)(neg:Bool):R2:=λx y H Q=>∃ ka kb,Abj K H (.dict ka) x/\Abj K H (.dict kb) y/\(cv ka=af/\cv kb=af)/\valsOk ka=af/\valsOk kb=af/\Q (.bl (neg != zW ka kb)) H
theorem Ic (hu:X.A.units+100<cLine):OpR X (iH .NotEq) (NT X.K af):=by
 rw[3];obtain⟨ka,kb,ra,rb,pk,fa,fb,q⟩:=h;obtain⟨a,va,rfl,ha,ra⟩:=(mY pk.1).1 ra;obtain⟨b,vb,rfl,hb,rb⟩:=(mY pk.2).1 rb;cases rx;cases ry;obtain⟨_,na,ua,qa,da⟩:=pP I.hok ha;obtain⟨_,nb,ub,qb,db⟩:=pP I.hok hb;have l1:=(ra.length).symm.trans qa.length;have l2:=(rb.length).symm.trans qb.length;refine PySem.W.keq_ne na nb da db () (λ_=>Bg hu I rb qb fb fa ra qa) ?_
 rw[<-l1,<-l2];exact⟨.bl _,H,I,rfl,by simpa [zW] using q⟩
def qZ (neg:Bool):aA->aA->Option aA
 |.dict a,.dict b=>if (valsOk a&&valsOk b&&(cv a&&cv b))=af then aa (.bool (neg != zW a b)) else ae
 |_,_=>ae
theorem Tt{neg:Bool}:OpD K 0 (NT K neg) (qZ neg):=λP H x y a b d Q hP ra rb e k=>by
 unfold qZ at e;split at e
 .obtain⟨hc,rfl⟩:=cH e;have de:=iM.1 hc;have hv:=iM.1 de.1;exact⟨_,_,ra.ext Aap,rb.ext Aap,iM.1 de.2,hv.1,hv.2,k.zero Ext.refl (Aaz.2 rfl)⟩
 .cases e
end
open PySem
structure Sub (P:bN)(w:bD)(it:aC)(own:List aC)(St:Nat->aU->Prop)(xs:Array aF):Prop where
 mem:it∈own
 obj:∀ k h,St k h->∀ c∈own,∃ o,h.get? c=aa o
 keep:∀ k h h',St k h->(∀ c∈own,∀ o,h.get? c=aa o->h'.get? c=aa o)->St k h'
 item:∀ (A:cE) (E:aF->aI->Prop) (s:aI) (Q:aF->aI->Prop) (k:Nat) (x:aF),St k s.heap->xs[k]?=aa x ->
  (∀ h',St (k+1) h'->yR it s.heap h'->Q x { s with heap:=h' })->aT (aX P w) A (yV (.ref it)) Q E s
 done:∀ (A:cE) (E:aF->aI->Prop) (s:aI) (Q:aF->aI->Prop) (k:Nat),A.handled=ae->St k s.heap->xs[k]?=ae ->
  (∀ h' e,CV it s.heap h'->(∃ o,h'.get? e=aa o/\o.cls=.type "StopIteration")->E (.ref e) { s with heap:=h' })->aT (aX P w) A (yV (.ref it)) Q E s
section
variable {P:bN}
theorem Vl {j t:aC}{k:Nat}(hj:s.heap.IsTupleIter j t k)(ht:s.heap.IsTuple t us)(hu:us[k]?=aa u)
  (q:∀ h',h'.IsTupleIter j t (k+1)->yR j s.heap h'->Q u { s with heap:=h' }):aT (aX P w) A (yV (.ref j)) Q E s:=by
 obtain⟨oj,g1,g2,g3⟩:=id hj;obtain⟨ot,t1,_,nt,t2⟩:=ht;unfold yV;refine aJ (pA hj.typeIs MM (jX MM hj.typeIs F.entry_tuple_iterator_next ?_ (F.args_tuple_iterator_next_1 _)));show aT _ _ (field (.ref j) 0>>=_) _ _ s;refine aJ (gZ g1 g3 (x:=.ref t) rfl ?_);have ne:¬ (fR t==fT)=af:=kE;rw[if_neg ne];refine aJ (gZ g1 g3 rfl ?_);refine aJ (mE t1 t2 ?_);simp only[MJ,hu];refine aJ (KP g1 g3 (by simp) (bA ⟨u,rfl,bA (q _ ⟨_,yP _ g1 (Obj.isFreed_of_fields (LP g3 _)),(Obj.cls_mapFields ..).trans g2,?_⟩ (yQ ..))⟩))
 rw[LP g3];simp[gR]
theorem Xe {j t:aC}{k:Nat}(hh:A.handled=ae)(hj:s.heap.IsTupleIter j t k)(ht:s.heap.IsTuple t us)(hu:us[k]?=ae)
  (q:∀ h' e,CV j s.heap h'->(∃ o,h'.get? e=aa o/\o.cls=.type "StopIteration")->E (.ref e) { s with heap:=h' }):aT (aX P w) A (yV (.ref j)) Q E s:=by
 obtain⟨oj,g1,g2,g3⟩:=id hj;obtain⟨ot,t1,_,nt,t2⟩:=ht;unfold yV;refine aJ (pA hj.typeIs MM (jX MM hj.typeIs F.entry_tuple_iterator_next ?_ (F.args_tuple_iterator_next_1 _)));show aT _ _ (field (.ref j) 0>>=_) _ _ s;refine aJ (gZ g1 g3 (x:=.ref t) rfl ?_);have ne:¬ (fR t==fT)=af:=kE;rw[if_neg ne];refine aJ (gZ g1 g3 rfl ?_);refine aJ (mE t1 t2 ?_);simp only[MJ,hu];refine aJ (sN (aJ (KP g1 g3 (by simp) ?_)))
 refine aJ ?_;simp only[newExc,newTuple];refine aJ (oZ ?_ (by size_fits))
 refine aJ (wpAny_of_eq (by first|rfl|(simp only[firstArgMember];rfl)) ?_)
 refine oZ ?_ (by size_fits)
 simp only[raiseNew];refine aJ (wpAny_handled ?_)
 first|rw[show A.in1.handled=ae from hh]|rw[hh]
 refine aJ (bA (wpAny_throw (q _ _ (((yQ ..).extBut.push _).push _) ⟨_,dG _ rfl,rfl⟩)))
theorem Us (j t:aC)(us:Array aF)(ne:t≠j):Sub P w j [j,t] (λk h=>h.IsTupleIter j t k/\h.IsTuple t us) us where
 mem:=bO
 obj:=λk h ⟨⟨o,e,_⟩,⟨o',e',_⟩⟩ c hc=>by
  grind
 keep:=λk h h' ⟨⟨o,e,r⟩,⟨o',e',r'⟩⟩ kp=>⟨⟨o,kp j bO o e,r⟩,⟨o',kp t (by simp) o' e',r'⟩⟩
 item:=λA E s Q k x ⟨a,b⟩ hx q=>Vl a b hx λh' a' sb=>q h' ⟨a',b.extBut sb.extBut ne⟩ sb
 done:=λA E s Q k hh ⟨a,b⟩ hx q=>Xe hh a b hx q
theorem Xo (j t:aC)(us:Array aF)(ne:t≠j):Sub P w j [j,t] (λk h=>h.IsListIter j t k/\h.IsList t us) us where
 mem:=bO
 obj:=λk h ⟨⟨o,e,_⟩,⟨o',e',_⟩⟩ c hc=>by
  grind
 keep:=λk h h' ⟨⟨o,e,r⟩,⟨o',e',r'⟩⟩ kp=>⟨⟨o,kp j bO o e,r⟩,⟨o',kp t (by simp) o' e',r'⟩⟩
 item:=λA E s Q k x ⟨a,b⟩ hx q=>wpAny_nextOf_list_item a b hx λh' a' sb=>q h' ⟨a',b.extBut sb.extBut ne⟩ sb
 done:=λA E s Q k hh ⟨a,b⟩ hx q=>wpAny_nextOf_list_end hh a b hx q
structure ZApart (z TI TO i1 i2:aC)(o1 o2:List aC):Prop where
 TIz:TI≠z
 TOz:TO≠z
 TITO:TI≠TO
 TI1:TI≠i1
 TI2:TI≠i2
 i12:i1≠i2
 z1:z∉o1
 z2:z∉o2
 TO1:TO∉o1
 TO2:TO∉o2
 x12:i1∉o2
 x21:i2∉o1
variable {TI TO:aC}{xs ys:Array aF}{k:Nat}
def kf (z TI TO i1 i2:aC)(S1 S2:Nat->aU->Prop)(f0:aF)(k:Nat)(h:aU):Prop:=
 IsZip h z TI TO f0/\mN h TI (.ref i1) (.ref i2)/\(∃ a b,mN h TO a b)/\S1 k h/\S2 k h
theorem Sub.but {c:aC}{own:List aC}{St:Nat->aU->Prop}(U:Sub P w it own St us)(st:St k h)(hc:c∉own)(e:CV c h h'):St k h':=
 U.keep k h h' st λb hb o g=>e b o (λq=>hc (q ▸ hb)) g
theorem Xb {x y:aF}(D:ZApart z TI TO i1 i2 o1 o2)(U:Sub P w i1 o1 S1 xs)(V:Sub P w i2 o2 S2 ys)(st:kf z TI TO i1 i2 S1 S2 .none k s.heap)(hx:xs[k]?=aa x)(hy:ys[k]?=aa y)
  (q:∀ h',kf z TI TO i1 i2 S1 S2 (gR s.heap.objs.size) (k+1) h'->mN h' s.heap.objs.size x y->h'.objs.size=s.heap.objs.size+1 ->
   (∀ c o,c≠z->c≠TO->c≠i1->c≠i2->s.heap.get? c=aa o->h'.get? c=aa o)->Q (.ref s.heap.objs.size) { s with heap:=h' }) :
  aT (aX P w) A (Builtin.«zip.__next__» ⟨[.ref z],[]⟩) (λfin s'=>∃ v,fin=.done (.ret v)/\Q v s') E s:=by
 obtain⟨gz,gI,⟨a,b,gO⟩,ku,jv⟩:=st;have z1:i1≠z:=λe=>D.z1 (e ▸ U.mem)
 have z2:i2≠z:=λe=>D.z2 (e ▸ V.mem)
 have t1:TO≠i1:=λe=>D.TO1 (e ▸ U.mem)
 have t2:TO≠i2:=λe=>D.TO2 (e ▸ V.mem)
 show aT _ _ (field (.ref z) 2>>=_) _ E s;refine aJ (gZ gz rfl rfl ?_);refine aJ (gZ gz rfl rfl (aJ (mE gI rfl ?_)));refine aJ ?_;unfold MR;refine aJ (gZ gz rfl rfl (bA ?_));simp only[if_true];refine aJ (sN (aJ (gZ gz rfl rfl ?_)));refine aJ (nH gz (by simp) λha l4 sa=>?_)
 replace l4:IsZip ha z TI TO .ellipsis:=l4;refine aJ ?_;simp only[List.zipIdx_cons,List.zipIdx_nil,Da,List.forIn_nil];refine aJ (aJ (KR ?_));refine aJ (U.item _ _ _ _ k x (U.but ku D.z1 sa.extBut) hx λhb qx sb=>bA ?_)
 have qy:=sb.extBut _ _ t1 (sa.extBut _ _ D.TOz gO);refine aJ (mE qy rfl (aJ (Br qy λhc uc sc=>?_)))
 replace uc:mN hc TO x b:=uc;refine aJ (CD (bA (aJ (aJ (KR ?_)))));refine aJ (V.item _ _ _ _ k y (V.but (V.but (V.but jv D.z2 sa.extBut) D.x12 sb.extBut) D.TO2 sc.extBut) hy λhd v4 sd=>bA ?_)
 have yw:=sd.extBut _ _ t2 uc;refine aJ (mE yw rfl (aJ (Br yw λhe ud se=>?_)))
 replace ud:mN he TO x y:=ud;refine aJ (CD (bA (bA ?_)));refine aJ (mE ud rfl (aJ (KS ?_)));have size:he.objs.size=s.heap.objs.size:=by rw[se.1,sd.1,sc.1,sb.1,sa.1]
 have yx:=se.extBut _ _ D.TOz.symm (sd.extBut _ _ z2.symm (sc.extBut _ _ D.TOz.symm (sb.extBut _ _ z1.symm l4)));have dL:∀ c o,c≠z->c≠TO->c≠i1->c≠i2->s.heap.get? c=aa o->he.get? c=aa o:=λc o n1 n2 n3 n4 g=>se.extBut _ _ n2 (sd.extBut _ _ n4 (sc.extBut _ _ n2 (sb.extBut _ _ n3 (sa.extBut _ _ n1 g))))
 have v5:=U.but (U.but (U.but qx D.TO1 sc.extBut) D.x21 sd.extBut) D.TO1 se.extBut;have v6:=V.but v4 D.TO2 se.extBut;have yy:=bW yx;refine aJ ?_;unfold Dn;have D2:IsZip (he.push { cls:=.type "tuple",data:=.seq #[x,y] }) z TI TO .ellipsis:=bX _ yx;refine aJ (nH D2 (by simp) λhg v7 sg=>?_)
 replace v7:IsZip hg z TI TO (gR he.objs.size):=v7;refine nH v7 (by simp) λhi ue si=>?_
 replace ue:IsZip hi z TI TO (gR he.objs.size):=ue;have up:∀ c o,c≠z->he.get? c=aa o->hi.get? c=aa o:=λc o n1 g=>si.extBut _ _ n1 (sg.extBut _ _ n1 (bX _ g))
 have gT:=si.extBut _ _ (pF yy) (sg.extBut _ _ (pF yy) (dG _ rfl));have sz:hi.objs.size=he.objs.size+1:=by rw[si.1,sg.1,tD]
 have v8:=U.keep _ _ _ v5 λc hc o g=>up c o (λe=>D.z1 (e ▸ hc)) g
 have v9:=V.keep _ _ _ v6 λc hc o g=>up c o (λe=>D.z2 (e ▸ hc)) g
 rw[size] at ue gT sz;refine bA ⟨_,rfl,?_⟩;rw[size];exact q hi ⟨ue,up _ _ D.TIz (dL _ _ D.TIz D.TITO D.TI1 D.TI2 gI),⟨x,y,up _ _ D.TOz ud⟩,v8,v9⟩ gT sz λc o n1 n2 n3 n4 g=>up c o n1 (dL c o n1 n2 n3 n4 g)
theorem Vd {Q:Fin->aI->Prop}(hh:A.handled=ae)(D:ZApart z TI TO i1 i2 o1 o2)(U:Sub P w i1 o1 S1 xs)(V:Sub P w i2 o2 S2 ys)(st:kf z TI TO i1 i2 S1 S2 .none k s.heap)(nr:xs[k]?=ae\/ys[k]?=ae)
  (q:∀ h' e,(∀ c o,c≠z->c≠TO->c≠i1->c≠i2->s.heap.get? c=aa o->h'.get? c=aa o)->(∃ o,h'.get? e=aa o/\o.cls=.type "StopIteration")->E (.ref e) { s with heap:=h' }) :
  aT (aX P w) A (Builtin.«zip.__next__» ⟨[.ref z],[]⟩) Q E s:=by
 obtain⟨gz,gI,⟨a,b,gO⟩,ku,jv⟩:=st;have z1:i1≠z:=λe=>D.z1 (e ▸ U.mem)
 have z2:i2≠z:=λe=>D.z2 (e ▸ V.mem)
 have t1:TO≠i1:=λe=>D.TO1 (e ▸ U.mem)
 show aT _ _ (field (.ref z) 2>>=_) _ E s;refine aJ (gZ gz rfl rfl ?_);refine aJ (gZ gz rfl rfl (aJ (mE gI rfl ?_)));refine aJ ?_;unfold MR;refine aJ (gZ gz rfl rfl (bA ?_));simp only[if_true];refine aJ (sN (aJ (gZ gz rfl rfl ?_)));refine aJ (nH gz (by simp) λha l4 sa=>?_)
 replace l4:IsZip ha z TI TO .ellipsis:=l4;refine aJ ?_;simp only[List.zipIdx_cons,List.zipIdx_nil,Da,List.forIn_nil];refine aJ (aJ (KR ?_));have yz:∀ {h':aU} {e:aC},IsZip h' z TI TO .ellipsis->(∃ o,h'.get? e=aa o/\o.cls=.type "StopIteration")->e≠z:=λg ⟨o,g1,g2⟩ n=>by
  subst n;rw[g] at g1;cases g1;simp at g2
 cases hx:xs[k]? with
 |none=>
  refine aJ (U.done _ _ _ _ k hh (U.but ku D.z1 sa.extBut) hx λhb e sb he=>?_)
  have ze:=sb _ _ z1.symm l4;have ne:=yz ze he;obtain⟨o,g1,g2⟩:=he;exact nH ze (by simp) λhc _ sc=>q hc e (λc o n1 _ n3 _ g=>sc.extBut _ _ n1 (sb _ _ n3 (sa.extBut _ _ n1 g))) ⟨o,sc.extBut _ _ ne g1,g2⟩
 |some x=>
  have hy:=nr.resolve_left λh=>by rw[hx] at h;cases h
  refine aJ (U.item _ _ _ _ k x (U.but ku D.z1 sa.extBut) hx λhb qx sb=>bA ?_)
  have qy:=sb.extBut _ _ t1 (sa.extBut _ _ D.TOz gO);refine aJ (mE qy rfl (aJ (Br qy λhc uc sc=>?_)))
  refine aJ (CD (bA (aJ (aJ (KR ?_)))));refine aJ (V.done _ _ _ _ k hh (V.but (V.but (V.but jv D.z2 sa.extBut) D.x12 sb.extBut) D.TO2 sc.extBut) hy λhd e sd he=>?_)
  have zf:=sd _ _ z2.symm (sc.extBut _ _ D.TOz.symm (sb.extBut _ _ z1.symm l4));have ne:=yz zf he;obtain⟨o,g1,g2⟩:=he;exact nH zf (by simp) λhf _ sf=>q hf e (λc o n1 n2 n3 n4 g=>sf.extBut _ _ n1 (sd _ _ n4 (sc.extBut _ _ n2 (sb.extBut _ _ n3 (sa.extBut _ _ n1 g))))) ⟨o,sf.extBut _ _ ne g1,g2⟩
theorem Vh {x y:aF}{Q:Option aF->aI->Prop}(D:ZApart z TI TO i1 i2 o1 o2)(U:Sub P w i1 o1 S1 xs)(V:Sub P w i2 o2 S2 ys)(st:kf z TI TO i1 i2 S1 S2 .none k s.heap)(hx:xs[k]?=aa x)(hy:ys[k]?=aa y)
  (q:∀ h',kf z TI TO i1 i2 S1 S2 (gR s.heap.objs.size) (k+1) h'->mN h' s.heap.objs.size x y->h'.objs.size=s.heap.objs.size+1 ->
   (∀ c o,c≠z->c≠TO->c≠i1->c≠i2->s.heap.get? c=aa o->h'.get? c=aa o)->Q (aa (.ref s.heap.objs.size)) { s with heap:=h' }):aT (aX P w) A (jY (.ref z)) Q E s:=by
 have ty:s.TypeIs (.ref z) "zip":=⟨_,st.1,rfl⟩;unfold jY;exact aJ (xZ (pA ty ML (jX ML ty F.entry_zip_next (Xb D U V st hx hy λh' a1 a2 a3 a4=>bA (q h' a1 a2 a3 a4)) (F.args_zip_next_1 _))))
theorem Wx {Q:Option aF->aI->Prop}(hh:A.handled=ae)(D:ZApart z TI TO i1 i2 o1 o2)(U:Sub P w i1 o1 S1 xs)(V:Sub P w i2 o2 S2 ys)(st:kf z TI TO i1 i2 S1 S2 .none k s.heap)(nr:xs[k]?=ae\/ys[k]?=ae)
  (q:∀ h',(∀ c o,c≠z->c≠TO->c≠i1->c≠i2->s.heap.get? c=aa o->h'.get? c=aa o)->Q ae { s with heap:=h' }):aT (aX P w) A (jY (.ref z)) Q E s:=by
 have ty:s.TypeIs (.ref z) "zip":=⟨_,st.1,rfl⟩;unfold jY;refine aJ (xZ (pA ty ML (jX ML ty F.entry_zip_next (Vd hh D U V st nr λh' e kp ⟨o,g1,g2⟩=>?_) (F.args_zip_next_1 _))))
 exact aJ (CF ⟨o,g1,g2⟩ isSubtype_stop (bA (q _ kp)))
end
def SqB (b:Bool)(h:aU)(l:aC)(us:Array aF):Prop:=match b with
 |true=>h.IsList l us
 |false=>h.IsTuple l us
def iq (b:Bool)(l:aC):bI:={ cls:=.type (match b with|true=>"list_iterator" | false=>"tuple_iterator"),data:=.fields #[.ref l,.int 0 0] }
def StB (b:Bool)(j l:aC)(us:Array aF)(k:Nat)(h:aU):Prop:=match b with
 |true=>h.IsListIter j l k/\h.IsList l us
 |false=>h.IsTupleIter j l k/\h.IsTuple l us
theorem tX {P:bN}(b:Bool)(j l:aC)(us:Array aF)(ne:l≠j):Sub P w j [j,l] (StB b j l us) us:=by
 cases b with
 |true=>exact Xo j l us ne
 |false=>exact Us j l us ne
theorem SqB.keep(q:SqB b h l us)(k:∀ o,h.get? l=aa o->h'.get? l=aa o):SqB b h' l us:=by
 cases b with
 |true=>
  obtain⟨o,e,r⟩:=q;exact⟨o,k o e,r⟩
 |false=>
  obtain⟨o,e,r⟩:=q;exact⟨o,k o e,r⟩
theorem StB.new{j:aC}(q:SqB b h l us)(e:h.get? j=aa (iq b l)):StB b j l us 0 h:=by
 cases b with
 |true=>exact⟨⟨_,e,rfl,rfl⟩,q⟩
 |false=>exact⟨⟨_,e,rfl,rfl⟩,q⟩
section
variable {P:bN}{b2:Bool}{l1 l2:aC}{xs ys:Array aF}
theorem wO(h:SqB b s.heap l us)(q:Q (.ref s.heap.objs.size) { s with heap:=s.heap.push (iq b l) }):aT (aX P w) A (sP (.ref l)) Q E s:=by
 cases b with
 |true=>exact KQ h q
 |false=>exact wpAny_pyIter_tuple h q
abbrev zA (b1:Bool)(h:aU)(l1:aC):aU:=h.push (iq b1 l1)
abbrev zB (b1 b2:Bool)(h:aU)(l1 l2:aC):aU:=(zA b1 h l1).push (iq b2 l2)
abbrev zC (b1 b2:Bool)(h:aU)(l1 l2:aC):aU:=(zB b1 b2 h l1 l2).push { cls:=.type "tuple",data:=.seq #[.ref h.objs.size,.ref (zA b1 h l1).objs.size] }
abbrev zD (b1 b2:Bool)(h:aU)(l1 l2:aC):aU:=(zC b1 b2 h l1 l2).push { cls:=.type "tuple",data:=.seq #[.none,.none] }
abbrev zE (b1 b2:Bool)(h:aU)(l1 l2:aC):aU:=(zD b1 b2 h l1 l2).push { cls:=.type "zip",data:=.fields #[.none,.bool ag,.bool ag,.ref (zB b1 b2 h l1 l2).objs.size,.ref (zC b1 b2 h l1 l2).objs.size] }
theorem Wl (b1 b2:Bool)(l1 l2:aC)(xs ys:Array aF) :
  Meets (Builtin.«zip.__new__» ⟨[.type "zip",.ref l1,.ref l2],[]⟩) (λ_ R s=>SqB b1 s.heap l1 xs/\SqB b2 s.heap l2 ys /\
   R (.ok (.ret (.ref (zD b1 b2 s.heap l1 l2).objs.size))) { s with heap:=zE b1 b2 s.heap l1 l2 }):=
 .of_wp λprog w A R s h=>by
  obtain⟨hp,g,d,tk,os⟩:=s;obtain⟨q1,q2,q⟩:=h;have sz:=sub_zip;have u1:SqB b1 (Shared.heap ⟨hp,g,d,tk,os⟩) l1 xs:=q1;have u2:SqB b2 (Shared.heap ⟨hp.push (iq b1 l1),g,d,tk,os⟩) l2 ys:=q2.keep λo e=>bX _ e
  wp_walk using wO u1,wO u2
  exact⟨_,rfl,q⟩
theorem Os {l1 l2:Nat}(h1:l1<n)(h2:l2<n):ZApart (n+4) (n+2) (n+3) n (n+1) [n,l1] [n+1,l2]:=by
 have o8:∀ {a b c:Nat},a≠b->a≠c->a∉[b,c]:=λh h' m=>by
  grind
 have ne:∀ {a b:Nat},a<b->a≠b:=eB;have en:∀ {a b:Nat},b<a->a≠b:=pF;exact⟨ne (),ne (),ne (),en (),en (),ne (),o8 (en ()) (en ()),o8 (en ()) (en ()),o8 (en ()) (en ()),o8 (en ()) (en ()),o8 (ne ()) (en h2),o8 (en ()) (en ())⟩
theorem Vn(h1:SqB b1 s.heap l1 xs)(h2:SqB b2 s.heap l2 ys)
  (q:∀ (z TI TO i1 i2:aC) (h':aU),s.heap.objs.size<=z->s.heap.objs.size<=TI->s.heap.objs.size<=TO->s.heap.objs.size<=i1->s.heap.objs.size<=i2->ZApart z TI TO i1 i2 [i1,l1] [i2,l2]->kf z TI TO i1 i2 (StB b1 i1 l1 xs) (StB b2 i2 l2 ys) .none 0 h' ->
   (∀ c o,s.heap.get? c=aa o->h'.get? c=aa o)->Q (.ref z) { s with heap:=h' }):aT (aX P w) A (call (.type "zip") [.ref l1,.ref l2]) Q E s:=by
 refine callType_new F.called_zip nofun (F.typeCall_zip_2 _ _) (F.newCall_zip_2 _ _) (λobj=>F.args_object_init_3 obj _ _) F.entry_zip_new (Wl b1 b2 l1 l2 xs ys) ⟨h1,h2,?_⟩
 have za:(zA b1 s.heap l1).objs.size=s.heap.objs.size+1:=tD ..;have zb:(zB b1 b2 s.heap l1 l2).objs.size=s.heap.objs.size+2:=by rw[tD,za]
 have zc:(zC b1 b2 s.heap l1 l2).objs.size=s.heap.objs.size+3:=by rw[tD,zb]
 have zd:(zD b1 b2 s.heap l1 l2).objs.size=s.heap.objs.size+4:=by rw[tD,zc]
 have g5:(zE b1 b2 s.heap l1 l2).get? (zD b1 b2 s.heap l1 l2).objs.size=aa _:=dG _ rfl;have g4:(zE b1 b2 s.heap l1 l2).get? (zC b1 b2 s.heap l1 l2).objs.size=aa _:=bX _ (dG _ rfl);have g3:(zE b1 b2 s.heap l1 l2).get? (zB b1 b2 s.heap l1 l2).objs.size=aa _:=bX _ (bX _ (dG _ rfl));have g2:(zE b1 b2 s.heap l1 l2).get? (zA b1 s.heap l1).objs.size=aa (iq b2 l2):=bX _ (bX _ (bX _ (dG _ (by cases b2<;>rfl))))
 have g1:(zE b1 b2 s.heap l1 l2).get? s.heap.objs.size=aa (iq b1 l1):=bX _ (bX _ (bX _ (bX _ (dG _ (by cases b1<;>rfl)))))
 have all:∀ c o,s.heap.get? c=aa o->(zE b1 b2 s.heap l1 l2).get? c=aa o:=λc o x=>bX _ (bX _ (bX _ (bX _ (bX _ x))))
 have D3:l1<s.heap.objs.size:=by
  cases b1 with
  |true=>obtain⟨o,e,_⟩:=h1;exact bW e
  |false=>obtain⟨o,e,_⟩:=h1;exact bW e
 have D4:l2<s.heap.objs.size:=by
  cases b2 with
  |true=>obtain⟨o,e,_⟩:=h2;exact bW e
  |false=>obtain⟨o,e,_⟩:=h2;exact bW e
 refine⟨⟨_,g5,rfl⟩,q _ (zB b1 b2 s.heap l1 l2).objs.size (zC b1 b2 s.heap l1 l2).objs.size s.heap.objs.size (zA b1 s.heap l1).objs.size _ () () () () () ?_ ⟨g5,g3,⟨_,_,g4⟩,StB.new (h1.keep (all l1)) g1,StB.new (h2.keep (all l2)) g2⟩ all⟩
 have ap:=Os D3 D4;rw[<-za,<-zb,<-zc,<-zd] at ap;exact ap
end
def ItB (b:Bool)(j l:aC)(k:Nat)(h:aU):Prop:=match b with
 |true=>h.IsListIter j l k
 |false=>h.IsTupleIter j l k
theorem Adk{j:aC}{k:Nat}:StB b j l us k h↔ItB b j l k h/\SqB b h l us:=by cases b<;>exact Iff.rfl
theorem ItB.get{j:aC}{k:Nat}(q:ItB b j l k h):∃ o,h.get? j=aa o/\∀ v,o.data ≠ .cell v:=by
 cases b with
 |true=>
  obtain⟨o,e,_,d⟩:=q
  grind
 |false=>
  obtain⟨o,e,_,d⟩:=q
  grind
theorem ItB.keep{j:aC}{k:Nat}(q:ItB b j l k h)(kp:∀ o,h.get? j=aa o->h'.get? j=aa o):ItB b j l k h':=by
 cases b with
 |true=>
  obtain⟨o,e,r⟩:=q;exact⟨o,kp o e,r⟩
 |false=>
  obtain⟨o,e,r⟩:=q;exact⟨o,kp o e,r⟩
def gc (b:Bool)(K:aK)(H:Hp)(a:aC)(xs:List V):Prop:=match b with
 |true=>SqL K H a xs
 |false=>SqT K H a xs
section
variable {Z:St}
theorem Inv.sqB(I:Inv X ad Z H s)(h:gc b X.K H a xs):∃ its:List aF,Vals xs its/\SqB b s.heap a its.toArray:=by
 cases b with
 |true=>
  obtain⟨its,rv,p,_⟩:=I.list h;exact⟨its,rv,p.isList⟩
 |false=>
  obtain⟨its,rv,p,_⟩:=I.tuple h;exact⟨its,rv,p⟩
theorem Inv.sqV_inj(I:Inv X ad Z H s)(h:gc b X.K H a xs)(h':gc b X.K H a ys):xs=ys:=by
 cases b with
 |true=>exact I.list_inj h h'
 |false=>exact I.tuple_inj h h'
theorem Inv.turnM {t':Nat}{fp:List aC}(I:Inv X ad Z H s)(hf:∀ b∈fp,iR X ad H b)(k:∀ b o,b∉fp->s.heap.get? b=aa o->h'.get? b=aa o):Inv X ad Z H { s with heap:=h',toks:=t' }:=by
 have out:∀ b u,H b=aa u->b∉fp:=λb u e m=>by
  rw[(hf b m).1] at e;cases e
 have loc:X.env.locals∉fp:=λm=>(hf _ m).2.1 rfl
 refine I.step (λb m=>⟨(hf b m).2.2.2.1,(hf b m).2.1,(hf b m).2.2.2.2.1,(hf b m).2.2.2.2.2⟩) (λb o _ _ n e _=>k b o n e) (λb o _ _ n e _=>⟨o.slots,k b o n e⟩) (λ_ _ _ _ n=>n)
  (λb o n e=>⟨o,k b o n e⟩) (λ_ _ e=>e) (λ_ _ _ e=>e) (λb ps e=>⟨#[],by rw[e];simp⟩) (λm hm=>?_) (λb u e=>?_) I.bare
 .obtain⟨o,es,ep,ho,r⟩:=hm;exact⟨o,es,ep,k _ o loc ho,r⟩
 .refine(I.hok b u e).stay (λc v hc q=>k c v ?_ q) (λ_ q=>q) λ_ _ q=>q
  grind
end
def DC (K:aK)(b1 b2:Bool)(a1 a2:aC):It:=
  ⟨λi H=>∃ xs ys x y,gc b1 K H a1 xs/\gc b2 K H a2 ys/\xs[i]?=aa x/\ys[i]?=aa y,
   λi H v H'=>∃ T x y,H T=ae/\v=.ref T/\(∀ xs,gc b1 K H a1 xs->xs[i]?=aa x)/\(∀ ys,gc b2 K H a2 ys->ys[i]?=aa y)/\H'=upd H T (.tup [x,y]),
   λi H=>∃ xs ys,gc b1 K H a1 xs/\gc b2 K H a2 ys/\(xs.length<=i\/ys.length<=i)⟩
def L9 (b1 b2:Bool)(a1 a2 z TI TO i1 i2:aC)(i:Nat)(h:aU):Prop:=IsZip h z TI TO .none/\mN h TI (.ref i1) (.ref i2)/\(∃ a b,mN h TO a b)/\ItB b1 i1 a1 i h/\ItB b2 i2 a2 i h
theorem Vj {P:bN}{cx}{pos:bH}{b1 b2:Bool}{a1 a2 z TI TO i1 i2:aC}(D:ZApart z TI TO i1 i2 [i1,a1] [i2,a2])(n1:a1≠i1)(n2:a2≠i2) :
  Turn P w K (.Tuple es cx pos) (DC K b1 b2 a1 a2) [z,TI,TO,i1,i2] z (L9 b1 b2 a1 a2 z TI TO i1 i2) where
 mem:=by simp
 obj:=λi h ⟨g1,g2,⟨a,b,g3⟩,g4,g5⟩ c hc=>by
  simp only[cV,sW,or_false] at hc;rcases hc with rfl|rfl|rfl|rfl|rfl
  .exact⟨_,g1,λv q=>by cases q⟩
  .exact⟨_,g2,λv q=>by cases q⟩
  .exact⟨_,g3,λv q=>by cases q⟩
  .exact g4.get
  .exact g5.get
 keep:=λi h h' ⟨g1,g2,⟨a,b,g3⟩,g4,g5⟩ k=>⟨k z (by simp) _ g1,k TI (by simp) _ g2,⟨a,b,k TO (by simp) _ g3⟩,g4.keep (k i1 (by simp)),g5.keep (k i2 (by simp))⟩
 item:=by
  rw[1];obtain⟨xs,ys,x,y,q1,q2,hx,hy⟩:=hg;obtain⟨us,r1,s1⟩:=I.sqB q1;obtain⟨vs,r2,s2⟩:=I.sqB q2;obtain⟨u,hu,ru⟩:=r1.get hx;obtain⟨v,hv,rv⟩:=r2.get hy;obtain⟨g1,g2,⟨pa,pb,g3⟩,g4,g5⟩:=st;have kc:kf z TI TO i1 i2 (StB b1 i1 a1 us.toArray) (StB b2 i2 a2 vs.toArray) .none i s.heap:=⟨g1,g2,⟨pa,pb,g3⟩,Adk.2 ⟨g4,s1⟩,Adk.2 ⟨g5,s2⟩⟩;have gr:∀ b∈[z,TI,TO,i1,i2],b<s.heap.objs.size:=λb m=>by
   simp only[cV,sW,or_false] at m;rcases m with rfl|rfl|rfl|rfl|rfl
   .exact bW g1
   .exact bW g2
   .exact bW g3
   .obtain⟨o,e,_⟩:=g4.get;exact bW e
   .obtain⟨o,e,_⟩:=g5.get;exact bW e
  refine Vh D (tX b1 i1 a1 us.toArray n1) (tX b2 i2 a2 vs.toArray n2) kc (by simpa using hu) (by simpa using hv) λh' zt pr sz dL=>?_
  have fr:=I.hok.fresh (bJ _);have I0:Inv X ad Z (upd H s.heap.objs.size (.tup [x,y])) { s with heap:=s.heap.push { cls:=.type "tuple",data:=.seq #[u,v] } }:=
   I.laid (λb ob q=>bX _ q) (bJ _) ⟨by show 2<=sizeLine;decide,[u,v],.cons ru (.cons rv .nil),A4w.new _ _⟩
  have j1:∀ b∈[z,TI,TO,i1,i2],iR X ad (upd H s.heap.objs.size (.tup [x,y])) b:=λb m=>⟨by rw[bP (eB (gr b m))];exact(hf b m).1,(hf b m).2⟩
  have I1:Inv X ad Z (upd H s.heap.objs.size (.tup [x,y])) { s with heap:=h' }:=I0.turnM j1 λb o n e=>by
   simp only[cV,sW,or_false,not_or] at n;by_cases hb:b=s.heap.objs.size
   .subst hb;have e':(s.heap.push { cls:=.type "tuple",data:=.seq #[u,v] }).get? s.heap.objs.size=aa { cls:=.type "tuple",data:=.seq #[u,v] }:=dG _ rfl
    grind
   .exact dL b o n.1 n.2.2.1 n.2.2.2.1 n.2.2.2.2 ((Di _ _ _ hb).symm.trans e)
  obtain⟨w1,w2,⟨wa,wb,w3⟩,w4,w5⟩:=zt;have z1:i1≠z:=λe=>D.z1 (e ▸ bO)
  have z2:i2≠z:=λe=>D.z2 (e ▸ bO)
  refine⟨_,rfl,wpAny_letOwnedTupleGo_zip w1 λh2 gz sb=>?_⟩
  have I2:Inv X ad Z (upd H s.heap.objs.size (.tup [x,y])) { s with heap:=h2 }:=I1.turnM j1 λb o n e=>sb.extBut b o (λq=>n (by simp[q])) e
  exact⟨.ref s.heap.objs.size,_,I2,rfl,⟨_,x,y,fr,rfl,λgv h=>by rw[I.sqV_inj h q1];exact hx,λo9 h=>by rw[I.sqV_inj h q2];exact hy,rfl⟩,
   ⟨gz,sb.extBut _ _ D.TIz w2,⟨wa,wb,sb.extBut _ _ D.TOz w3⟩,(Adk.1 w4).1.keep λo e=>sb.extBut _ _ z1 e,(Adk.1 w5).1.keep λo e=>sb.extBut _ _ z2 e⟩,λb m=>(j1 b m).1⟩
 done:=by
  rw[1];obtain⟨xs,ys,q1,q2,hl⟩:=hg;obtain⟨us,r1,s1⟩:=I.sqB q1;obtain⟨vs,r2,s2⟩:=I.sqB q2;obtain⟨g1,g2,g3,g4,g5⟩:=st;have kc:kf z TI TO i1 i2 (StB b1 i1 a1 us.toArray) (StB b2 i2 a2 vs.toArray) .none i s.heap:=⟨g1,g2,g3,Adk.2 ⟨g4,s1⟩,Adk.2 ⟨g5,s2⟩⟩;have l1:=r1.length;have l2:=r2.length;refine Wx (I.ok.hd hc) D (tX b1 i1 a1 us.toArray n1) (tX b2 i2 a2 vs.toArray n2) kc ?_ λh' dL=>⟨rfl,I.turnM hf λb o n e=>?_⟩
  all_goals grind
 self:=λ_ _ _ _ _ st h=>wpAny_pyIter_zip st.1 h
section
variable {a b:aQ}{p:bH}
def Ei (K:aK)(ta:TA):TI:=λZ H R=>ta Z H λvs H1=>∃ a1 a2 b1 b2 xs ys,vs=[.ref a1,.ref a2]/\gc b1 K H1 a1 xs/\gc b2 K H1 a2 ys/\R (DC K b1 b2 a1 a2) H1
theorem Jk {ta:TA}(hg:Gl X "zip")(hm:X.mg "zip" = ae)(ha:PA X [a,b] ta)(hs:cC [a,b] X.env=[(ag,bZ a X.env),(ag,bZ b X.env)]:=by rfl)(ib:cC [b] X.env=[(ag,bZ b X.env)]:=by rfl) :
  PI X (.Tuple es cx gq) (.Call (.Name "zip" p) [a,b] [] pos) (Ei X.K ta):=by
 intro ad s Z H R I h;refine Call_ (uC I hg hm boot_zip (LL (bb (ha pos ad s Z H _ I h) λus s1 ⟨vs,H1,I1,r1,q1⟩=>?_) (by rw[hs,ib]) (by rw[ib];rfl)))
 obtain⟨a1,a2,b1,b2,xs,ys,rfl,k1,k2,q⟩:=q1;cases r1 with
 |cons r rr=>
  cases rr with
  |cons r' rr=>
   cases rr;cases r;cases r';obtain⟨u1,_,w1⟩:=I1.sqB k1;obtain⟨u2,_,w2⟩:=I1.sqB k2;have m1:a1<s1.heap.objs.size:=by
    cases b1 with
    |true=>obtain⟨o,e,_⟩:=w1;exact bW e
    |false=>obtain⟨o,e,_⟩:=w1;exact bW e
   have m2:a2<s1.heap.objs.size:=by
    cases b2 with
    |true=>obtain⟨o,e,_⟩:=w2;exact bW e
    |false=>obtain⟨o,e,_⟩:=w2;exact bW e
   refine Vn w1 w2 λz TI TO i1 i2 h' y0 y1 y2 y3 y4 D kc all=>wpAny_pyIter_zip kc.1 ?_
   refine⟨z,[z,TI,TO,i1,i2],_,_,H1,rfl,I1.kept all,Vj D (λe=>?_) (λe=>?_),⟨kc.1,kc.2.1,kc.2.2.1,(Adk.1 kc.2.2.2.1).1,(Adk.1 kc.2.2.2.2).1⟩,λb m=>?_,q⟩
   .grind
   .grind
   .have le:s1.heap.objs.size<=b:=by
     grind
    exact I1.fpOk le (I1.hok.fresh le)
def oH:aA->Option (List aA)
 |.list ds=>aa ds
 |.tuple ds=>aa ds
 |_=>ae
def pairD (x y:aA):aA:=.tuple [x,y]
def iZ (fa:AF):AF:=λY=>(fa Y).bind λds=>match ds with
 |[x,y]=>(oH x).bind λxs=>(oH y).bind λys=>aa (yH pairD xs ys)
 |_=>ae
theorem IM{B:Hp}(e:oH d=aa ds)(r:Abj K B d v):∃ a b xs,v=.ref a/\(∀ H2,Ext B H2->gc b K H2 a xs)/\Aao K B ds xs:=by
 cases d with
 |list es=>
  cases e;obtain⟨a,xs,rfl,h,rr⟩:=Abe.1 r;exact⟨a,af,xs,rfl,λH2 x2=>x2.sqL h,rr⟩
 |tuple es=>
  cases e;obtain⟨a,xs,rfl,h,rr⟩:=Aar.1 r;exact⟨a,ag,xs,rfl,λH2 x2=>SqT.of (x2 _ _ h),rr⟩
 |_=>cases e
theorem Ut{B:Hp}{b2:Bool}{a1 a2:aC}{es:List aA}(h1:∀ H2,Ext B H2->gc b1 K H2 a1 xs)(h2:∀ H2,Ext B H2->gc b2 K H2 a2 ys)(r1:Aao K B ds xs)(r2:Aao K B es ys) :
  gx K B (DC K b1 b2 a1 a2) (yH pairD ds es):=λi H2 x2=>by
 refine⟨λd hd=>?_,λe=>⟨xs,ys,h1 H2 x2,h2 H2 x2,?_⟩⟩
 .rw[List.getElem?_zipWith] at hd;cases c1:ds[i]? with
  |none=>rw[c1] at hd;simp at hd
  |some d1=>
   cases c2:es[i]? with
   |none=>rw[c1,c2] at hd;simp at hd
   |some d2=>
    rw[c1,c2] at hd;have hd:pairD d1 d2=d:=by simpa using hd
    subst hd;obtain⟨v1,g1,g2⟩:=r1.get c1;obtain⟨v2,g3,g4⟩:=r2.get c2;refine⟨⟨xs,ys,v1,v2,h1 H2 x2,h2 H2 x2,g1,g3⟩,?_⟩;rintro x H3 ⟨T,x',y',fr,rfl,k1,k2,rfl⟩;obtain rfl:v1=x':=fH (g1.symm.trans (k1 xs (h1 H2 x2)));obtain rfl:v2=y':=fH (g3.symm.trans (k2 ys (h2 H2 x2)));have ext:Ext H2 (upd H2 T (.tup [v1,v2])):=λb u e=>by rw[bP (gQ e fr)];exact e
    refine⟨ext,λP2 qz xb=>?_⟩
    have nT:¬ P2 T:=λq=>by
     rcases qz T q with⟨o,e⟩|⟨o,e⟩<;>rw[fr] at e<;>cases e
    have gT:hid (upd H2 T (.tup [v1,v2])) P2 T=aa (.tup [v1,v2]):=dS nT cN;have xx:=xb.trans (cG ext);exact Aar.2 ⟨T,_,rfl,gT,Aaf.2 ⟨_,_,rfl,g2.ext xx,Aaf.2 ⟨_,_,rfl,g4.ext xx,Aaj.2 rfl⟩⟩⟩
 .rw[List.length_zipWith] at e;rw[r1.length,r2.length]
  lia
theorem EW {fa:AF}(hg:Gl X "zip")(hm:X.mg "zip" = ae)(ha:DA X [a,b] fa)(hs:cC [a,b] X.env=[(ag,bZ a X.env),(ag,bZ b X.env)]:=by rfl)(ib:cC [b] X.env=[(ag,bZ b X.env)]:=by rfl) :
  DI X (.Tuple es cx gq) (.Call (.Name "zip" p) [a,b] [] pos) (iZ fa):=PI.imp (Jk hg hm ha hs ib) λZ H R gh=>by
 obtain⟨P,Y,ds,hP,rs,ef,k⟩:=gh;obtain⟨as,e1,bq⟩:=aj ef;clear ef
 match as,e1,bq with
 |[x,y],e1,bq=>
  obtain⟨xs,e2,bi⟩:=aj (show((oH x).bind λxs=>(oH y).bind λys=>aa (yH pairD xs ys))=aa ds from bq)
  obtain⟨ys,e3,b9⟩:=aj bi;cases b9;refine⟨P,Y,_,hP,rs,e1,λvs H1 x1 r1=>?_⟩
  obtain⟨v,t,rfl,q1,q2⟩:=Aaf.1 r1;obtain⟨v',rfl,q3⟩:=gP q2;obtain⟨a1,b1,us,rfl,k1,w1⟩:=IM e2 q1;obtain⟨a2,b2,D5,rfl,k2,w2⟩:=IM e3 q3;exact⟨a1,a2,b1,b2,us,D5,rfl,k1 _ Aap,k2 _ Aap,k _ H1 x1 (Ut k1 k2 w1 w2)⟩
 |[],_,h=>cases h
 |[_],_,h=>cases h
 |_::_::_::_,_,h=>cases h
end
section
variable {P:bN}{e j:aC}{own:List aC}{S:Nat->aU->Prop}{xs:Array aF}{k:Nat}{x dL:aF}
theorem Yn(U:Sub P w j own S xs)(ne:e∉own)(ge:pK s.heap e j (k:Int) dL)(st:S k s.heap)(hx:xs[k]?=aa x)
  (q:∀ h',IsEnumOut h' e j ((k+1:Nat):Int) x s.heap.objs.size->S (k+1) h'->mN h' s.heap.objs.size (.int k s.toks) x->h'.objs.size=s.heap.objs.size+1 ->
   (∀ c o,c≠e->c≠j->s.heap.get? c=aa o->h'.get? c=aa o)->Q (.ref s.heap.objs.size) { s with heap:=h',toks:=s.toks+1 }) :
  aT (aX P w) A (Builtin.«enumerate.__next__» ⟨[.ref e],[]⟩) (λfin s'=>∃ v,fin=.done (.ret v)/\Q v s') E s:=by
 have nj:e≠j:=λh=>ne (h ▸ U.mem)
 show aT _ _ (field (.ref e) 2>>=_) _ E s;refine aJ (gZ ge rfl (x:=.ref j) rfl (aJ (U.item _ _ _ _ k x st hx λha D6 sa=>?_)))
 have we:pK ha e j (k:Int) dL:=sa.extBut _ _ nj ge;show aT _ _ (field (.ref e) 3>>=_) _ E _;refine aJ (gZ we rfl (x:=gR k) rfl ?_);show aT _ _ (field (.ref e) 4>>=_) _ E _;refine aJ (gZ we rfl (x:=.none) rfl ?_);show aT _ _ (mkInt k>>=_) _ E _;refine aJ (wpAny_mkInt ?_);show aT _ _ (setField (.ref e) 3 (gR ((k:Int)+1))>>=_) _ E _;refine aJ (nH we (by simp) λhb wf sb=>?_)
 replace wf:pK hb e j ((k+1:Nat):Int) dL:=wf;show aT _ _ (setField (.ref e) 4 .none>>=_) _ E _;refine aJ (nH wf (by simp) λhc uf sc=>?_)
 replace uf:pK hc e j ((k+1:Nat):Int) dL:=uf;show aT _ _ (newTuple [.int k s.toks,x]>>=_) _ E _;refine aJ (KS ?_);have size:hc.objs.size=s.heap.objs.size:=by rw[sc.1,sb.1,sa.1]
 have lt:e<hc.objs.size:=bW uf;have wg:∀ c o,c≠e->c≠j->s.heap.get? c=aa o->hc.get? c=aa o:=λc o n1 n2 g=>sc.extBut _ _ n1 (sb.extBut _ _ n1 (sa.extBut _ _ n2 g))
 have D7:S (k+1) hc:=U.but (U.but D6 ne sb.extBut) ne sc.extBut;have wj:pK (hc.push { cls:=.type "tuple",data:=.seq #[.int k s.toks,x] }) e j ((k+1:Nat):Int) dL:=bX _ uf;show aT _ _ (MR (.ref e)>>=_) _ E _;refine aJ ?_;unfold MR;refine aJ (gZ wj rfl (x:=.none) rfl (bA ?_));simp only[if_true];refine aJ (sN (aJ (gZ wj rfl (x:=dL) rfl (aJ (nH wj (by simp) λhe wk se=>?_)))))
 replace wk:pK he e j ((k+1:Nat):Int) x:=wk;show aT _ _ (Dn (.ref e) (.ref hc.objs.size)>>=_) _ E _;refine aJ ?_;unfold Dn;refine aJ (nH wk (by simp) λhf wm sf=>?_)
 replace wm:IsEnumOut hf e j ((k+1:Nat):Int) x hc.objs.size:=wm;refine nH wm (by simp) λhg ug sg=>?_
 replace ug:IsEnumOut hg e j ((k+1:Nat):Int) x hc.objs.size:=ug;have up:∀ c o,c≠e->(hc.push { cls:=.type "tuple",data:=.seq #[.int k s.toks,x] }).get? c=aa o->hg.get? c=aa o:=λc o n g=>sg.extBut _ _ n (sf.extBut _ _ n (se.extBut _ _ n g))
 have sz:hg.objs.size=hc.objs.size+1:=by rw[sg.1,sf.1,se.1,tD]
 have pr:mN hg hc.objs.size (.int k s.toks) x:=up _ _ (pF lt) (dG _ rfl);have D8:S (k+1) hg:=U.keep _ _ _ D7 λc m o g=>up c o (λh=>ne (h ▸ m)) (bX _ g)
 refine aJ (CD (bA ⟨_,rfl,?_⟩));rw[size] at ug pr sz ⊢;exact q hg ug D8 pr sz λc o n1 n2 g=>up c o n1 (bX _ (wg c o n1 n2 g))
theorem Oh {Q:Option aF->aI->Prop}(U:Sub P w j own S xs)(ne:e∉own)(ge:pK s.heap e j (k:Int) dL)(st:S k s.heap)(hx:xs[k]?=aa x)
  (q:∀ h',IsEnumOut h' e j ((k+1:Nat):Int) x s.heap.objs.size->S (k+1) h'->mN h' s.heap.objs.size (.int k s.toks) x->h'.objs.size=s.heap.objs.size+1 ->
   (∀ c o,c≠e->c≠j->s.heap.get? c=aa o->h'.get? c=aa o)->Q (aa (.ref s.heap.objs.size)) { s with heap:=h',toks:=s.toks+1 }):aT (aX P w) A (jY (.ref e)) Q E s:=by
 have ty:s.TypeIs (.ref e) "enumerate":=⟨_,ge,rfl⟩;unfold jY;exact aJ (xZ (pA ty MO (jX MO ty F.entry_enumerate_next (Yn U ne ge st hx λh' a1 a2 a3 a4 a5=>bA (q h' a1 a2 a3 a4 a5)) (F.args_enumerate_next_1 _))))
theorem Oa {Q:Option aF->aI->Prop}(hh:A.handled=ae)(U:Sub P w j own S xs)(ge:pK s.heap e j (k:Int) dL)(st:S k s.heap)(hx:xs[k]?=ae)
  (q:∀ h',CV j s.heap h'->Q ae { s with heap:=h' }):aT (aX P w) A (jY (.ref e)) Q E s:=by
 have ty:s.TypeIs (.ref e) "enumerate":=⟨_,ge,rfl⟩;unfold jY;refine aJ (xZ (pA ty MO (jX MO ty F.entry_enumerate_next ?_ (F.args_enumerate_next_1 _))));show aT _ _ (field (.ref e) 2>>=_) _ _ _;refine aJ (gZ ge rfl (x:=.ref j) rfl (aJ (U.done _ _ _ _ k hh st hx λh' a kp gh=>?_)))
 obtain⟨o,g1,g2⟩:=gh;exact aJ (CF ⟨o,g1,g2⟩ isSubtype_stop (bA (q _ kp)))
theorem Oy (b:Bool)(l:aC)(us:Array aF) :
  Meets (Builtin.«enumerate.__new__» ⟨[.type "enumerate",.ref l],[]⟩) (λ_ R s=>SqB b s.heap l us /\
   R (.ok (.ret (.ref (s.heap.push (iq b l)).objs.size))) { s with heap:=(s.heap.push (iq b l)).push { cls:=.type "enumerate",data:=.fields #[.none,.bool ag,.ref s.heap.objs.size,gR 0,.none,.none] } }):=
 .of_wp λprog w A R s h=>by
  obtain⟨hp,g,d,tk,os⟩:=s;obtain⟨q1,q⟩:=h;have sz:=sub_enumerate;have u1:=q1
  wp_walk
  refine wpAny_stack_any λst=>bA ?_
  split
  .rename_i c _ _ _ _ _;cases(c==mG "enumerate")
   .wp_walk using wO u1
    exact⟨_,rfl,q⟩
   .wp_walk using wO u1
    exact⟨_,rfl,q⟩
  .wp_walk using wO u1
   exact⟨_,rfl,q⟩
theorem Pc(h1:SqB b s.heap l us)
  (q:∀ (e j:aC) (h':aU),s.heap.objs.size<=e->s.heap.objs.size<=j->e∉[j,l]->l≠j->pK h' e j ((0:Nat):Int) .none->StB b j l us 0 h'->(∀ c o,s.heap.get? c=aa o->h'.get? c=aa o)->Q (.ref e) { s with heap:=h' }) :
  aT (aX P w) A (call (.type "enumerate") [.ref l]) Q E s:=by
 refine callType_new F.called_enumerate nofun (F.typeCall_enumerate_1 _) (F.newCall_enumerate_1 _) (λobj=>F.args_object_init_2 obj _) F.entry_enumerate_new (Oy b l us) ⟨h1,?_⟩
 have z1:(s.heap.push (iq b l)).objs.size=s.heap.objs.size+1:=tD ..;have lt:l<s.heap.objs.size:=by
  cases b with
  |true=>obtain⟨o,e,_⟩:=h1;exact bW e
  |false=>obtain⟨o,e,_⟩:=h1;exact bW e
 have all:∀ c o,s.heap.get? c=aa o->((s.heap.push (iq b l)).push { cls:=.type "enumerate",data:=.fields #[.none,.bool ag,.ref s.heap.objs.size,gR 0,.none,.none] }).get? c=aa o:=λc o x=>bX _ (bX _ x)
 have g2:((s.heap.push (iq b l)).push { cls:=.type "enumerate",data:=.fields #[.none,.bool ag,.ref s.heap.objs.size,gR 0,.none,.none] }).get? (s.heap.push (iq b l)).objs.size=aa _:=dG _ rfl;have g1:((s.heap.push (iq b l)).push { cls:=.type "enumerate",data:=.fields #[.none,.bool ag,.ref s.heap.objs.size,gR 0,.none,.none] }).get? s.heap.objs.size=aa (iq b l):=bX _ (dG _ (by cases b<;>rfl))
 refine⟨⟨_,g2,rfl⟩,q _ s.heap.objs.size _ () (bJ _) (λm=>?_) (eB lt) g2 (StB.new (h1.keep (all l)) g1) all⟩
 rw[z1] at m;rcases cV.1 m with m|m
 .exact Nat.succ_ne_self _ m
 .grind
end
def DK (K:aK)(b:Bool)(a:aC):It:=
  ⟨λi H=>∃ xs x,gc b K H a xs/\xs[i]?=aa x,
   λi H v H'=>∃ T x,H T=ae/\v=.ref T/\(∀ xs,gc b K H a xs->xs[i]?=aa x)/\H'=upd H T (.tup [.int i,x]),
   λi H=>∃ xs,gc b K H a xs/\xs.length<=i⟩
def L8 (b:Bool)(a e j:aC)(i:Nat)(h:aU):Prop:=(∃ dL,pK h e j (i:Int) dL)/\ItB b j a i h
theorem Oj {P:bN}{cx}{pos:bH}{b:Bool}{a e j:aC}(D:e∉[j,a])(n1:a≠j) :
  Turn P w K (.Tuple es cx pos) (DK K b a) [e,j] e (L8 b a e j) where
 mem:=by simp
 obj:=λi h ⟨⟨dL,g1⟩,g2⟩ c hc=>by
  simp only[cV,sW,or_false] at hc;rcases hc with rfl|rfl
  .exact⟨_,g1,λv q=>by cases q⟩
  .exact g2.get
 keep:=λi h h' ⟨⟨dL,g1⟩,g2⟩ k=>⟨⟨dL,k e (by simp) _ g1⟩,g2.keep (k j (by simp))⟩
 item:=by
  rw[1];obtain⟨xs,x,q1,hx⟩:=hg;obtain⟨us,r1,s1⟩:=I.sqB q1;obtain⟨u,hu,ru⟩:=r1.get hx;obtain⟨⟨dL,g1⟩,g2⟩:=st;have gr:∀ b∈[e,j],b<s.heap.objs.size:=λb m=>by
   simp only[cV,sW,or_false] at m;rcases m with rfl|rfl
   .exact bW g1
   .obtain⟨o,e,_⟩:=g2.get;exact bW e
  refine Oh (tX b j a us.toArray n1) D g1 (Adk.2 ⟨g2,s1⟩) (x:=u) (by simpa using hu) λh' eo sj pr sz keep=>?_
  have fr:H s.heap.objs.size=ae:=I.hok.fresh (bJ _);have I0:Inv X ad Z (upd H s.heap.objs.size (.tup [.int i,x])) { s with heap:=s.heap.push { cls:=.type "tuple",data:=.seq #[.int i s.toks,u] },toks:=s.toks+1 }:=
   I.laid (t':=s.toks+1) (o:=.tup [.int i,x]) (λb ob q=>bX _ q) (bJ _) ⟨by show 2<=sizeLine;decide,[.int i s.toks,u],.cons ⟨_,rfl⟩ (.cons ru .nil),A4w.new _ _⟩
  have j1:∀ b∈[e,j],iR X ad (upd H s.heap.objs.size (.tup [.int i,x])) b:=λb m=>⟨by rw[bP (eB (gr b m))];exact(hf b m).1,(hf b m).2⟩
  have I1:Inv X ad Z (upd H s.heap.objs.size (.tup [.int i,x])) { s with heap:=h',toks:=s.toks+1 }:=I0.turnM (t':=s.toks+1) j1 λb o n g=>by
   simp only[cV,sW,or_false,not_or] at n;by_cases hb:b=s.heap.objs.size
   .subst hb;have e':(s.heap.push { cls:=.type "tuple",data:=.seq #[.int i s.toks,u] }).get? s.heap.objs.size=aa { cls:=.type "tuple",data:=.seq #[.int i s.toks,u] }:=dG _ rfl
    grind
   .exact keep b o n.1 n.2 ((Di _ _ _ hb).symm.trans g)
  have nj:j≠e:=λh=>D (h ▸ bO)
  refine⟨_,rfl,wpAny_letOwnedTupleGo_enum eo λh2 ge sb=>?_⟩
  have I2:Inv X ad Z (upd H s.heap.objs.size (.tup [.int i,x])) { s with heap:=h2,toks:=s.toks+1 }:=I1.turnM (t':=s.toks+1) j1 λb o n g=>sb.extBut b o (λq=>n (by simp[q])) g
  exact⟨.ref s.heap.objs.size,_,I2,rfl,⟨_,x,fr,rfl,λgv h=>by rw[I.sqV_inj h q1];exact hx,rfl⟩,⟨⟨_,ge⟩,(Adk.1 sj).1.keep λo g=>sb.extBut _ _ nj g⟩,λb m=>(j1 b m).1⟩
 done:=by
  rw[1];obtain⟨xs,q1,hl⟩:=hg;obtain⟨us,r1,s1⟩:=I.sqB q1;obtain⟨⟨dL,g1⟩,g2⟩:=st;have l1:=r1.length;refine Oa (I.ok.hd hc) (tX b j a us.toArray n1) g1 (Adk.2 ⟨g2,s1⟩) (by simp;lia) λh' kp=>⟨rfl,I.turnM (t':=s.toks) hf λb o n g=>?_⟩
  simp only[cV,sW,or_false,not_or] at n;exact kp b o n.2 g
 self:=λ_ _ _ _ _ st h=>by
  obtain⟨⟨dL,g1⟩,_⟩:=st;exact wpAny_pyIter_enum g1 h
section
variable {a:aQ}{p:bH}
def Fu (K:aK)(ta:TA):TI:=λZ H R=>ta Z H λvs H1=>∃ a1 b1 xs,vs=[.ref a1]/\gc b1 K H1 a1 xs/\R (DK K b1 a1) H1
theorem Tg {ta:TA}(hg:Gl X "enumerate")(hm:X.mg "enumerate" = ae)(ha:PA X [a] ta)(hs:cC [a] X.env=[(ag,bZ a X.env)]:=by rfl) :
  PI X (.Tuple es cx gq) (.Call (.Name "enumerate" p) [a] [] pos) (Fu X.K ta):=by
 intro ad s Z H R I h;refine Call_ (uC I hg hm boot_enumerate (LL (bb (ha pos ad s Z H _ I h) λus s1 ⟨vs,H1,I1,r1,q1⟩=>?_) hs (by rfl)))
 obtain⟨a1,b1,xs,rfl,k1,q⟩:=q1;obtain⟨u,rfl,ru⟩:=vals1 r1;cases ru;obtain⟨u1,_,w1⟩:=I1.sqB k1;refine Pc w1 λe j h' y0 y1 D n1 ge sj all=>wpAny_pyIter_enum ge ?_
 refine⟨e,[e,j],_,_,H1,rfl,I1.kept all,Oj D n1,⟨⟨_,ge⟩,(Adk.1 sj).1⟩,λb m=>?_,q⟩
 have le:s1.heap.objs.size<=b:=by
  grind
 exact I1.fpOk le (I1.hok.fresh le)
def qQ (i:Nat)(x:aA):aA:=.tuple [.int i,x]
def u3 (fa:AF):AF:=λY=>(fa Y).bind λds=>match ds with
 |[x]=>(oH x).bind λxs=>aa (xs.mapIdx qQ)
 |_=>ae
theorem Wc{B:Hp}{a1:aC}(h1:∀ H2,Ext B H2->gc b1 K H2 a1 xs)(r1:Aao K B ds xs):gx K B (DK K b1 a1) (ds.mapIdx qQ):=λi H2 x2=>by
 refine⟨λd hd=>?_,λe=>⟨xs,h1 H2 x2,?_⟩⟩
 .rw[List.getElem?_mapIdx] at hd;cases c1:ds[i]? with
  |none=>rw[c1] at hd;simp at hd
  |some d1=>
   rw[c1] at hd;have hd:qQ i d1=d:=by simpa using hd
   subst hd;obtain⟨v1,g1,g2⟩:=r1.get c1;refine⟨⟨xs,v1,h1 H2 x2,g1⟩,?_⟩;rintro x H3 ⟨T,x',fr,rfl,k1,rfl⟩;obtain rfl:v1=x':=fH (g1.symm.trans (k1 xs (h1 H2 x2)));have ext:Ext H2 (upd H2 T (.tup [.int i,v1])):=λb u e=>by rw[bP (gQ e fr)];exact e
   refine⟨ext,λP2 qz xb=>?_⟩
   have nT:¬ P2 T:=λq=>by
    rcases qz T q with⟨o,e⟩|⟨o,e⟩<;>rw[fr] at e<;>cases e
   have gT:hid (upd H2 T (.tup [.int i,v1])) P2 T=aa (.tup [.int i,v1]):=dS nT cN;have xx:=xb.trans (cG ext);exact Aar.2 ⟨T,_,rfl,gT,Aaf.2 ⟨_,_,rfl,Aal.2 rfl,Aaf.2 ⟨_,_,rfl,g2.ext xx,Aaj.2 rfl⟩⟩⟩
 .rw[List.length_mapIdx] at e;rw[r1.length];exact LS e
theorem Lp {fa:AF}(hg:Gl X "enumerate")(hm:X.mg "enumerate" = ae)(ha:DA X [a] fa)(hs:cC [a] X.env=[(ag,bZ a X.env)]:=by rfl) :
  DI X (.Tuple es cx gq) (.Call (.Name "enumerate" p) [a] [] pos) (u3 fa):=PI.imp (Tg hg hm ha hs) λZ H R gh=>by
 obtain⟨P,Y,ds,hP,rs,ef,k⟩:=gh;obtain⟨as,e1,bq⟩:=aj ef;clear ef
 match as,e1,bq with
 |[x],e1,bq=>
  obtain⟨xs,e2,bi⟩:=aj (show((oH x).bind λxs=>aa (xs.mapIdx qQ))=aa ds from bq)
  cases bi;refine⟨P,Y,_,hP,rs,e1,λvs H1 x1 r1=>?_⟩
  obtain⟨v,rfl,q1⟩:=gP r1;obtain⟨a1,b1,us,rfl,k1,w1⟩:=IM e2 q1;exact⟨a1,b1,us,rfl,k1 _ Aap,k _ H1 x1 (Wc k1 w1)⟩
 |[],_,h=>cases h
 |_::_::_,_,h=>cases h
end
theorem Pd:Adc X (.type "range") (λxs H Q=>∃ j:Int,xs=[.int j]/\∀ a,H a=ae->Q (.ref a) (upd H a (.rng 0 j))):=by
 rw[6];obtain⟨j,rfl,q⟩:=h;obtain⟨u,rfl,t,rfl⟩:=vals1 r;refine call_range_1 ?_;exact⟨.ref s.heap.objs.size,_,I.laid (o:=.rng 0 j) (λb ob g=>bX _ g) (bJ _) ⟨_,_,_,dG _ rfl⟩,rfl,q _ I.fresh⟩
def upTo (n:Nat):List aA:=(cQ n).map λ(k:Nat)=>bF k
def ko (n:Nat):List V:=(cQ n).map λ(k:Nat)=>V.int k
theorem Pp (hc:X.calm=af):Adc X (.type "list") (λxs H Q=>∃ a,∃ j:Int,xs=[.ref a]/\H a=aa (.rng 0 j) /\ -4096<=j/\j<=4096/\∀ l,H l=ae->Q (.ref l) (upd H l (.lst (ko j.toNat)))):=by
 rw[6];obtain⟨a,j,rfl,ha,h1,h2,q⟩:=h;obtain⟨u,rfl,ru⟩:=vals1 r;cases ru;obtain⟨t,u,v,g⟩:=(show Acu X.prog X.w H s.heap a (.rng 0 j) from I.hok a _ ha)
 have hn:Builtin.Range.rangeSize 0 j 1=(j.toNat:Int):=by rw[rangeSize_one];split<;>lia
 refine call_list_range (I.ok.hd hc) g (small_one () () () ()) hn () λh' tk cg c' hk hS d6=>?_
 have hv:Vals (ko j.toNat) cg.toList:=by
  refine IZ (by simp[ko,d6.1]) λi x u h1 h2=>?_
  obtain⟨t',rfl⟩:=d6.2 i u (by simpa using h2)
  have hi:i<j.toNat:=by
   have:=(cR.1 h1).1;simpa [ko] using this
  have:(ko j.toNat)[i]?=aa (V.int i):=by simp[ko,hi]
  rw[this] at h1;cases h1;exact⟨t',by simp⟩
 exact⟨.ref s.heap.objs.size,_,I.laid hk (bJ _) (show Acu X.prog X.w _ h' _ (.lst (ko j.toNat)) from⟨by simp[ko,vD];lia,cg.toList,c',hv,by simpa using hS⟩),rfl,q _ I.fresh⟩
theorem Yf(n:Nat):Aao K H (upTo n) (ko n):=by
 unfold upTo ko;generalize cQ n=l;induction l with
 |nil=>exact Aaj.2 rfl
 |cons a l ih=>exact Aaf.2 ⟨_,_,rfl,Aal.2 rfl,ih⟩
def zS:List aA->Option aA
 |[.int j]=>if -4096<=j/\j<=4096 then aa (.list (upTo j.toNat)) else ae
 |_=>ae
theorem HV{fe:EF}{q8 ja:bH}(hc:X.calm=af)(g1:Gl X "list")(m1:X.mg "list" = ae)(g2:Gl X "range")(m2:X.mg "range" = ae)(he:DE X e fe)
  (nn:cC [Expr.Call (.Name "range" p2) [e] [] ja] X.env=[(ag,bZ (Expr.Call (.Name "range" p2) [e] [] ja) X.env)]:=by rfl) (ib:cC [e] X.env=[(ag,bZ e X.env)]:=by rfl) :
  DF 1 X (.Call (.Name "list" p1) [.Call (.Name "range" p2) [e] [] ja] [] q8) (aM zS (aD fe aH)):=by
 have h1:PE X (.Call (.Name "range" p2) [e] [] ja) _:=xM Pd g2 m2 rfl (eN he gY ib) nofun nofun ib rfl
 have h2:PE X (.Call (.Name "list" p1) [.Call (.Name "range" p2) [e] [] ja] [] q8) _:=xM (Pp hc) g1 m1 rfl (eN h1 gY nn) nofun nofun nn rfl
 refine PE.imp h2 λZ H Q gh=>?_
 rw[5];obtain⟨D9,e0,ef⟩:=aj ef;obtain⟨d1,e1,e0⟩:=aj e0;have e0:[d1]=D9:=by simpa [aH] using e0
 subst e0;cases d1 with
 |int j=>
  obtain⟨hl,rfl⟩:=cH (show(if -4096<=j/\j<=4096 then aa (vK (upTo j.toNat)) else ae)=aa d from ef)
  refine⟨P,Y,.int j,hP,rs,e1,dP λv H1 x1 r1=>?_⟩
  obtain rfl:=Aal.1 r1;refine⟨j,rfl,λa hn=>⟨a,j,rfl,cN,hl.1,hl.2,λl vv=>?_⟩⟩
  have x2:Ext H (upd H1 a (.rng 0 j)):=x1.trans (Ext.new hn);exact(k.mono x2).lst (hP.ext x2) vv (Yf _)
 |_=>cases ef
theorem OU {P:bN}{k:aG}(h:(fF P w).is k u=af):RelV (kV k) u:=by
 rcases mD h with⟨i,tk,e1,e2⟩|⟨x,tk,e1,e2⟩
 .rw[e1,e2];exact⟨tk,rfl⟩
 .rw[e1,e2];exact⟨tk,rfl⟩
theorem KG:∀ {kvs:List (aG×V)} {vs:List (aG×aF)} {i:Nat} {kv:aG×V},KV kvs vs->kvs[i]?=aa kv->∃ u,vs[i]?=aa u/\kv.1=u.1/\RelV kv.2 u.2
 |_,_,0,_,.cons h _,e=>by
  cases e;exact⟨_,rfl,h.1,h.2⟩
 |_,_,i+1,_,.cons _ t,e=>by
  obtain⟨u,g⟩:=KG t (by simpa using e)
  exact⟨u,by simpa using g⟩
def DL (a:aC)(ep n:Nat):It:=
 ⟨λi H=>∃ kvs kv,H a=aa (.dK ep kvs)/\kvs.length=n/\kvs[i]?=aa kv,λi H x H'=>H'=H/\∀ kvs,H a=aa (.dK ep kvs)->∃ kv,kvs[i]?=aa kv/\x=kV kv.1,λi H=>∃ kvs,H a=aa (.dK ep kvs)/\kvs.length=n/\n<=i⟩
theorem Yd {P:bN}(a it:aC)(ep n:Nat):Turn P w K tg (DL a ep n) [it] it (λi h=>h.IsKeyIter it a i n ep) where
 mem:=cP.2 rfl
 obj:=λi h ⟨o,e,_,d⟩ b hb=>by
  rw[cP.1 hb];exact⟨o,e,λv z=>by rw[d] at z;cases z⟩
 keep:=λi h h' st k=>st.at λo e=>k it (cP.2 rfl) o e
 item:=by
  rw[1];obtain⟨kvs,kv,ha,hn,hk⟩:=hg;subst hn;obtain⟨z,nm,vs,r,d⟩:=rN I.hok (.inl ha);have hl:kvs.length=vs.length:=r.length;obtain⟨u,hu,r1,r2⟩:=KG r hk;obtain⟨uk,uv⟩:=u;rw[hl] at st;refine wpAny_pyNext_dict_item st d hu λkey h' g9 ft sb=>?_
  have I1:Inv X ad Z H { s with heap:=h' }:=I.turnM (t':=s.toks) hf λb o nb e=>sb.extBut b o (λq=>nb (cP.2 q)) e
  obtain⟨o,e,c,dd⟩:=id ft;have nu:kv.1=uk:=r1;refine⟨key,rfl,xW (s:={ s with heap:=h' }) e c dd nofun ⟨kV kv.1,H,I1,by rw[nu];exact OU g9,⟨rfl,λwn h2=>?_⟩,by rw[hl];exact ft,λb hb=>(hf b hb).1⟩⟩
  rw[ha] at h2;cases h2;exact⟨kv,hk,rfl⟩
 done:=by
  rw[1];obtain⟨kvs,ha,hn,hi⟩:=hg;subst hn;obtain⟨z,nm,vs,r,d⟩:=rN I.hok (.inl ha);have hl:kvs.length=vs.length:=r.length;rw[hl] at st;exact wpAny_pyNext_dict_end (I.ok.hd hc) st d (by simp;lia) λh' eb=>⟨rfl,I.turnM (t':=s.toks) hf λb o nb e=>eb b o (λq=>nb (cP.2 q)) e⟩
 self:=λ_ _ _ _ _ st h=>wpAny_pyIter_keyiter st h
section
variable {l:aQ}
def Eh (tl:TE):TI:=λZ H R=>tl Z H λx H1=>∃ a ep kvs,x=.ref a/\H1 a=aa (.dK ep kvs)/\R (DL a ep kvs.length) H1
theorem Mf {tl:TE}(hl:PE X l tl):PI X tg l (Eh tl):=by
 intro ad s Z H R I h;refine bb (hl ad s Z H _ I h) λv s1 gh=>?_
 obtain⟨x,H1,I1,r1,q1⟩:=gh;obtain⟨a,ep,kvs,rfl,ha,q⟩:=q1;cases r1;obtain⟨z,nm,vs,r,d⟩:=rN I1.hok (.inl ha);have hn:=r.length;refine wpAny_pyIter_dict nm d ?_;refine⟨s1.heap.objs.size,[s1.heap.objs.size],_,_,H1,rfl,I1.kept λb o e=>bX _ e,Yd a _ ep kvs.length,⟨_,dG _ rfl,rfl,by rw[hn];rfl⟩,λb hb=>?_,q⟩
 rw[cP.1 hb];exact I1.fpOk (bJ _) (I1.hok.fresh (bJ _))
def u0 (f:EF):AF:=λY=>(f Y).bind λd=>match d with
 |.dict kds=>if (cv kds&&kds.all λkd=>cF kd.1)=af then aa (kds.map (·.1)) else ae
 |_=>ae
theorem HP:∀ {kds:List (aA×aA)} {kvs:List (aG×V)} {i:Nat} {kd:aA×aA},Abr K H kds kvs->kds[i]?=aa kd->∃ kv,kvs[i]?=aa kv/\kd.1=kD kv.1/\Abj K H kd.2 kv.2
 |(k,d)::ds,kvs,0,kd,r,e=>by
  obtain⟨k',y,t,rfl,ek,h1,h2⟩:=Aa6.1 r;cases e;exact⟨(k',y),rfl,ek,h1⟩
 |(k,d)::ds,kvs,i+1,kd,r,e=>by
  obtain⟨k',y,t,rfl,ek,h1,h2⟩:=Aa6.1 r;obtain⟨kv,g1,g2⟩:=HP h2 (by simpa using e)
  exact⟨kv,by simpa using g1,g2⟩
theorem GM{k:aG}(h:cF (kD k)=af):Abj K H (kD k) (kV k):=by
 cases k with
 |inl i=>exact Aal.2 rfl
 |inr x=>exact Aa9.2 ⟨rfl,h⟩
theorem Wf{B:Hp}(h:B a=aa (.dK ep kvs))(r:Abr K B kds kvs)(hl:(kds.all λkd=>cF kd.1)=af):gx K B (DL a ep kvs.length) (kds.map (·.1)):=λi H2 x2=>by
 have h2:=x2 _ _ h;refine⟨λd hd=>?_,λe=>⟨kvs,h2,rfl,by rw[<-e,cD,r.length];exact bJ _⟩⟩
 rw[gJ] at hd;obtain⟨kd,hk,rfl⟩:=mJ.1 hd;obtain⟨kv,g1,g2,g3⟩:=HP r hk;refine⟨⟨kvs,kv,h2,rfl,g1⟩,?_⟩;rintro x H3 ⟨rfl,hx⟩;obtain⟨d8,q1,rfl⟩:=hx kvs h2;have:=fH (q1.symm.trans g1);subst this;refine⟨Ext.refl,λP2 _ xb=>?_⟩
 rw[g2];have:=fV.1 hl kd (fC hk);exact GM (by rw[<-g2];exact this)
theorem Lc(h:DE X e f):DI X tg e (u0 f):=PI.imp (Mf h) λZ H R gh=>by
 obtain⟨P,Y,ds,hP,rs,ef,k⟩:=gh;obtain⟨d,e1,ef⟩:=aj ef;cases d with
 |dict kds=>
  obtain⟨hl,rfl⟩:=cH ef;refine⟨P,Y,_,hP,rs,e1,dP λv H1 x1 r1=>?_⟩
  obtain⟨pk,hl⟩:=iM.1 hl;obtain⟨a,kvs,rfl,hq,rr⟩:=(mY pk).1 r1;exact⟨a,kvs.1,kvs.2,rfl,Aap _ _ hq,k _ H1 x1 (Wf hq rr hl)⟩
 |_=>cases ef
end
theorem BK:entryFor table "dict.update.loop" = aa Builtin.«dict.update.loop»:=entryFor_of_tree (by kernel_rfl)
theorem sJ:plainId "dict.update.loop" = af:=by rw[0]
theorem Rv:typeLookup (.type "list") "keys" = pure ae:=by rw[typeLookup_type,builtinLookup_eq_fast];kernel_rfl
set_option maxHeartbeats 4000000 in
theorem Tp{xs:Array aF}{k:Nat}{Q:Option aF->aI->Prop}(hx:s.heap.get? a=aa { cls:=.type "list",dict:=ae,data:=.seq xs k,slots:=sl })(hA:A.handled=ae)
  (h:∀ h' tk,(∀ b o,s.heap.get? b=aa o->h'.get? b=aa o)->Q ae { s with heap:=h',toks:=tk }):aT (aX prog w) A (getAttr? (.ref a) "keys") Q E s:=by
 obtain⟨hp,g,d,tk,os⟩:=s;have hT:∀ uh,(⟨hp,g,d,uh,os⟩:aI).TypeIs (.ref a) "list":=λ_=>⟨_,hx,rfl⟩
 have f1:=sub_AttributeError;have f3:=Dj.lookup;have f4:=Dj.bind (.ref a);have f5:=am_list_getattr_none;unfold getAttr? getAttrBy? getAttrBy
 repeat (any_goals (first|assumption|exact hT _|((with_reducible show aT _ _ (call (Value.builtin "list.__getattribute__") _ _) _ _ _);refine CG Dj (hT _) am_entry_list_getattribute (F.args_list_getattribute_2 _ _) (meets_getattribute_miss_list a xs k sl _ _ Rv (by rw[0])) ⟨hx,hA,λh' uh e zg=>?_⟩)|wp_step))
 obtain⟨t',u',he⟩:=zg.there;unfold getattributeRaised
 repeat (any_goals (first|assumption|wp_step))
 exact h _ _ zg.keeps
def Am1 (h:aU)(D:aC)(wr:List aC)(ai:Array aF)(kvs:List (aG×aF)):Prop:=
 ∀ (j:Nat) v,ai[j]?=aa v->∃ b kv p,v=.ref b/\kvs[j]?=aa p/\h.IsTuple b #[kv,p.2]/\(fF prog w).is p.1 kv=af/\b≠D/\b∉wr
theorem Am1.keep{kvs:List (aG×aF)}(q:Am1 (prog:=prog) (w:=w) h D wr ai kvs)(k:∀ b o,b≠D->b∉wr->h.get? b=aa o->h'.get? b=aa o):Am1 (prog:=prog) (w:=w) h' D wr ai kvs:=λj v e=>by
 obtain⟨b,kv,p,rfl,e1,⟨o,e2,e3⟩,e4,e5,e6⟩:=q j v e;exact⟨b,kv,p,rfl,e1,⟨o,k b o e5 e6 e2,e3⟩,e4,e5,e6⟩
theorem XB:∀ (more kvs:List (aG×aF)),(nJ kvs more).length<=kvs.length+more.length
 |[],kvs=>bJ _
 |p::r,kvs=>by
  have h1:=XB r (sO kvs p.1 p.2);have h2:(sO kvs p.1 p.2).length<=kvs.length+1:=by
   unfold sO;split<;>simp
  show(nJ (sO kvs p.1 p.2) r).length<=_;rw[fJ]
  lia
theorem Yp{I:aC}{fp:List aC}{G:Array yS->Array yS->Prop}{St:Nat->aI->Prop}
  (W:WalksS prog w A.in1 I fp wr G n (λi v=>ai[i]?=aa v) St) (D:aC) (q9:D∉fp) (kvs:List (aG×aF)) (hn:n<=sizeLine) (gs:kvs.length=n) :
  ∀ (k i:Nat) (s:aI),n-i=k->i<=n->St i s->s.heap.DictOf (fF prog w) D (nJ [] (kvs.take i))->Am1 (prog:=prog) (w:=w) s.heap D wr ai kvs ->
   (∀ s',Moved (D::wr) G s s'->s'.heap.DictOf (fF prog w) D (nJ [] kvs)->R (.ok (.ret .none)) s') ->
   nL (aX prog w) A (.builtin "dict.update.loop" ⟨[.ref D,.ref I,gR (i:Int),.none],[]⟩) R s:=by
 have re:D∉wr:=λz=>q9 (W.sub _ z)
 have more:∀ b∈wr,b∈D::wr:=λb z=>bM _ z
 intro k;induction k with
 |zero=>
  intro i s hk hi i7 hS hT hR;obtain rfl:i=n:=()
  refine yB BK ?_;rw[yY sJ _];refine aJ (W.done s _ _ i7 λs' hm=>?_)
  refine aJ (bA (bA (hR s' (hm.mono more) ?_)));obtain⟨o,es,ep,ho,r⟩:=hS;rw[<-gs,pG] at r;exact⟨o,es,ep,hm.heap D o re ho,r⟩
 |succ k ih=>
  intro i s hk hi i7 hS hT hR;have br:i<n:=()
  refine yB BK ?_;rw[yY sJ _];refine aJ (W.item i s _ _ br i7 λv s' wo ny hm=>?_)
  have oa:=hT.keep λb o _ h2 e=>hm.heap b o h2 e
  obtain⟨b,kv,p,rfl,e1,tb,e4,e5,e6⟩:=oa i v wo;have no:s'.heap.DictOf (fF prog w) D (nJ [] (kvs.take i)):=by
   obtain⟨o,es,ep,ho,r⟩:=hS;exact⟨o,es,ep,hm.heap D o re ho,r⟩
  have j2:nJ [] (kvs.take (i+1))=sO (nJ [] (kvs.take i)) p.1 p.2:=by
   rw[LX,e1];simp[nJ,MB]
  have bh:(nJ [] (kvs.take i)).length<=sizeLine:=by
   have:=XB (kvs.take i) []
   grind
  refine aJ (jW (aJ (wpAny_tryCatch ?_)));unfold Builtin.Dict.pairItems;refine aJ (sM tb.typeIs ?_);obtain⟨ob,g1,g2,nb,g3⟩:=tb;refine aJ (mE g1 g3 (bA ?_));refine jW (wpAny_dictSet_pairs e4 no (λh' d' sb=>?_) bh)
  refine bA ⟨yA sJ _,?_⟩;refine ih (i+1) _ () br (W.frame _ s' _ _ ny (yG _) λc hc o e=>?_) (by rw[j2];exact d') (oa.keep λb o h1 _ e=>(sb.2 b h1).trans e) λm9 oe S4=>?_
  .exact(sb.2 c (λz=>q9 (z ▸ hc))).trans e
  .exact hR m9 (Moved.trans W.gtrans ((hm.mono more).then_heap (yG _) λc o hc e=>(sb.2 c (λz=>hc (z ▸ bO))).trans e) oe) S4
theorem VS{N:aU->Prop}(hh:A.handled=ae)(hl:s.heap.get? l=aa { cls:=.type "list",dict:=ae,data:=.seq ai nl,slots:=sl })
  (hp:∀ (A':cE) (R:Result->aI->Prop) (I:aC) (s1:aI),A'.units<=A.units+50->WalksS prog w A'.in1 I [I,l] [I] (λa b=>b=a) ai.size (λi v=>ai[i]?=aa v) (λi s=>s.heap.IsListIter I l i/\s.heap.IsList l ai)->s.heap.objs.size∉[I,l]->s.heap.objs.size<I->s1.heap.IsListIter I l 0/\s1.heap.IsList l ai ->
   (∀ b o,(s.heap.push { cls:=.type "dict",data:=.dict #[] }).get? b=aa o->s1.heap.get? b=aa o)->(∀ s',Moved [s.heap.objs.size,I] (λa b=>b=a) s1 s'->N s'.heap->R (.ok (.ret .none)) s')->nL (aX prog w) A' (.builtin "dict.update.loop" ⟨[.ref s.heap.objs.size,.ref I,gR ((0:Nat):Int),.none],[]⟩) R s1)
  (h:∀ h' tk,N h'->(∀ b o,s.heap.get? b=aa o->h'.get? b=aa o)->Q (.ref s.heap.objs.size) { s with heap:=h',toks:=tk }) :
  aT (aX prog w) A (call (.type "dict") [.ref l]) Q E s:=by
 refine callType_codes (Q₁:=λobj s₁=>obj=.ref s.heap.objs.size/\s₁={ s with heap:=s.heap.push { cls:=.type "dict",data:=.dict #[] } }) F.kt_called_dict (F.kt_typeCall_dict_1 _) F.entry_dict_init (kt_code_dict_new _ ⟨rfl,rfl⟩) ?_
 rintro obj s₁ ⟨rfl,rfl⟩;have ds:(s.heap.push { cls:=.type "dict",data:=.dict #[] }).get? s.heap.objs.size=aa { cls:=.type "dict",data:=.dict #[] }:=dG _ rfl;have dn:Shared.TypeIs { s with heap:=(s.heap.push { cls:=.type "dict",data:=.dict #[] }) } (.ref s.heap.objs.size) "dict":=⟨_,ds,rfl⟩;have l1:(s.heap.push { cls:=.type "dict",data:=.dict #[] }).get? l=aa { cls:=.type "list",dict:=ae,data:=.seq ai nl,slots:=sl }:=bX _ hl;refine⟨dn,F.args_dict_init_2 _ _,?_⟩;unfold Builtin.«dict.__init__»;refine aJ ?_;unfold Builtin.Dict.selfAndRest;refine aJ (wpAny_notOrdered_dict dn (bA ?_));show aT _ _ (Builtin.Dict.updateFrom "dict.__init__" s.heap.objs.size (.ref l) [] .none) _ _ _;unfold Builtin.Dict.updateFrom;refine aJ (sM (T:="list") ⟨_,l1,rfl⟩ ?_);rw[if_pos nofun]
 refine aJ (Tp l1 (by simp[hh]) λh1 tk k1=>?_)
 show aT _ _ (rule _>>=λ_=>sP (.ref l)>>=_) _ _ _
 have l2:h1.get? l=aa { cls:=.type "list",dict:=ae,data:=.seq ai nl,slots:=sl }:=k1 _ _ l1;have L2:h1.IsList l ai:=⟨_,l2,rfl,nl,rfl⟩;refine aJ (sN (aJ (KQ L2 (bA ⟨yA sJ _,?_⟩))));have lS:l<s.heap.objs.size:=bW hl;have sD:s.heap.objs.size<h1.objs.size:=bW (k1 _ _ ds);have nI:l≠h1.objs.size:=eB (Nat.lt_trans lS sD);have nS:s.heap.objs.size∉[h1.objs.size,l]:=λz=>by
  grind
 refine hp _ _ _ _ (by simp<;>lia) ((Walks.list (by simp[hh]) _ l nI ai).toS) nS sD ⟨⟨_,dG _ rfl,rfl,rfl⟩,L2.push _⟩ (λb o e=>bX _ (k1 _ _ e)) λs' hm S'=>?_
 obtain⟨h',g',d',uh,vg⟩:=s';obtain rfl:g'=s.gens:=hm.gens;obtain rfl:d'=s.drawn:=hm.drawn;obtain rfl:vg=s.os:=hm.os;refine⟨rfl,h h' uh S' λb o e=>?_⟩
 have lb:b<s.heap.objs.size:=bW e;refine hm.heap b o (λz=>?_) (bX _ (k1 _ _ (bX _ e)))
 rcases cV.1 z with z|z
 .exact absurd z (eB lb)
 .grind
theorem Pv{kvs:List (aG×aF)}(hh:A.handled=ae)(hl:s.heap.get? l=aa { cls:=.type "list",dict:=ae,data:=.seq ai nl,slots:=sl })
  (gs:kvs.length=ai.size) (hz:ai.size<=sizeLine) (hp:∀ (j:Nat) v,ai[j]?=aa v->∃ b kv p,v=.ref b/\kvs[j]?=aa p/\s.heap.IsTuple b #[kv,p.2]/\(fF prog w).is p.1 kv=af)
  (h:∀ h' tk,h'.DictOf (fF prog w) s.heap.objs.size (nJ [] kvs)->(∀ b o,s.heap.get? b=aa o->h'.get? b=aa o)->Q (.ref s.heap.objs.size) { s with heap:=h',toks:=tk }) :
  aT (aX prog w) A (call (.type "dict") [.ref l]) Q E s:=by
 refine VS hh hl (λA' R I s1 _ W nS sD st kp q=>Yp W s.heap.objs.size nS kvs hz gs (ai.size-0) 0 _ rfl (eA _) st ?_ (λj v e=>?_) q) h
 .obtain⟨o,es,ep,ho,r⟩:=(Heap.DictOf.new s.heap:(s.heap.push { cls:=.type "dict",data:=.dict #[] }).DictOf (fF prog w) s.heap.objs.size []);exact⟨o,es,ep,kp _ _ ho,r⟩
 .obtain⟨b,kv,p,rfl,e1,⟨o,e2,e3⟩,e4⟩:=hp j v e;have lb:=bW e2;exact⟨b,kv,p,rfl,e1,⟨o,kp b o (bX _ e2),e3⟩,e4,eB lb,λz=>absurd (cP.1 z) (eB (Nat.lt_trans lb sD))⟩
theorem Ao {α β:Type}{R R':α->β->Prop}(f:∀ a b,R a b->R' a b):∀ {as:List α} {bs:List β},dM R as bs->dM R' as bs:=by
 intro as bs h;induction h with
 |nil=>exact .nil
 |cons h _ ih=>exact .cons (f _ _ h) ih
abbrev KB (K:aK)(H:Hp)(ys:List V)(ps:List (aG×V)):Prop:=dM (λy (p:aG×V)=>∃ b,y=V.ref b/\SqT K H b [kV p.1,p.2]) ys ps
theorem Wy{Z:St}(I:Inv X ad Z H s):∀ {ys:List V} {ps:List (aG×V)} {its:List aF},KB X.K H ys ps->Vals ys its ->
  ∃ kvs:List (aG×aF),KV ps kvs/\kvs.length=its.length/\∀ (j:Nat) v,its[j]?=aa v->∃ b kv p,v=.ref b/\kvs[j]?=aa p/\s.heap.IsTuple b #[kv,p.2]/\(fF X.prog X.w).is p.1 kv=af:=by
 intro ys ps its hp;induction hp generalizing its with
 |nil=>
  intro r;cases r;exact⟨[],.nil,rfl,λj v e=>by simp at e⟩
 |@cons y p ys ps hq t ih=>
  intro r;obtain⟨b,e,q⟩:=hq;subst e;cases r with
  |cons r rr=>
   cases r;obtain⟨kvs,h1,h2,h3⟩:=ih rr;obtain⟨us,rv,tb,_⟩:=I.tuple q;cases rv with
   |cons ra rb=>
    cases rb with
    |cons rb rc=>
     cases rc;refine⟨(p.1,_)::kvs,.cons ⟨rfl,rb⟩ h1,by simp[h2],λj v e=>?_⟩
     cases j with
     |zero=>
      cases e;exact⟨b,_,(p.1,_),rfl,rfl,tb,rO ra⟩
     |succ j=>exact h3 j v (by simpa using e)
theorem JB (hc:X.calm=af):Adc X (.type "dict") (λxs H Q=>∃ p ys ps,xs=[.ref p]/\SqL X.K H p ys/\KB X.K H ys ps/\∀ q n,H q=ae->Q (.ref q) (upd H q (.dK n (kZ [] ps)))):=by
 rw[6];obtain⟨p,ys,ps,rfl,hp,hv,q⟩:=h;obtain⟨u,rfl,ru⟩:=vals1 r;cases ru;obtain⟨its,rv,⟨o,n,ho,i9,iy,rg⟩,hz⟩:=I.list hp;obtain⟨kvs,h1,h2,h3⟩:=Wy I hv rv;have e1:=rv.length;obtain⟨c,Ev,EQ,sl⟩:=o;simp only at i9 iy rg;subst i9 iy rg;refine Pv (I.ok.hd hc) ho (by rw[dW];exact h2) (by rw[dW];lia) (λj v e=>h3 j v (by simpa using e)) λh' tk dd hk=>?_
 obtain⟨m,da⟩:=dd.dictAt;have lz:(kZ [] ps).length<=sizeLine:=by
  have l1:=JK ps [];have l2:=nP h1;simp at l1
  lia
 exact⟨.ref s.heap.objs.size,_,I.laid hk (bJ _) (wI lz (beq_eq_false_iff_ne.2 (jI (eB I.big))) (h1.merge .nil) da),rfl,q _ m I.fresh⟩
def nE:List aA->Option (List (aG×aA))
 |[]=>aa []
 |.tuple [k,d]::r=>(bK k).bind λk=>(nE r).bind λps=>aa ((k,d)::ps)
 |_::_=>ae
def jB (ps:List (aG×aA))(kds:List (aA×aA)):List (aA×aA):=ps.foldl (λam p=>putD am p.1 p.2) kds
def rP:List aA->Option aA
 |[.list ds]=>(nE ds).bind λps=>aa (.dict (jB ps []))
 |_=>ae
theorem UD:∀ {ps:List (aG×aA)} {qs:List (aG×V)},dM (λ(p:aG×aA) (q:aG×V)=>p.1=q.1/\Abj K H p.2 q.2) ps qs->∀ {kds:List (aA×aA)} {kvs:List (aG×V)},Abr K H kds kvs->Abr K H (jB ps kds) (kZ kvs qs):=by
 intro ps qs hp;induction hp with
 |nil=>exact λr=>r
 |@cons p q ps qs hq t ih=>
  intro kds kvs r;have:=ih (AE (k:=p.1) r hq.2);show Abr K H (jB _ (putD kds p.1 p.2)) (kZ (putK kvs q.1 q.2) _);rw[<-hq.1];exact this
theorem Wr:∀ {ds:List aA} {ps:List (aG×aA)} {ys:List V},nE ds=aa ps->Aao K H ds ys->∃ qs:List (aG×V),dM (λ(y:V) (q:aG×V)=>∃ b,y=V.ref b/\H b=aa (.tup [kV q.1,q.2])) ys qs/\dM (λ(p:aG×aA) (q:aG×V)=>p.1=q.1/\Abj K H p.2 q.2) ps qs:=by
 intro ds;induction ds with
 |nil=>
  intro ps ys e r;cases e;rw[Aaj.1 r];exact⟨[],.nil,.nil⟩
 |cons z ds ih=>
  intro ps ys e r;cases z with
  |tuple zs=>
   cases zs with
   |nil=>cases e
   |cons k zs=>
    cases zs with
    |nil=>cases e
    |cons d zs=>
     cases zs with
     |cons _ _=>cases e
     |nil=>
      obtain⟨key,e1,e⟩:=aj (show((bK k).bind λk=>(nE ds).bind λps=>aa ((k,d)::ps))=aa ps from e)
      obtain⟨zh,e2,e⟩:=aj e;cases e;obtain⟨v,t,rfl,r1,r2⟩:=Aaf.1 r;obtain⟨qs,h1,h2⟩:=ih e2 r2;obtain⟨b,xs,rfl,hb,rx⟩:=Aar.1 r1;obtain⟨u1,t1,rfl,a1,a2⟩:=Aaf.1 rx;obtain⟨u2,rfl,a3⟩:=gP a2;rw[jO e1 a1] at hb;exact⟨(key,u2)::qs,.cons ⟨b,rfl,hb⟩ h1,.cons ⟨rfl,a3⟩ h2⟩
  |_=>cases e
theorem WO:CallD K 1 (λxs H Q=>∃ p ys ps,xs=[.ref p]/\SqL K H p ys/\KB K H ys ps/\∀ q n,H q=ae->Q (.ref q) (upd H q (.dK n (kZ [] ps)))) rP:=λP H xs ds d Q hP r e k=>by
 unfold rP at e;split at e
 .obtain⟨ps,e1,e2⟩:=aj e;cases e2;obtain⟨v,rfl,r'⟩:=gP r;obtain⟨q,ys,rfl,hq,rr⟩:=Abe.1 r';obtain⟨qs,h1,h2⟩:=Wr e1 rr;refine⟨q,ys,qs,rfl,Aap.sqL hq,?_,λl n hn=>k.dic hP hn (UD h2 (Abn.2 rfl))⟩
  exact Ao (λy p ⟨b,e,hb⟩=>⟨b,e,SqT.of (Aap _ _ hb)⟩) h1
 .cases e
abbrev ig:=List aA×aC×aF
def jT (xs more:List ig):List ig:=more.foldl (λam p=>pB am p.1 p.2.1 p.2.2) xs
theorem Qt {xs:List ig}{k:List aA}{v:aF}{x:ig}(m:x∈pB xs k a v):(x.1=k/\x.2.1=a)\/∃ y∈xs,x.1=y.1/\x.2.1=y.2.1:=by
 cases e:nM xs k with
 |none=>
  rw[storedH_new e] at m
  grind
 |some p=>
  rw[storedH_old e] at m;obtain⟨y,my,rfl⟩:=cB.1 m;refine .inr ⟨y,my,?_⟩;unfold putAt
  grind
theorem Qu (xs:List ig)(k:List aA)(a:aC)(v:aF):(pB xs k a v).length<=xs.length+1:=by
 cases e:nM xs k with
 |none=>rw[storedH_new e];simp
 |some p=>rw[storedH_old e];simp
theorem XC:∀ (more:List ig) {xs:List ig} {x:ig},x∈jT xs more->(∃ p∈more,x.1=p.1/\x.2.1=p.2.1)\/∃ y∈xs,x.1=y.1/\x.2.1=y.2.1
 |[],xs,x,m=>.inr ⟨x,m,rfl,rfl⟩
 |p::r,xs,x,m=>by
  rcases XC r (show x∈jT (pB xs p.1 p.2.1 p.2.2) r from m) with⟨q,mq,e⟩|⟨y,my,e1,e2⟩
  .grind
  .rcases Qt my with⟨a1,a2⟩|⟨z,mz,a1,a2⟩
   all_goals grind
theorem XE:∀ (more xs:List ig),(jT xs more).length<=xs.length+more.length
 |[],xs=>bJ _
 |p::r,xs=>by
  have h1:=XE r (pB xs p.1 p.2.1 p.2.2);have h2:=Qu xs p.1 p.2.1 p.2.2;show(jT (pB xs p.1 p.2.1 p.2.2) r).length<=_;rw[fJ]
  lia
theorem TR {h0:aU}{xs:List ig}(e:∀ o,h.get? D=aa o->h'.get? D=aa o)(hs:∀ x∈xs,Aeu h0 x.1 x.2.1)(hk:∀ b o,h0.get? b=aa o->h'.get? b=aa o)(d:h.DictOfH (kN prog w) D xs):h'.DictOfH (kN prog w) D xs:=by
 obtain⟨o,es,ep,ho,h1,h2,h3,_,h5⟩:=d;exact⟨o,es,ep,e o ho,h1,h2,h3,λx hx=>(hs x hx).keep λb o _ _ e _ _=>hk b o e,h5⟩
theorem Qf{I:aC}{fp:List aC}{G:Array yS->Array yS->Prop}{St:Nat->aI->Prop}
  (W:WalksS prog w A.in1 I fp wr G n (λi v=>ai[i]?=aa v) St) (D:aC) (q9:D∉fp) (kvs:List ig) (hn:n<=sizeLine) (gs:kvs.length=n) (hu:A.units+40<cLine) {h0:aU} (E1:h0.get? D=ae) (E2:∀ b∈wr,h0.get? b=ae)
  (hp:∀ (j:Nat) v,ai[j]?=aa v->∃ b p,v=.ref b/\kvs[j]?=aa p/\h0.IsTuple b #[.ref p.2.1,p.2.2]) (wp:∀ p∈kvs,Aeu h0 p.1 p.2.1) :
  ∀ (k i:Nat) (s:aI),n-i=k->i<=n->St i s->s.heap.DictOfH (kN prog w) D (jT [] (kvs.take i))->(∀ b o,h0.get? b=aa o->s.heap.get? b=aa o) ->
   (∀ s',Moved (D::wr) G s s'->s'.heap.DictOfH (kN prog w) D (jT [] kvs)->R (.ok (.ret .none)) s') ->
   nL (aX prog w) A (.builtin "dict.update.loop" ⟨[.ref D,.ref I,gR (i:Int),.none],[]⟩) R s:=by
 have re:D∉wr:=λz=>q9 (W.sub _ z)
 have more:∀ b∈wr,b∈D::wr:=λb z=>bM _ z
 have nw:∀ b o,h0.get? b=aa o->b∉wr:=λb o e z=>by rw[E2 b z] at e;cases e
 have nD:∀ b o,h0.get? b=aa o->b≠D:=λb o e z=>by rw[z,E1] at e;cases e
 have kin:∀ i,∀ x∈jT [] (kvs.take i),Aeu h0 x.1 x.2.1:=λi x m=>by
  rcases XC _ m with⟨p,mp,e1,e2⟩|⟨y,my,_⟩
  all_goals grind
 intro k;induction k with
 |zero=>
  intro i s hk hi i7 hS hT hR;obtain rfl:i=n:=()
  refine yB BK ?_;rw[yY sJ _];refine aJ (W.done s _ _ i7 λs' hm=>?_)
  refine aJ (bA (bA (hR s' (hm.mono more) ?_)));have:=TR (λo e=>hm.heap D o re e) (kin i) (λb o e=>hm.heap b o (nw b o e) (hT b o e)) hS
  grind
 |succ k ih=>
  intro i s hk hi i7 hS hT hR;have br:i<n:=()
  refine yB BK ?_;rw[yY sJ _];refine aJ (W.item i s _ _ br i7 λv s' wo ny hm=>?_)
  have oa:∀ b o,h0.get? b=aa o->s'.heap.get? b=aa o:=λb o e=>hm.heap b o (nw b o e) (hT b o e)
  obtain⟨b,p,rfl,e1,E3⟩:=hp i v wo;have tb:s'.heap.IsTuple b #[.ref p.2.1,p.2.2]:=by
   obtain⟨o,a1,a2⟩:=E3;exact⟨o,oa b o a1,a2⟩
  have mp:=fC e1;have no:=TR (λo e=>hm.heap D o re e) (kin i) oa hS
  have j2:jT [] (kvs.take (i+1))=pB (jT [] (kvs.take i)) p.1 p.2.1 p.2.2:=by
   rw[LX,e1];simp[jT,MB]
  have bh:(jT [] (kvs.take i)).length<=sizeLine:=by
   have:=XE (kvs.take i) []
   grind
  have g9:=(wp p mp).keep λb o _ _ e _ _=>oa b o e
  refine aJ (jW (aJ (wpAny_tryCatch ?_)));unfold Builtin.Dict.pairItems;refine aJ (sM tb.typeIs ?_);obtain⟨ob,g1,g2,nb,g3⟩:=tb;refine aJ (mE g1 g3 (bA ?_));refine jW (wpAny_dictSet_heap ?_ g9 no (λh' d' sb=>?_) bh)
  .show _+20<cLine
   grind
  refine bA ⟨yA sJ _,?_⟩;refine ih (i+1) _ () br (W.frame _ s' _ _ ny (Nat.le_add_right _ _) λc hc o e=>?_) (by rw[j2];exact d') (λb o e=>(sb.2 b (nD b o e)).trans (oa b o e)) λm9 oe S4=>?_
  .exact(sb.2 c (λz=>q9 (z ▸ hc))).trans e
  .exact hR m9 (Moved.trans W.gtrans ((hm.mono more).then_heap (Nat.le_add_right _ _) λc o hc e=>(sb.2 c (λz=>hc (z ▸ bO))).trans e) oe) S4
theorem Ri{kvs:List ig}(hu:A.units+90<cLine)(hh:A.handled=ae)(hl:s.heap.get? l=aa { cls:=.type "list",dict:=ae,data:=.seq ai nl,slots:=sl })
  (gs:kvs.length=ai.size) (hz:ai.size<=sizeLine) (hp:∀ (j:Nat) v,ai[j]?=aa v->∃ b p,v=.ref b/\kvs[j]?=aa p/\s.heap.IsTuple b #[.ref p.2.1,p.2.2]) (wp:∀ p∈kvs,Aeu s.heap p.1 p.2.1)
  (h:∀ h' tk,h'.DictOfH (kN prog w) s.heap.objs.size (jT [] kvs)->(∀ b o,s.heap.get? b=aa o->h'.get? b=aa o)->Q (.ref s.heap.objs.size) { s with heap:=h',toks:=tk }) :
  aT (aX prog w) A (call (.type "dict") [.ref l]) Q E s:=by
 have out:∀ b,s.heap.objs.size<=b->s.heap.get? b=ae:=λb hb=>by
  cases e:s.heap.get? b with
  |none=>rfl
  |some o=>exact absurd (bW e) (Nat.not_lt.2 hb)
 refine VS hh hl (λA' R I s1 ha W nS sD st kp q=>Qf W s.heap.objs.size nS kvs hz gs () (h0:=s.heap) (out _ (bJ _)) (λb z=>out b (by
  rw[cP.1 z];exact nQ sD)) hp wp (ai.size-0) 0 _ rfl (eA _) st ?_ (λb o e=>kp b o (bX _ e)) q) h
 obtain⟨o,es,ep,ho,a1,a2,a3,_,a5⟩:=(Heap.DictOfH.new s.heap:(s.heap.push { cls:=.type "dict",data:=.dict #[] }).DictOfH (kN prog w) s.heap.objs.size []);exact⟨o,es,ep,kp _ _ ho,a1,a2,a3,λx hx=>absurd hx sW,a5⟩
abbrev JX (K:aK)(H:Hp)(ys:List V)(ps:List (List aA×V)):Prop:=dM (λy (p:List aA×V)=>∃ b c,y=V.ref b/\SqT K H b [.ref c,p.2]/\Anx H p.1 c) ys ps
def mX (kvs more:List (List aA×V)):List (List aA×V):=more.foldl (λam kv=>putK am kv.1 kv.2) kvs
theorem YM:∀ (more kvs:List (List aA×V)),(mX kvs more).length<=kvs.length+more.length
 |[],kvs=>by show kvs.length<=kvs.length+0;lia
 |p::r,kvs=>by
  have h1:=YM r (putK kvs p.1 p.2);have h2:=xV kvs p.1 p.2;show(mX (putK kvs p.1 p.2) r).length<=_;rw[fJ];lia
theorem KT.merge:∀ {more:List (List aA×V)} {rs:List ig} {kvs:List (List aA×V)} {vs:List ig},KT H more rs->KT H kvs vs->KT H (mX kvs more) (jT vs rs):=by
 intro more rs kvs vs r;induction r generalizing kvs vs with
 |nil=>intro q;exact q
 |@cons p q ps qs h t ih=>
  intro z;obtain⟨h1,h2,h3⟩:=h;have:=z.put p.1 h2 h3;show KT H (mX (putK kvs p.1 p.2) ps) (jT (pB vs q.1 q.2.1 q.2.2) qs);rw[<-h1];exact ih this
theorem VQ{Z:St}(I:Inv X ad Z H s):∀ {ys:List V} {ps:List (List aA×V)} {its:List aF},JX X.K H ys ps->Vals ys its ->
  ∃ kvs:List ig,KT H ps kvs/\kvs.length=its.length/\(∀ (j:Nat) v,its[j]?=aa v->∃ b p,v=.ref b/\kvs[j]?=aa p/\s.heap.IsTuple b #[.ref p.2.1,p.2.2])/\∀ p∈kvs,Aeu s.heap p.1 p.2.1
 |_,_,_,.nil,.nil=>⟨[],.nil,rfl,λj v e=>by simp at e,λp m=>by simp at m⟩
 |_,_,_,.cons (b:=p) ⟨b,c,e,q,tk⟩ t,.cons r rr=>by
  subst e;cases r;obtain⟨kvs,h1,h2,h3,h4⟩:=VQ I t rr;obtain⟨us,rv,tb,_⟩:=I.tuple q;cases rv with
  |cons ra rb=>
   cases ra;cases rb with
   |cons rb rc=>
    cases rc;refine⟨(p.1,c,_)::kvs,.cons ⟨rfl,tk,rb⟩ h1,by simp[h2],λj v e=>?_,λz m=>?_⟩
    .cases j with
     |zero=>
      cases e;exact⟨b,(p.1,c,_),rfl,rfl,tb⟩
     |succ j=>exact h3 j v (by simpa using e)
    .rcases cV.1 m with rfl|m
     .exact key_of I.hok tk
     .exact h4 z m
theorem Rx (hu:X.A.units+100<cLine)(hc:X.calm=af):Adc X (.type "dict") (λxs H Q=>∃ p ys ps,xs=[.ref p]/\SqL X.K H p ys/\JX X.K H ys ps/\∀ q n,H q=ae->Q (.ref q) (upd H q (.dT n (mX [] ps)))):=by
 rw[6];obtain⟨p,ys,ps,rfl,hp,hv,q⟩:=h;obtain⟨u,rfl,ru⟩:=vals1 r;cases ru;obtain⟨its,rv,⟨o,n,ho,i9,iy,rg⟩,hz⟩:=I.list hp;obtain⟨kvs,h1,h2,h3,h4⟩:=VQ I hv rv;have e1:=rv.length;obtain⟨c,Ev,EQ,sl⟩:=o;simp only at i9 iy rg;subst i9 iy rg;refine Ri () (I.ok.hd hc) ho (by rw[dW];exact h2) (by rw[dW];lia) (λj v e=>h3 j v (by simpa using e)) h4 λh' tk dd hk=>?_
 have lz:(mX [] ps).length<=sizeLine:=by
  have l1:=YM ps [];have l2:=nP h1;simp at l1
  lia
 obtain⟨qo,es,ep,a1,a2,a3,a4,_,a5⟩:=dd;have fr:=I.hok.fresh (bJ _);exact⟨.ref s.heap.objs.size,_,I.laid (o:=.dT ep (mX [] ps)) hk (bJ _) ⟨lz,beq_eq_false_iff_ne.2 (jI (eB I.big)),_,(h1.merge .nil).keeps λb zs e=>by rw[bP (gQ e fr)];exact e,qo,es,a1,a2,a3,a4,a5⟩,rfl,q _ ep I.fresh⟩
def sL:List aA->Option (List (List aA×aA))
 |[]=>aa []
 |.tuple [.tuple k,d]::r=>if (bY k&&decide (cX k<=6))=af then(sL r).bind λps=>aa ((k,d)::ps) else ae
 |_::_=>ae
def qN (kds:List (aA×aA))(k:List aA)(d:aA):List (aA×aA):=if (kG kds k).isSome=af then kds.map λkd=>if bU kd.1 (.tuple k)=af then(kd.1,d) else kd else kds++[(.tuple k,d)]
def kY (ps:List (List aA×aA))(kds:List (aA×aA)):List (aA×aA):=ps.foldl (λam p=>qN am p.1 p.2) kds
def FP:List aA->Option aA
 |[.list ds]=>(sL ds).bind λps=>aa (.dict ((.none,.none)::kY ps []))
 |_=>ae
theorem ID{k:List aA}(hk:bY k=af)(rv:Abj K H d v):∀ {kds:List (aA×aA)} {kvs:List (List aA×V)},Acd K H kds kvs ->
  Acd K H (kds.map λkd=>if bU kd.1 (.tuple k)=af then(kd.1,d) else kd) (kvs.map λkv=>if kv.1=k then(kv.1,v) else kv)
 |[],kvs,h=>by rw[Ac8.1 h];exact Ac8.2 rfl
 |(k0,d0)::r,kvs,h=>by
  obtain⟨k',x,rr,rfl,⟨rfl,fq⟩,h1,h2⟩:=Ab3.1 h;have e:bU (.tuple k') (.tuple k)=decide (k'=k):=by rw[PB,xN _ _ fq hk]
  rw[cY,cY];by_cases q:k'=k
  .rw[if_pos q,if_pos (by rw[e];exact decide_eq_true q)]
   exact Ab3.2 ⟨k',v,_,rfl,⟨rfl,fq⟩,rv,ID hk rv h2⟩
  .rw[if_neg q,if_neg (by rw[e,decide_eq_false q];simp)]
   exact Ab3.2 ⟨k',x,_,rfl,⟨rfl,fq⟩,h1,ID hk rv h2⟩
theorem Acd.snoc{k:List aA}(hk:bY k=af)(rv:Abj K H d v):∀ {kds:List (aA×aA)} {kvs:List (List aA×V)},Acd K H kds kvs->Acd K H (kds++[(.tuple k,d)]) (kvs++[(k,v)])
 |[],kvs,h=>by rw[Ac8.1 h];exact Ab3.2 ⟨k,v,[],rfl,⟨rfl,hk⟩,rv,Ac8.2 rfl⟩
 |(k0,d0)::r,kvs,h=>by
  obtain⟨k',x,rr,rfl,e,h1,h2⟩:=Ab3.1 h;exact Ab3.2 ⟨k',x,_,rfl,e,h1,Acd.snoc hk rv h2⟩
theorem We{k:List aA}{kvs:List (List aA×V)}(hk:bY k=af)(h:Acd K H kds kvs)(rv:Abj K H d v):Acd K H (qN kds k d) (putK kvs k v):=by
 unfold qN putK;rw[oO];rcases IC hk h with⟨n1,n2⟩|⟨d',v',s1,s2,_⟩
 .rw[n1,n2,if_neg (by simp),if_neg (by simp)]
  exact Acd.snoc hk rv h
 .rw[s1,s2,if_pos (show(aa d').isSome=af from rfl),if_pos (show(aa v').isSome=af from rfl)]
  exact ID hk rv h
theorem VU:∀ {ps:List (List aA×aA)} {qs:List (List aA×V)},dM (λ(p:List aA×aA) (q:List aA×V)=>p.1=q.1/\bY p.1=af/\Abj K H p.2 q.2) ps qs->∀ {kds:List (aA×aA)} {kvs:List (List aA×V)},Acd K H kds kvs->Acd K H (kY ps kds) (mX kvs qs)
 |_,_,.nil,_,_,r=>r
 |_,_,.cons (a:=p) (b:=q) ⟨e,hk,h⟩ t,kds,kvs,r=>by
  have:=We hk r h;have:=VU t this;show Acd K H (kY _ (qN kds p.1 p.2)) (mX (putK kvs q.1 q.2) _);rw[<-e];exact this
theorem RG:∀ {ds:List aA} {ps:List (List aA×aA)} {ys:List V},sL ds=aa ps->Aao K H ds ys->∃ qs:List (List aA×V),dM (λ(y:V) (q:List aA×V)=>∃ b c,y=V.ref b/\H b=aa (.tup [.ref c,q.2])/\Anx H q.1 c) ys qs/\dM (λ(p:List aA×aA) (q:List aA×V)=>p.1=q.1/\bY p.1=af/\Abj K H p.2 q.2) ps qs
 |[],ps,ys,e,r=>by
  cases e;rw[Aaj.1 r];exact⟨[],.nil,.nil⟩
 |d0::ds,ps,ys,e,r=>by
  unfold sL at e;split at e
  .rename_i e0;cases e0
  .rename_i k d r0 e0;cases e0;obtain⟨hc,e⟩:=xA e;have de:bY k=af/\cX k<=6:=by simpa using hc
   obtain⟨zh,e2,e⟩:=aj e;cases e;obtain⟨v,t,rfl,r1,r2⟩:=Aaf.1 r;obtain⟨qs,h1,h2⟩:=RG e2 r2;obtain⟨b,xs,rfl,hb,rx⟩:=Aar.1 r1;obtain⟨u1,t1,rfl,a1,a2⟩:=Aaf.1 rx;obtain⟨u2,rfl,a3⟩:=gP a2;obtain⟨c,zs,rfl,hz,rz⟩:=Aar.1 a1;exact⟨(k,u2)::qs,.cons ⟨b,c,rfl,hb,de.1,de.2,zs,hz,Aao.keys k de.1 rz⟩ h1,.cons ⟨rfl,de.1,a3⟩ h2⟩
  .cases e
theorem Anx.ext(x:Ext H H'){k:List aA}{c:aC}(t:Anx H k c):Anx H' k c:=t.keep λb xs e=>x _ _ e
theorem Ro:CallD K 0 (λxs H Q=>∃ p ys ps,xs=[.ref p]/\SqL K H p ys/\JX K H ys ps/\∀ q n,H q=ae->Q (.ref q) (upd H q (.dT n (mX [] ps)))) FP:=λP H xs ds d Q hP r e k=>by
 unfold FP at e;split at e
 .obtain⟨ps,e1,e2⟩:=aj e;cases e2;obtain⟨v,rfl,r'⟩:=gP r;obtain⟨q,ys,rfl,hq,rr⟩:=Abe.1 r';obtain⟨qs,h1,h2⟩:=RG e1 rr;refine⟨q,ys,qs,rfl,Aap.sqL hq,?_,λl n hn=>?_⟩
  .exact Ao (λy p ⟨b,c,e,hb,tk⟩=>⟨b,c,e,SqT.of (Aap _ _ hb),tk.ext Aap⟩) h1
  .refine k.zero (Ext.new hn) ((IG).2 ⟨l,(n,_),rfl,dS (hP.new hn) cN,?_⟩);refine Acd.ext (λb o e=>?_) (VU h2 (Ac8.2 rfl))
   obtain⟨nb,e⟩:=Abb.1 e;exact dS nb (Ext.new hn _ _ e)
 .cases e
def keyed (kds:List (aA×aA)):Prop:=∀ kd∈kds,∃ k,kd.1=.tuple k/\bY k=af
theorem IL {k:List aA}(hk:bY k=af):∀ {kds:List (aA×aA)},keyed kds->((kG kds k).isSome=af↔dJ k∈kds.map (·.1))
 |[],_=>by simp[kG]
 |(k0,d)::r,h=>by
  obtain⟨k',e,fq⟩:=h (k0,d) bO;have e:=e;subst e;rw[WK fq hk];by_cases q:k'=k
  .rw[if_pos q,q];simp
  .rw[if_neg q,IL hk λkd m=>h kd (bM _ m)]
   grind
theorem Qo(h:keyed kds){k:List aA}(hk:bY k=af)(d:aA):keyed (qN kds k d)/\∀ x,x∈(qN kds k d).map (·.1)↔x∈kds.map (·.1)\/x=.tuple k:=by
 unfold qN;by_cases q:(kG kds k).isSome=af
 .rw[if_pos q];have e:(kds.map λkd=>if bU kd.1 (.tuple k)=af then(kd.1,d) else kd).map (·.1)=kds.map (·.1):=by
   rw[dX];refine nV λkd _=>?_
   grind
  refine⟨λkd m=>?_,λx=>?_⟩
  .obtain⟨y,my,e2⟩:=cB.1 (show kd.1∈kds.map (·.1) from e ▸ cB.2 ⟨kd,m,rfl⟩)
   rw[<-e2];exact h y my
  .rw[e];exact⟨.inl,λz=>z.elim id λz=>z ▸ (IL hk h).1 q⟩
 .rw[if_neg q];refine⟨λkd m=>?_,λx=>by simp⟩
  rcases eM.1 m with m|m
  .exact h kd m
  all_goals grind
theorem WT:∀ {ps:List (List aA×aA)} {kds:List (aA×aA)},keyed kds->(∀ p∈ps,bY p.1=af)->keyed (kY ps kds)/\∀ x,x∈(kY ps kds).map (·.1)↔x∈kds.map (·.1)\/∃ p∈ps,x=.tuple p.1
 |[],kds,h,_=>⟨h,λx=>by simp[kY]⟩
 |p::r,kds,h,hp=>by
  obtain⟨h1,h2⟩:=Qo h (hp p bO) p.2;obtain⟨h3,h4⟩:=WT h1 λq m=>hp q (bM _ m)
  refine⟨h3,λx=>?_⟩
  show x∈(kY r (qN kds p.1 p.2)).map (·.1)↔_;rw[h4,h2];simp[or_assoc]
theorem Re {ps:List (List aA×aA)}{k:List aA}(hp:∀ p∈ps,bY p.1=af)(hk:bY k=af):(kG (kY ps []) k).isSome=decide (k∈ps.map (·.1)):=by
 obtain⟨h1,h2⟩:=WT (kds:=[]) (λkd m=>by simp at m) hp
 have:=IL hk h1
 grind
def uA (m:Md)(f:EF)(T:aA->aP->Option aP):SF:=λY=>(eV 0 m f Y).bind λd=>(T d Y).bind λY'=>aa (.nx Y')
theorem PQ{T:aA->aP->Option aP}(m:Md)(he:DE X e f)(hg:DG X H0 P0 tg T)(hs:KY [tg] e pos.line X.env=pure ag:=by rfl)(hw:KZ [tg] e X.env=pure ae:=by rfl)
  (h1:(hJ [tg] X.env).map (·.2)=[jZ tg X.env]:=by rfl):DS X H0 P0 n0 (.Assign [tg] e pos) (uA m f T):=PS.imp (KI (ev m he) hg hs hw h1) λD Z H gh=>by
 rw[4];obtain⟨d,e1,ef⟩:=aj ef;obtain⟨Y',e2,ef⟩:=aj ef;cases ef;refine⟨B0,Y,fp,d,S,e1,λv H' gh=>?_⟩
 obtain⟨bg,S',r⟩:=gh;exact⟨B0,Y,bg,d,Y',S',r.2,e2,λZ' b7 S2=>k _ _ b7 S2⟩
open PySem PySem.W PyProof.Rows
def ba {α:Type}(lt:Nat->Nat->Bool):KasT α->α
 |.ret a=>a
 |.ask i j k=>ba lt (k (lt i j))
theorem uI {α β:Type}(lt:Nat->Nat->Bool)(f:α->KasT β):∀ t:KasT α,ba lt (t.bind f)=ba lt (f (ba lt t))
 |.ret _=>rfl
 |.ask i j k=>uI lt f (k (lt i j))
structure Ord (lt:Nat->Nat->Bool):Prop where
 asym:∀ a b,lt a b=af->lt b a=ag
 tr:∀ a b c,lt b a=ag->lt c b=ag->lt c a=ag
section
variable {lt:Nat->Nat->Bool}(O:Ord lt)
abbrev at' (p:Array Nat)(i:Nat):Nat:=p.getD i 0
def gK (lt:Nat->Nat->Bool)(p:Array Nat)(m:Nat):Prop:=∀ i j,i<=j->j<m->lt (at' p j) (at' p i)=ag
def qV (lt:Nat->Nat->Bool)(p:Array Nat)(m:Nat):Prop:=∀ i j,i<=j->j<m->lt (at' p i) (at' p j)=ag
include O
theorem Ord.refl (a:Nat):lt a a=ag:=by
 cases h:lt a a with
 |false=>rfl
 |true=>exact absurd (O.asym a a h) (by rw[h];decide)
theorem Mc(h1:1<=n)(h:gK lt p n)(hl:lt (at' p n) (at' p (n-1))=ag):gK lt p (n+1):=λi j d9 hj=>by
 by_cases c:j<n
 .exact h i j d9 c
 .obtain rfl:j=n:=()
  by_cases d:i=j
  .subst d;exact O.refl _
  .exact O.tr _ _ _ (h i (j-1) () ()) hl
theorem xB(h1:1<=n)(h:qV lt p n)(hl:lt (at' p (n-1)) (at' p n)=ag):qV lt p (n+1):=λi j d9 hj=>by
 by_cases c:j<n
 .exact h i j d9 c
 .obtain rfl:j=n:=()
  by_cases d:i=j
  .subst d;exact O.refl _
  .exact O.tr _ _ _ hl (h i (j-1) () ())
theorem Ly (p:Array Nat):gK lt p 1:=λi j d9 hj=>by
 obtain rfl:j=0:=()
 obtain rfl:i=0:=()
 exact O.refl _
theorem FX:∀ (f n:Nat),1<=n->gK lt p n->n<=ba lt (kas_asc p f n)/\ba lt (kas_asc p f n)<=n+f/\gK lt p (ba lt (kas_asc p f n))/\(ba lt (kas_asc p f n)<n+f->lt (at' p (ba lt (kas_asc p f n))) (at' p (ba lt (kas_asc p f n)-1))=af)
 |0,n,h1,h=>⟨bJ _,bJ _,h,λz=>absurd z (by show ¬ n<n+0;lia)⟩
 |f+1,n,h1,h=>by
  have e:ba lt (kas_asc p (f+1) n)=ba lt (if lt (at' p n) (at' p (n-1))=af then KasT.ret n else kas_asc p f (n+1)):=rfl
  rw[e];by_cases c:lt (at' p n) (at' p (n-1))=af
  .rw[if_pos c];exact⟨bJ _,by show n<=n+(f+1);lia,h,λ_=>c⟩
  .rw[if_neg c];obtain⟨a1,a2,a3,a4⟩:=FX f (n+1) () (Mc O h1 h (by simpa using c))
   exact⟨(),(),a3,λz=>a4 ()⟩
theorem IB{k:Nat}(h:gK lt p k):∀ (f l r:Nat),l<=r->r<=k->r-l<=f->(∀ i<l,lt (at' p k) (at' p i)=ag)->(∀ i,r<=i->i<k->lt (at' p i) (at' p k)=ag) ->
  ba lt (kas_place p k f l r)<=k/\(∀ i<ba lt (kas_place p k f l r),lt (at' p k) (at' p i)=ag)/\∀ i,ba lt (kas_place p k f l r)<=i->i<k->lt (at' p i) (at' p k)=ag
 |0,l,r,h1,h2,h3,hl,hr=>by
  have e:ba lt (kas_place p k 0 l r)=l:=rfl;obtain rfl:l=r:=()
  rw[e];exact⟨h2,hl,hr⟩
 |f+1,l,r,h1,h2,h3,hl,hr=>by
  unfold kas_place;by_cases c:l ≥ r
  .rw[if_pos c];obtain rfl:l=r:=()
   exact⟨h2,hl,hr⟩
  .rw[if_neg c];show ba lt (if lt (at' p k) (at' p ((l+r)/2))=af then kas_place p k f l ((l+r)/2) else kas_place p k f ((l+r)/2+1) r)<=k/\_
   by_cases d:lt (at' p k) (at' p ((l+r)/2))=af
   .have e:ba lt (KasT.ask (p.getD k 0) (p.getD ((l+r)/2) 0) λc=>if c=af then kas_place p k f l ((l+r)/2) else kas_place p k f ((l+r)/2+1) r)=ba lt (kas_place p k f l ((l+r)/2)):=by
     show ba lt (if lt (at' p k) (at' p ((l+r)/2))=af then _ else _)=_
     rw[if_pos d]
    rw[e,if_pos d];exact IB h f l ((l+r)/2) () () () hl λi a b=>O.tr _ _ _ (O.asym _ _ d) (h _ i a b)
   .have d':lt (at' p k) (at' p ((l+r)/2))=ag:=by simpa using d
    have e:ba lt (KasT.ask (p.getD k 0) (p.getD ((l+r)/2) 0) λc=>if c=af then kas_place p k f l ((l+r)/2) else kas_place p k f ((l+r)/2+1) r)=ba lt (kas_place p k f ((l+r)/2+1) r):=by
     show ba lt (if lt (at' p k) (at' p ((l+r)/2))=af then _ else _)=_
     rw[if_neg d]
    rw[e,if_neg d];refine IB h f ((l+r)/2+1) r () h2 () (λi hi=>?_) hr
    exact O.tr _ _ _ (h i ((l+r)/2) () ()) d'
end
theorem at_of(i:Nat):at' p i=(p[i]?).getD 0:=Array.getD_eq_getD_getElem?
theorem ZW{k l:Nat}(hk:k<p.size)(hl:l<=k)(i:Nat):at' (bubble p k (k-l)) i=if i=l then at' p k else if l<i/\i<=k then at' p (i-1) else at' p i:=by
 have e:k-(k-l)=l:=()
 have q:=getElem?_bubble hk (k-l) () i
 rw[e] at q;simp only[at_of,q];split
 .rfl
 .split<;>rfl
theorem kX(hj:j<=p.size)(k:Nat):at' (kas_rev p i j) k=if i<=k/\k<j then at' p (i+j-1-k) else at' p k:=by
 have q:=getElem?_mirror_all (i:=i) hj k;simp only[at_of];unfold kas_rev;rw[q];split<;>rfl
theorem GW (p:Array Nat)(i j:Nat):(kas_rev p i j).size=p.size:=mirror_size _ _ _ _
theorem qG (p:Array Nat)(i j:Nat):(kas_rev p i j).Perm p:=mirror_perm _ _ _ _
section
variable {lt:Nat->Nat->Bool}(O:Ord lt)
include O
theorem Be:∀ (f:Nat) (p:Array Nat) (k:Nat),gK lt p k->k+f<=p.size->(ba lt (kas_bin f p k)).Perm p/\gK lt (ba lt (kas_bin f p k)) (k+f)
 |0,p,k,h,_=>⟨CZ _,h⟩
 |f+1,p,k,h,hz=>by
  have e:ba lt (kas_bin (f+1) p k)=ba lt (kas_bin f (bubble p k (k-ba lt (kas_place p k k 0 k))) (k+1)):=by
   show ba lt ((kas_place p k k 0 k).bind λl=>kas_bin f (bubble p k (k-l)) (k+1))=_
   rw[uI]
  obtain⟨h1,h2,h3⟩:=IB O h k 0 k (eA _) (bJ _) () (λi hi=>absurd hi ()) (λi a b=>absurd b ())
  rw[e];generalize ba lt (kas_place p k k 0 k)=l at h1 h2 h3;have hk:k<p.size:=()
  have A':gK lt (bubble p k (k-l)) (k+1):=λi j d9 hj=>by
   rw[ZW hk h1,ZW hk h1];by_cases ci:i=l
   .rw[if_pos ci];by_cases cj:j=l
    .rw[if_pos cj];exact O.refl _
    .rw[if_neg cj,if_pos ⟨(),()⟩]
     exact h3 (j-1) () ()
   .rw[if_neg ci];by_cases cj:j=l
    .rw[if_pos cj,if_neg ()]
     exact h2 i ()
    .rw[if_neg cj];by_cases di:l<i/\i<=k
     .rw[if_pos di,if_pos ⟨(),()⟩]
      exact h (i-1) (j-1) () ()
     .rw[if_neg di];by_cases dj:l<j/\j<=k
      .rw[if_pos dj];exact h i (j-1) () ()
      .rw[if_neg dj];exact h i j d9 ()
  obtain⟨a1,a2⟩:=Be f (bubble p k (k-l)) (k+1) A' (by rw[bubble_size];lia)
  exact⟨a1.trans (bubble_perm _ _ _),by rw[show k+(f+1)=k+1+f by lia];exact a2⟩
structure Fall (lt:Nat->Nat->Bool)(p:Array Nat)(n q:Nat):Prop where
 pos:q+1<=n
 dsc:qV lt p n
 eq:∀ i j,n-(q+1)<=i->i<n->n-(q+1)<=j->j<n->lt (at' p i) (at' p j)=ag
theorem Fall.rev{q:Nat}(F:Fall lt p n q)(hz:n<=p.size):Fall lt (kas_rev p (n-(q+1)) n) n q:=by
 have hp:=F.pos;refine⟨hp,λi j d9 hj=>?_,λi j a b c d=>?_⟩
 .rw[kX hz,kX hz];by_cases ci:n-(q+1)<=i/\i<n
  .rw[if_pos ci,if_pos ⟨(),hj⟩]
   exact F.eq _ _ () () () ()
  .rw[if_neg ci];by_cases cj:n-(q+1)<=j/\j<n
   .rw[if_pos cj];exact F.dsc _ _ () ()
   .rw[if_neg cj];exact F.dsc i j d9 hj
 .rw[kX hz,kX hz,if_pos ⟨a,b⟩,if_pos ⟨c,d⟩];exact F.eq _ _ () () () ()
theorem AU:∀ (f:Nat) (p:Array Nat) (n q:Nat),Fall lt p n q->n+f<=p.size->(ba lt (kas_desc f p n q)).1.Perm p/\n<=(ba lt (kas_desc f p n q)).2.1/\(ba lt (kas_desc f p n q)).2.1<=n+f/\Fall lt (ba lt (kas_desc f p n q)).1 (ba lt (kas_desc f p n q)).2.1 (ba lt (kas_desc f p n q)).2.2
 |0,p,n,q,F,_=>⟨CZ _,bJ _,bJ _,F⟩
 |f+1,p,n,q,F,hz=>by
  have hp:=F.pos;have e:ba lt (kas_desc (f+1) p n q)=ba lt (if lt (at' p n) (at' p (n-1))=af then(if q > 0 then kas_desc f (kas_rev p (n-(q+1)) n) (n+1) 0 else kas_desc f p (n+1) 0) else KasT.ask (p.getD (n-1) 0) (p.getD n 0) λd=>if d=af then .ret (p,n,q) else kas_desc f p (n+1) (q+1)):=rfl
  rw[e];by_cases c:lt (at' p n) (at' p (n-1))=af
  .rw[if_pos c];by_cases hq:q > 0
   .rw[if_pos hq];have F':=F.rev O ()
    have hn:at' (kas_rev p (n-(q+1)) n) n=at' p n:=by rw[kX (),if_neg ()]
    have F2:Fall lt (kas_rev p (n-(q+1)) n) (n+1) 0:=by
     refine⟨(),xB O () F'.dsc ?_,λi j a b c' d=>?_⟩
     .rw[hn,kX (),if_pos ⟨(),()⟩]
      exact O.tr _ _ _ (O.asym _ _ c) (F.eq _ _ () () () ())
     .obtain rfl:i=n:=()
      obtain rfl:j=i:=()
      exact O.refl _
    obtain⟨a1,a2,a3,a4⟩:=AU f _ (n+1) 0 F2 (by rw[GW];lia)
    exact⟨a1.trans (qG _ _ _),(),(),a4⟩
   .rw[if_neg hq];have F2:Fall lt p (n+1) 0:=by
     refine⟨(),xB O () F.dsc (O.asym _ _ c),λi j a b c' d=>?_⟩
     obtain rfl:i=n:=()
     obtain rfl:j=i:=()
     exact O.refl _
    obtain⟨a1,a2,a3,a4⟩:=AU f _ (n+1) 0 F2 ()
    exact⟨a1,(),(),a4⟩
  .rw[if_neg c];have c':lt (at' p n) (at' p (n-1))=ag:=by simpa using c
   have e2:ba lt (KasT.ask (p.getD (n-1) 0) (p.getD n 0) λd=>if d=af then .ret (p,n,q) else kas_desc f p (n+1) (q+1))=ba lt (if lt (at' p (n-1)) (at' p n)=af then .ret (p,n,q) else kas_desc f p (n+1) (q+1)):=rfl
   rw[e2];by_cases d:lt (at' p (n-1)) (at' p n)=af
   .rw[if_pos d];exact⟨CZ _,bJ _,by show n<=n+(f+1);lia,F⟩
   .rw[if_neg d];have d':lt (at' p (n-1)) (at' p n)=ag:=by simpa using d
    have F2:Fall lt p (n+1) (q+1):=by
     refine⟨(),xB O () F.dsc d',λi j a b a' b'=>?_⟩
     by_cases ci:i=n
     .by_cases cj:j=n
      .rw[ci,cj];exact O.refl _
      .rw[ci];exact O.tr _ _ _ (F.eq (n-1) j () () () ()) c'
     .by_cases cj:j=n
      .rw[cj];exact O.tr _ _ _ d' (F.eq i (n-1) () () () ())
      .exact F.eq i j () () () ()
    obtain⟨a1,a2,a3,a4⟩:=AU f _ (n+1) (q+1) F2 ()
    exact⟨a1,(),(),a4⟩
end
section
variable {lt:Nat->Nat->Bool}(O:Ord lt)
include O
theorem Uv(h:qV lt p n)(hz:n<=p.size):gK lt (kas_rev p 0 n) n:=λi j d9 hj=>by
 rw[kX hz,kX hz,if_pos ⟨eA _,hj⟩,if_pos ⟨eA _,()⟩]
 exact h _ _ () ()
theorem SL(h1:1<=n)(hn:n<=m)(hz:m<=p.size)(h:qV lt p n):(ba lt (kas_tail3 n m p)).2.Perm p/\(ba lt (kas_tail3 n m p)).1<=m/\1<=(ba lt (kas_tail3 n m p)).1/\gK lt (ba lt (kas_tail3 n m p)).2 (ba lt (kas_tail3 n m p)).1:=by
 unfold kas_tail3;rw[uI];obtain⟨a1,a2,a3,_⟩:=FX O (m-n) n h1 (Uv O h ())
 exact⟨qG _ _ _,by show ba lt (kas_asc (kas_rev p 0 n) (m-n) n)<=m;lia,by show 1<=ba lt (kas_asc (kas_rev p 0 n) (m-n) n);lia,a3⟩
theorem RP(h1:1<=n)(hn:n+1<=m)(hz:m<=p.size)(h:qV lt p (n+1)):(ba lt (kas_descPart n m p)).2.Perm p/\(ba lt (kas_descPart n m p)).1<=m/\1<=(ba lt (kas_descPart n m p)).1/\gK lt (ba lt (kas_descPart n m p)).2 (ba lt (kas_descPart n m p)).1:=by
 have F0:Fall lt p (n+1) 0:=⟨(),h,λi j a b c d=>by
  obtain rfl:i=n:=()
  obtain rfl:j=i:=()
  exact O.refl _⟩
 obtain⟨a1,a2,a3,a4⟩:=AU O (m-(n+1)) p (n+1) 0 F0 ()
 unfold kas_descPart;rw[uI];generalize ba lt (kas_desc (m-(n+1)) p (n+1) 0)=r at a1 a2 a3 a4;have hs:=a1.size_eq;split
 .have F':=a4.rev O ()
  obtain⟨b1,b2,b3,b4⟩:=SL O () () (by rw[GW];lia) F'.dsc (m:=m)
  exact⟨b1.trans ((qG _ _ _).trans a1),b2,b3,b4⟩
 .obtain⟨b1,b2,b3,b4⟩:=SL O () () () a4.dsc (m:=m)
  exact⟨b1.trans a1,b2,b3,b4⟩
theorem UW(h1:1<=m)(hz:m<=p.size):(ba lt (kas_count m p)).2.Perm p/\(ba lt (kas_count m p)).1<=m/\1<=(ba lt (kas_count m p)).1/\gK lt (ba lt (kas_count m p)).2 (ba lt (kas_count m p)).1:=by
 obtain⟨a1,a2,a3,a4⟩:=FX O (m-1) 1 (bJ _) (Ly O p);unfold kas_count;rw[uI];generalize ba lt (kas_asc p (m-1) 1)=n at a1 a2 a3 a4;by_cases c:(n==m)=af
 .rw[if_pos c];exact⟨CZ _,by show n<=m;lia,a1,a3⟩
 .rw[if_neg c];have hnm:n≠m:=by simpa using c
  have hl:=a4 ()
  by_cases d:n > 1
  .rw[if_pos d];show(ba lt (if lt (at' p 0) (at' p (n-1))=af then KasT.ret (n,p) else kas_descPart n m (kas_rev p 0 n))).2.Perm p/\(ba lt (if lt (at' p 0) (at' p (n-1))=af then KasT.ret (n,p) else kas_descPart n m (kas_rev p 0 n))).1<=m/\1<=(ba lt (if lt (at' p 0) (at' p (n-1))=af then KasT.ret (n,p) else kas_descPart n m (kas_rev p 0 n))).1/\gK lt (ba lt (if lt (at' p 0) (at' p (n-1))=af then KasT.ret (n,p) else kas_descPart n m (kas_rev p 0 n))).2 (ba lt (if lt (at' p 0) (at' p (n-1))=af then KasT.ret (n,p) else kas_descPart n m (kas_rev p 0 n))).1
   by_cases e:lt (at' p 0) (at' p (n-1))=af
   .rw[if_pos e];exact⟨CZ _,by show n<=m;lia,a1,a3⟩
   .rw[if_neg e];have e':lt (at' p 0) (at' p (n-1))=ag:=by simpa using e
    have same:∀ i j,i<n->j<n->lt (at' p i) (at' p j)=ag:=λi j hi hj=>
     O.tr _ (at' p 0) _ (O.tr _ _ _ (a3 j (n-1) () ()) e') (a3 0 i (eA _) hi)
    have D:qV lt (kas_rev p 0 n) (n+1):=by
     refine xB O a1 (λi j d9 hj=>?_) ?_
     .rw[kX (),kX (),if_pos ⟨eA _,()⟩,if_pos ⟨eA _,hj⟩]
      exact same _ _ () ()
     .rw[kX (),kX (),if_pos ⟨eA _,()⟩,if_neg ()]
      exact O.tr _ _ _ (O.asym _ _ hl) (same _ _ () ())
    obtain⟨b1,b2,b3,b4⟩:=RP O a1 () (by rw[GW];exact hz) D (m:=m)
    exact⟨b1.trans (qG _ _ _),b2,b3,b4⟩
  .rw[if_neg d];obtain rfl:n=1:=()
   exact RP O (bJ _) () hz (xB O (bJ _) (λi j d9 hj=>by
    obtain rfl:j=0:=()
    obtain rfl:i=0:=()
    exact O.refl _) (O.asym _ _ hl))
theorem RL(h1:1<=n):(ba lt (kas_sort n)).Perm (iJ (cQ n))/\gK lt (ba lt (kas_sort n)) n:=by
 have hs:(iJ (cQ n)).size=n:=by simp
 obtain⟨a1,a2,a3,a4⟩:=UW O h1 (by rw[hs];exact bJ _)
 unfold kas_sort;rw[uI];generalize ba lt (kas_count n (iJ (cQ n)))=r at a1 a2 a3 a4;have hz:=a1.size_eq.trans hs;split
 .have em:max r.1 1=r.1:=()
  rw[em];obtain⟨b1,b2⟩:=Be O (n-r.1) r.2 r.1 a4 ()
  exact⟨b1.trans a1,by rw[show r.1+(n-r.1)=n by lia] at b2;exact b2⟩
 .have:r.1=n:=()
  exact⟨a1,by rw[this] at a4;exact a4⟩
end
def gS {α:Type}(lt:Nat->Nat->Bool)(N:Nat):KasT α->Prop
 |.ret _=>True
 |.ask i j k=>(i<N/\j<N)/\gS lt N (k (lt i j))
theorem uJ {α β:Type}{lt:Nat->Nat->Bool}{f:α->KasT β}:∀ {t:KasT α},gS lt N t->gS lt N (f (ba lt t))->gS lt N (t.bind f)
 |.ret _,_,h=>h
 |.ask i j k,h,h2=>⟨h.1,uJ h.2 h2⟩
theorem OC {α:Type}{lt:Nat->Nat->Bool}{rh:Nat->Nat->(Bool->aI->Prop)->aI->Prop}(hc:∀ i j (C:Bool->aI->Prop),i<N->j<N->C (lt i j) s->rh i j C s){Q:α->aI->Prop}:∀ {t:KasT α},gS lt N t->Q (ba lt t) s->t.kasWp rh Q s
 |.ret _,_,h=>h
 |.ask i j k,h,q=>hc i j _ h.1.1 h.1.2 (OC hc h.2 q)
abbrev El (N:Nat)(p:Array Nat):Prop:=∀ x∈p,x<N
theorem El.at(h:El N p)(h0:0<N)(i:Nat):at' p i<N:=by
 rw[at_of];cases e:p[i]? with
 |none=>exact h0
 |some v=>exact h v (Array.mem_of_getElem? e)
theorem El.perm{q:Array Nat}(h:El N p)(x:q.Perm p):El N q:=λv m=>h v (x.mem_iff.1 m)
section
variable {lt:Nat->Nat->Bool}(h0:0<N)
include h0
theorem ES(h:El N p):∀ f n,gS lt N (kas_asc p f n)
 |0,_=>trivial
 |f+1,n=>by
  refine⟨⟨h.at h0 _,h.at h0 _⟩,?_⟩;show gS lt N (if lt (at' p n) (at' p (n-1))=af then KasT.ret n else kas_asc p f (n+1))
  by_cases c:lt (at' p n) (at' p (n-1))=af
  .rw[if_pos c];trivial
  .rw[if_neg c];exact ES h f (n+1)
theorem HK{k:Nat}(h:El N p):∀ f l r,gS lt N (kas_place p k f l r)
 |0,_,_=>trivial
 |f+1,l,r=>by
  unfold kas_place;by_cases c:l ≥ r
  .rw[if_pos c];trivial
  .rw[if_neg c];refine⟨⟨h.at h0 _,h.at h0 _⟩,?_⟩;show gS lt N (if lt (at' p k) (at' p ((l+r)/2))=af then kas_place p k f l ((l+r)/2) else kas_place p k f ((l+r)/2+1) r)
   by_cases d:lt (at' p k) (at' p ((l+r)/2))=af
   .rw[if_pos d];exact HK h f _ _
   .rw[if_neg d];exact HK h f _ _
theorem Ag:∀ (f:Nat) (p:Array Nat) (k:Nat),El N p->gS lt N (kas_bin f p k)
 |0,_,_,_=>trivial
 |f+1,p,k,h=>uJ (HK h0 h k 0 k) (Ag f _ _ (h.perm (bubble_perm _ _ _)))
theorem AH:∀ (f:Nat) (p:Array Nat) (n q:Nat),El N p->gS lt N (kas_desc f p n q)/\El N (ba lt (kas_desc f p n q)).1
 |0,_,_,_,h=>⟨trivial,h⟩
 |f+1,p,n,q,h=>by
  have e:ba lt (kas_desc (f+1) p n q)=ba lt (if lt (at' p n) (at' p (n-1))=af then(if q > 0 then kas_desc f (kas_rev p (n-(q+1)) n) (n+1) 0 else kas_desc f p (n+1) 0) else KasT.ask (p.getD (n-1) 0) (p.getD n 0) λd=>if d=af then .ret (p,n,q) else kas_desc f p (n+1) (q+1)):=rfl
  have g:gS lt N (kas_desc (f+1) p n q)↔(at' p n<N/\at' p (n-1)<N)/\gS lt N (if lt (at' p n) (at' p (n-1))=af then(if q > 0 then kas_desc f (kas_rev p (n-(q+1)) n) (n+1) 0 else kas_desc f p (n+1) 0) else KasT.ask (p.getD (n-1) 0) (p.getD n 0) λd=>if d=af then .ret (p,n,q) else kas_desc f p (n+1) (q+1)):=Iff.rfl
  rw[g,e];by_cases c:lt (at' p n) (at' p (n-1))=af
  .rw[if_pos c];by_cases hq:q > 0
   .rw[if_pos hq];obtain⟨a,b⟩:=AH f _ (n+1) 0 (h.perm (qG p (n-(q+1)) n));exact⟨⟨⟨h.at h0 _,h.at h0 _⟩,a⟩,b⟩
   .rw[if_neg hq];obtain⟨a,b⟩:=AH f _ (n+1) 0 h;exact⟨⟨⟨h.at h0 _,h.at h0 _⟩,a⟩,b⟩
  .rw[if_neg c];have e2:ba lt (KasT.ask (p.getD (n-1) 0) (p.getD n 0) λd=>if d=af then .ret (p,n,q) else kas_desc f p (n+1) (q+1))=ba lt (if lt (at' p (n-1)) (at' p n)=af then .ret (p,n,q) else kas_desc f p (n+1) (q+1)):=rfl
   have g2:gS lt N (KasT.ask (p.getD (n-1) 0) (p.getD n 0) λd=>if d=af then .ret (p,n,q) else kas_desc f p (n+1) (q+1))↔(at' p (n-1)<N/\at' p n<N)/\gS lt N (if lt (at' p (n-1)) (at' p n)=af then .ret (p,n,q) else kas_desc f p (n+1) (q+1)):=Iff.rfl
   rw[g2,e2];by_cases d:lt (at' p (n-1)) (at' p n)=af
   .rw[if_pos d];exact⟨⟨⟨h.at h0 _,h.at h0 _⟩,⟨h.at h0 _,h.at h0 _⟩,trivial⟩,h⟩
   .rw[if_neg d];obtain⟨a,b⟩:=AH f _ (n+1) (q+1) h;exact⟨⟨⟨h.at h0 _,h.at h0 _⟩,⟨h.at h0 _,h.at h0 _⟩,a⟩,b⟩
theorem Ax(n m:Nat)(h:El N p):gS lt N (kas_tail3 n m p):=uJ (ES h0 (h.perm (qG _ _ _)) _ _) trivial
theorem OZ(n m:Nat)(h:El N p):gS lt N (kas_descPart n m p):=by
 obtain⟨a,b⟩:=AH h0 (m-(n+1)) p (n+1) 0 h;refine uJ a ?_;split
 .exact Ax h0 _ _ (b.perm (qG _ _ _))
 .exact Ax h0 _ _ b
theorem Xa(m:Nat)(h:El N p):gS lt N (kas_count m p):=by
 refine uJ (ES h0 h _ _) ?_;generalize ba lt (kas_asc p (m-1) 1)=n;by_cases c:(n==m)=af
 .rw[if_pos c];trivial
 .rw[if_neg c];by_cases d:n > 1
  .rw[if_pos d];refine⟨⟨h.at h0 _,h.at h0 _⟩,?_⟩;show gS lt N (if lt (at' p 0) (at' p (n-1))=af then KasT.ret (n,p) else kas_descPart n m (kas_rev p 0 n))
   by_cases e:lt (at' p 0) (at' p (n-1))=af
   .rw[if_pos e];trivial
   .rw[if_neg e];exact OZ h0 _ _ (h.perm (qG _ _ _))
  .rw[if_neg d];exact OZ h0 _ _ h
end
theorem Ts {lt:Nat->Nat->Bool}(O:Ord lt)(h1:1<=n):gS lt n (kas_sort n):=by
 have hs:(iJ (cQ n)).size=n:=by simp
 have h:El n (iJ (cQ n)):=λx m=>by simpa using m
 refine uJ (Xa () n h) ?_
 obtain⟨a1,_⟩:=UW O h1 (by rw[hs];exact bJ _)
 generalize ba lt (kas_count n (iJ (cQ n)))=r at a1;split
 .exact Ag () _ _ _ (h.perm a1)
 .trivial
theorem Uo {lt:Nat->Nat->Bool}(O:Ord lt)(h1:1<=n){rh:Nat->Nat->(Bool->aI->Prop)->aI->Prop}(hc:∀ i j (C:Bool->aI->Prop),i<n->j<n->C (lt i j) s->rh i j C s){G:Array Nat->aI->Prop}
  (h:∀ p:Array Nat,p.Perm (iJ (cQ n))->gK lt p n->G p s):(kas_sort n).kasWp rh G s:=
 OC hc (Ts O h1) (h _ (RL O h1).1 (RL O h1).2)
abbrev Dt (a:aC)(h h':aU):Prop:=∀ b o,b≠a->h.get? b=aa o->h'.get? b=aa o
abbrev mV (h:aU)(a:aC)(vs:List aF):aU:=((h.update a (iI λ_=>#[])).push (iT "tuple" vs.toArray 0)).push (iT "list" #[] 0)
theorem Ub:Dt a h (mV h a vs):=λb o hb e=>
 bX _ (bX _ (((yQ h a (iI λ_=>(#[]:Array aF))).2 b hb).trans e))
theorem Mn{κ:SortKind}{lt:Nat->Nat->Bool}{P:PySem.Fin->aI->Prop}(O:Ord lt)(ho:s.heap.get? a=aa (iT "list" vs.toArray n))(h2:2<=vs.length)(kw:vs.length<64)
  (hk:∀ (Q:SortKind->aI->Prop),Q κ { s with heap:=mV s.heap a vs }->aT (aX prog w) A (keyKind' vs.toArray) Q E { s with heap:=mV s.heap a vs })
  (hc:∀ i j (C:Bool->aI->Prop),i<vs.length->j<vs.length->C (lt i j) { s with heap:=mV s.heap a vs }->aT (aX prog w) A (keyLt' κ (vs.getD i fT) (vs.getD j fT)) C (λ_ _=>False) { s with heap:=mV s.heap a vs })
  (h:∀ p:Array Nat,p.Perm (iJ (cQ vs.length))->gK lt p vs.length->P (.done (.ret .none)) { s with heap:=sortedHeap s.heap a vs (iJ (p.toList.map λi=>vs.getD i fT)) }) :
  aT (aX prog w) A (Builtin.«list.sort» ⟨[.ref a],[]⟩) P E s:=by
 have lz:vs.length<=sizeLine:=by rw[vD];lia
 have ha:=bW ho;obtain⟨e1,rj⟩:∃ e,(s.heap.update a (iI λ_=>(#[]:Array aF))).get? a=aa (iT "list" #[] e):=⟨_,get?_update_seq ho λ_=>#[]⟩
 have rn:(mV s.heap a vs).get? a=aa (iT "list" #[] e1):=bX _ (bX _ rj);rw[list_sort_plain];refine aJ (listItems_at ho rfl (aJ (listUpdate_at ho rfl (aJ (seqEpoch_at rj rfl (aJ (KS (aJ (KU (jW ?_) (eA _))) (by simpa using lz))))) (by rw[dW];exact lz) (eA _))))
 dsimp only;have big:¬ vs.toArray.size<2:=by rw[dW];lia
 rw[if_neg big,if_neg big];refine aJ (hk _ ?_);have eS:SortSt.mk' κ (vs.toArray.zip vs.toArray) #[] 7 ae=kas_st κ (pairsOf vs) (iJ (cQ vs.length)):=by
  have e:=kas_range (pairsOf vs);rw[pairsOf_size] at e;unfold kas_st;rw[e]
  rfl
 have run:=kas_runs (E:=E) (Q:=λ_ ft s'=>s'={ s with heap:=mV s.heap a vs }/\∃ p:Array Nat,p.Perm (iJ (cQ vs.length))/\gK lt p vs.length/\arrOf ft=p.map (kas_item (pairsOf vs))/\failedOf ft=ae)
  (G:=λp s'=>s'={ s with heap:=mV s.heap a vs }/\p.Perm (iJ (cQ vs.length))/\gK lt p vs.length) h2 kw (λp' ft s' a1 a2 a3 ⟨b1,b2,b3⟩=>⟨b1,p',b2,b3,a2,a3⟩)
  (Uo O () (λi j C hi hj q=>by
   unfold kas_cmp;rw[kas_item_eq,kas_item_eq];exact hc i j C hi hj q) λp b1 b2=>⟨rfl,b1,b2⟩)
 rw[<-eS] at run;refine aJ (kO run ?_ λ_ _ e=>e)
 rintro⟨⟨⟩,ft⟩ s' ⟨rfl,p,b1,b2,E4,hf⟩;dsimp only;have og:(arrOf ft).map (·.2)=iJ (p.toList.map λi=>vs.getD i fT):=by
  apply Dp.1;rw[E4,Array.map_map,Array.toList_map];exact nV λi _=>congrArg Prod.snd (kas_item_eq vs i)
 have hps:p.size=vs.length:=by
  have:=b1.size_eq;simpa using this
 have hsz:(iJ (p.toList.map λi=>vs.getD i fT)).size<=sizeLine:=by
  grind
 rw[og];refine aJ (seqEpoch_at rn rfl (aJ (listUpdate_at rn rfl ?_ (eA _) (Nat.le_succ_of_le hsz))));rw[hf];simp only[bne_self_eq_false,tH,if_false];exact bA (h p b1 b2)
theorem Om{κ:SortKind}{lt:Nat->Nat->Bool}(O:Ord lt)(hl:s.heap.IsList l vs.toArray)(h2:2<=vs.length)(kw:vs.length<64)
  (hk:∀ h',(∀ b o,s.heap.get? b=aa o->h'.get? b=aa o)->∀ (A':cE) (E':aF->aI->Prop) (R:SortKind->aI->Prop),R κ { s with heap:=h' }->aT (aX prog w) A' (keyKind' vs.toArray) R E' { s with heap:=h' })
  (hc:∀ h',(∀ b o,s.heap.get? b=aa o->h'.get? b=aa o)->∀ (A':cE),A'.units<=A.units+4->∀ i j (C:Bool->aI->Prop),i<vs.length->j<vs.length->C (lt i j) { s with heap:=h' }->aT (aX prog w) A' (keyLt' κ (vs.getD i fT) (vs.getD j fT)) C (λ_ _=>False) { s with heap:=h' })
  (h:∀ p:Array Nat,p.Perm (iJ (cQ vs.length))->gK lt p vs.length->Q (.ref (s.heap.objs.size+1)) { s with heap:=sortedAll s.heap vs (iJ (p.toList.map λi=>vs.getD i fT)) }) :
  aT (aX prog w) A (call (.builtin "sorted") [.ref l]) Q E s:=by
 refine Calls.call_function_entry kind_sorted plain_sorted entry_sorted (args_sorted1 _) ?_;unfold Builtin.«sorted»;refine aJ (bA (aJ (collect_list hl (aJ (KU ?_)))));have z:((s.heap.push (iT "list" #[] 0)).update s.heap.objs.size (iI (· ++ vs.toArray))).objs.size=s.heap.objs.size+1:=by rw[Heap.size_update,size_push']
 have m7:(((s.heap.push (iT "list" #[] 0)).update s.heap.objs.size (iI (· ++ vs.toArray))).push (iT "list" vs.toArray 0)).get? (s.heap.objs.size+1)=aa (iT "list" vs.toArray 0):=z ▸ dG _ rfl;have kept:∀ b o,s.heap.get? b=aa o->(mV (((s.heap.push (iT "list" #[] 0)).update s.heap.objs.size (iI (· ++ vs.toArray))).push (iT "list" vs.toArray 0)) (s.heap.objs.size+1) vs).get? b=aa o:=λb o e=>by
  have hb:=bW e;refine Ub b o (λq=>?_) (bX _ (((yQ _ s.heap.objs.size _).2 b (λq=>?_)).trans (bX _ e)))
  all_goals grind
 rw[z];refine aJ (jW (jX slot_list_sort ⟨_,m7,rfl⟩ entry_list_sort (Mn O m7 h2 kw (λR q=>hk _ kept _ _ R q) (λi j C hi hj q=>hc _ kept _ ?_ i j C hi hj q) λp b1 b2=>⟨_,rfl,?_⟩) (args_list_sort _)))
 .grind
 .exact bA ⟨_,rfl,h p b1 b2⟩
def gU:aA->List Int
 |.int i=>[0,i]
 |.str x=>1::x.cps.toList.map nX
 |_=>[2]
def cZ (ks:List aA):List (List Int):=ks.map gU
theorem TX (a b:List (List Int))(h:a<b):¬ b<a:=List.lt_asymm h
theorem TY (a b c:List (List Int))(h1:¬ b<a)(h2:¬ c<b):¬ c<a:=by
 have h1:=h1;have h2:=h2;exact List.le_trans h1 h2
theorem HG {e:aA}(h1:(∃ i,d=.int i)\/∃ x,d=.str x)(h2:(∃ i,e=.int i)\/∃ x,e=.str x)(h:gU d=gU e):d=e:=by
 rcases h1 with⟨i,rfl⟩|⟨x,rfl⟩<;>rcases h2 with⟨j,rfl⟩|⟨y,rfl⟩
 .simp[gU] at h;rw[h]
 .simp[gU] at h
 .simp[gU] at h
 .have h':x.cps.toList.map nX=y.cps.toList.map nX:=by simpa [gU] using h
  have:=(List.map_inj_right (λa b q=>Int.ofNat.inj q)).1 h'
  have:x=y:=by
   cases x;cases y;simp only at this;rw[Dp.1 this]
  rw[this]
def NI (kss:List (List aA))(i j:Nat):Bool:=decide (cZ (kss.getD i [])<cZ (kss.getD j []))
theorem Jd (kss:List (List aA)):Ord (NI kss):=by
 refine⟨λa b h=>?_,λa b c h1 h2=>?_⟩
 .have:=TX _ _ (of_decide_eq_true h);exact decide_eq_false this
 .exact decide_eq_false (TY _ _ _ (of_decide_eq_false h1) (of_decide_eq_false h2))
theorem Abj.tupK{ks:List aA}(r:Abj K H (.tuple ks) v)(h1:bY ks=af)(h2:cX ks<=6):∃ a,v=.ref a/\Anx H ks a:=by
 obtain⟨a,xs,e,s,r⟩:=Aar.1 r;exact⟨a,e,h1,h2,xs,s,Aao.keys ks h1 r⟩
def nC:List aA->Option (List (List aA))
 |[]=>aa []
 |.tuple ks::r=>if bY ks=af/\cX ks<=6 then(nC r).bind λkss=>aa (ks::kss) else ae
 |_::_=>ae
theorem RB:∀ {ds:List aA} {kss:List (List aA)},nC ds=aa kss->ds=kss.map dJ/\∀ ks∈kss,bY ks=af/\cX ks<=6
 |[],kss,h=>by cases h;exact⟨rfl,λ_ m=>by simp at m⟩
 |.tuple ks::r,kss,h=>by
  by_cases c:bY ks=af/\cX ks<=6
  .have h':((nC r).bind λkss=>aa (ks::kss))=aa kss:=by
    have:(if bY ks=af/\cX ks<=6 then(nC r).bind λkss=>aa (ks::kss) else ae)=aa kss:=h
    grind
   obtain⟨k2,e1,e2⟩:=aj h';cases e2;obtain⟨q1,q2⟩:=RB e1
   grind
  .have:(if bY ks=af/\cX ks<=6 then(nC r).bind λkss=>aa (ks::kss) else ae)=aa kss:=h
   grind
 |.none::_,_,h=>by cases h
 |.bool _::_,_,h=>by cases h
 |.int _::_,_,h=>by cases h
 |.str _::_,_,h=>by cases h
 |.list _::_,_,h=>by cases h
 |.dict _::_,_,h=>by cases h
open PySem PySem.Spec PySem.W PyProof.Rows
def iD:List aA->List aA->Bool
 |[],[]=>af
 |.int _::r,.int _::r'=>iD r r'
 |.str _::r,.str _::r'=>iD r r'
 |_,_=>ag
theorem PD (i j:Int)(r r':List aA):(cZ (.int i::r)<cZ (.int j::r'))↔i<j\/i=j/\cZ r<cZ r':=by
 show(gU (.int i)::cZ r<gU (.int j)::cZ r')↔_;rw[yO];simp[gU,yO]
theorem map_lt (xs ys:List Nat):(xs.map nX<ys.map nX)↔xs<ys:=by
 induction xs generalizing ys with
 |nil=>cases ys<;>simp
 |cons x r ih=>
  cases ys with
  |nil=>simp
  |cons y r'=>
   rw[cY,cY,yO,yO,ih];have h1:(nX x<nX y)↔x<y:=Int.ofNat_lt;have h2:(nX x=nX y)↔x=y:=⟨λe=>Int.ofNat.inj e,λe=>by rw[e]⟩
   rw[h1,h2]
theorem QO (x y:aE)(r r':List aA):(cZ (.str x::r)<cZ (.str y::r'))↔x.cps.toList<y.cps.toList\/x=y/\cZ r<cZ r':=by
 show(gU (.str x)::cZ r<gU (.str y)::cZ r')↔_;rw[yO];have h1:(gU (.str x)<gU (.str y))↔x.cps.toList<y.cps.toList:=by
  show((1:Int)::x.cps.toList.map nX<(1:Int)::y.cps.toList.map nX)↔_;rw[yO,map_lt];simp
 have h2:(gU (.str x)=gU (.str y))↔x=y:=⟨λe=>by
  have:=HG (.inr ⟨x,rfl⟩) (.inr ⟨y,rfl⟩) e;injection this,λe=>by rw[e]⟩
 rw[h1,h2]
section
variable {Q:Bool->aI->Prop}
theorem EU:∀ (ks d7:List aA) {vs rp:List aF} {as rq:List aC} (i:Nat),iD ks d7=af->pD s.heap vs ks as->pD s.heap rp d7 rq->Q (decide (cZ ks<cZ d7)) s->KatLex prog w A b ag Q (vs.zip rp) i s
 |[],[],vs,rp,as,rq,i,_,r,r',h=>by
  cases r;cases r';exact kat_nil h
 |.int x::ks,.int y::d7,vs,rp,as,rq,i,hs,r,r',h=>by
  cases r with
  |cons r1 r2=>
   cases r' with
   |cons nu wq=>
    cases r1 with
    |int _ t=>
     cases nu with
     |int _ u=>
      rw[Ck];refine kat_cons ((fF prog w).eqBool (JD _ _ x t) (JD _ _ y u) ?_);refine kat_go (λe=>kat_yes ?_) λe=>kat_no ?_
      .have e':x=y:=by simpa using e
       subst e';refine EU ks d7 (i+1) (by simpa [iD] using hs) r2 wq ?_
       have:decide (cZ (.int x::ks)<cZ (.int x::d7))=decide (cZ ks<cZ d7):=decide_eq_decide.2 (by rw[PD];simp)
       rw[<-this];exact h
      .have e':x≠y:=by simpa using e
       have:decide (cZ (.int x::ks)<cZ (.int y::d7))=decide (x<y):=decide_eq_decide.2 (by rw[PD];simp[e'])
       rw[this] at h;cases(b&&i==0) with
       |true=>exact oneLt_int h
       |false=>exact kat_one _ _ (lt_int h)
 |.str x::ks,.str y::d7,vs,rp,as,rq,i,hs,r,r',h=>by
  cases r with
  |cons r1 r2=>
   cases r' with
   |cons nu wq=>
    cases r1 with
    |str _ t=>
     cases nu with
     |str _ u=>
      rw[Ck];refine kat_cons ((fF prog w).eqBool (JE _ _ x t) (JE _ _ y u) ?_);refine kat_go (λe=>kat_yes ?_) λe=>kat_no ?_
      .have e':x=y:=by simpa using e
       subst e';refine EU ks d7 (i+1) (by simpa [iD] using hs) r2 wq ?_
       have:decide (cZ (.str x::ks)<cZ (.str x::d7))=decide (cZ ks<cZ d7):=decide_eq_decide.2 (by rw[QO];simp[List.lt_irrefl])
       rw[<-this];exact h
      .have e':x≠y:=by simpa using e
       have:decide (cZ (.str x::ks)<cZ (.str y::d7))=decide (x.cps.toList<y.cps.toList):=decide_eq_decide.2 (by rw[QO];simp[e'])
       rw[this] at h;cases(b&&i==0) with
       |true=>exact oneLt_str h
       |false=>exact kat_one _ _ (lt_str h)
end
def lX:List aA->Option String
 |.int _::_=>aa "int"
 |.str _::_=>aa "str"
 |_=>ae
theorem Wk {M:Model}{k:List aA}{b:aC}(hd:Aeu h k b)(hk:lX k=aa T) :
  ∃ o xs n f,h.get? b=aa o/\o.cls=.type "tuple" /\ o.data=.seq xs n/\xs[0]?=aa f/\Looks M h (typeOf f) (.type T):=by
 obtain⟨_,_,as,r⟩:=hd;obtain⟨a,o,xs,n,e,ho,hc,hd,hi⟩:=uU r;cases e
 match k,hk,hi with
 |.int i::r,hk,hi=>
  cases hk;generalize hx:xs.toList=l at hi;cases hi with
  |cons h1 _=>
   cases h1 with
   |int _ t=>exact⟨o,xs,n,.int i t,ho,hc,hd,by rw[<-Dr,hx];rfl,Looks.of_pure rfl⟩
 |.str x::r,hk,hi=>
  cases hk;generalize hx:xs.toList=l at hi;cases hi with
  |cons h1 _=>
   cases h1 with
   |str _ t=>exact⟨o,xs,n,.str x t,ho,hc,hd,by rw[<-Dr,hx];rfl,Looks.of_pure rfl⟩
abbrev Afx (h:aU)(vs:List aF)(kss:List (List aA)):Prop:=dM (λv k=>∃ b,v=fR b/\Aeu h k b) vs kss
theorem VL {M:Model}{h:aU}{T:String}:∀ {vs:List aF} {kss:List (List aA)},Afx h vs kss->(∀ k∈kss,lX k=aa T)->∃ fs,KatTups h vs fs/\fs.length=vs.length/\∀ f∈fs,Looks M h (typeOf f) (.type T)
 |_,_,.nil,_=>⟨[],KatTups.nil,rfl,λ_ m=>by simp at m⟩
 |_,_,.cons ⟨b,e,hd⟩ t,hk=>by
  obtain⟨fs,h1,h2,h3⟩:=VL (M:=M) t λk m=>hk k (bM _ m)
  obtain⟨o,xs,n,f,q1,q2,q3,q4,q5⟩:=Wk (M:=M) hd (hk _ bO);subst e;refine⟨f::fs,KatTups.cons q1 q2 q3 q4 h1,by rw[fJ,fJ,h2],λg m=>?_⟩
  rcases cV.1 m with rfl|m
  .exact q5
  .exact h3 g m
theorem Afx.get:∀ {vs:List aF} {kss:List (List aA)},Afx h vs kss->∀ i,i<vs.length->∃ b,vs.getD i fT=.ref b/\Aeu h (kss.getD i []) b/\kss.getD i []∈kss
 |_,_,.nil,i,hi=>absurd hi (by simp)
 |_,_,.cons ⟨b,e,hd⟩ t,0,_=>⟨b,e,hd,bO⟩
 |_,_,.cons _ t,i+1,hi=>by
  obtain⟨b,q1,q2,q3⟩:=Afx.get t i (by simpa using hi)
  exact⟨b,by simpa using q1,by simpa using q2,by simpa using bM _ q3⟩
theorem Afx.keep(k:∀ b o,h.get? b=aa o->h'.get? b=aa o):∀ {vs:List aF} {kss:List (List aA)},Afx h vs kss->Afx h' vs kss
 |_,_,.nil=>.nil
 |_,_,.cons ⟨b,e,hd⟩ t=>.cons ⟨b,e,hd.keep λb o _ _ q _ _=>k b o q⟩ (Afx.keep k t)
theorem IF:∀ {k k':List aA},iD k k'=af->k.length=k'.length
 |[],[],_=>rfl
 |.int _::r,.int _::r',h=>by rw[fJ,fJ,IF (by simpa [iD] using h)]
 |.str _::r,.str _::r',h=>by rw[fJ,fJ,IF (by simpa [iD] using h)]
theorem II:∀ {vs:List aF} {ks:List aA} {as:List aC},pD h vs ks as->vs.length=ks.length
 |_,_,_,.nil=>rfl
 |_,_,_,.cons _ t=>by rw[fJ,fJ,II t]
theorem Rh(hl:s.heap.IsList l vs.toArray)(ht:Afx s.heap vs kss)(hT:T = "int" \/ T = "str")(hk:∀ k∈kss,lX k=aa T)(hs:∀ k∈kss,∀ k'∈kss,iD k k'=af)(h2:2<=vs.length)(kw:vs.length<64)
  (h:∀ p:Array Nat,p.Perm (iJ (cQ vs.length))->gK (NI kss) p vs.length->Q (.ref (s.heap.objs.size+1)) { s with heap:=sortedAll s.heap vs (iJ (p.toList.map λi=>vs.getD i fT)) }) :
  aT (aX prog w) A (call (.builtin "sorted") [.ref l]) Q E s:=by
 refine Om (κ:=tuples' (mG T != mG "tuple")) (Jd kss) hl h2 kw (λh' kp A' E' R q=>?_) (λh' kp A' _ i j C hi hj q=>?_) h
 .obtain⟨fs,f1,f2,f3⟩:=VL (M:=aX prog w) (ht.keep kp) hk;exact kat_kind (s:={ s with heap:=h' }) f1 () f3 (by rcases hT with rfl|rfl<;>decide) q
 .have zi:=ht.keep kp;obtain⟨b,e1,⟨_,_,as,r1⟩,m1⟩:=zi.get i hi;obtain⟨b',e2,⟨_,_,rq,r2⟩,m2⟩:=zi.get j hj;rw[e1,e2];obtain⟨_,o,xs,n,z,ho,_,hd,hr⟩:=uU r1;cases z;obtain⟨_,o',gv,n',z,k9,_,m6,zj⟩:=uU r2;cases z;have zk:=hs _ m1 _ m2;have l1:=II hr;have l2:=II zj;have ll:=IF zk;have:decide (xs.size<gv.size)=ag:=decide_eq_false (by simp only[Dq] at l1 l2;lia)
  refine kat_lt (s:={ s with heap:=h' }) ho hd k9 m6 ?_;rw[this];exact EU _ _ 0 zk hr zj q
theorem Vc{P:PySem.Fin->aI->Prop}(ho:s.heap.get? a=aa (iT "list" vs.toArray n))(h2:vs.length<2)(h:P (.done (.ret .none)) { s with heap:=sortedHeap s.heap a vs vs.toArray }) :
  aT (aX prog w) A (Builtin.«list.sort» ⟨[.ref a],[]⟩) P E s:=by
 have lz:vs.length<=sizeLine:=by rw[vD];lia
 obtain⟨e1,rj⟩:∃ e,(s.heap.update a (iI λ_=>(#[]:Array aF))).get? a=aa (iT "list" #[] e):=⟨_,get?_update_seq ho λ_=>#[]⟩
 have rn:(mV s.heap a vs).get? a=aa (iT "list" #[] e1):=bX _ (bX _ rj);rw[list_sort_plain];refine aJ (listItems_at ho rfl (aJ (listUpdate_at ho rfl (aJ (seqEpoch_at rj rfl (aJ (KS (aJ (KU (jW ?_) (eA _))) (by simpa using lz))))) (by rw[dW];exact lz) (eA _))))
 dsimp only;have few:vs.toArray.size<2:=by rw[dW];exact h2
 rw[if_pos few,if_pos few];refine aJ (bA ?_);rw[StateT.run_pure];refine aJ (bA ?_);dsimp only;have og:(arrOf (SortSt.mk' general' (vs.toArray.zip vs.toArray) #[] 7 ae)).map (·.2)=vs.toArray:=by
  apply Dp.1;have:∀ l:List aF,List.map (λx=>x.snd) (l.zip l)=l:=λl=>by
   induction l with
   |nil=>rfl
   |cons a l ih=>rw[Ck,cY,ih]
  simpa using this vs
 rw[og];refine aJ (seqEpoch_at rn rfl (aJ (listUpdate_at rn rfl ?_ (eA _) (Nat.le_succ_of_le (by rw[dW];exact lz)))))
 simp only[bne_self_eq_false,tH,if_false];exact bA h
theorem Qj(hl:s.heap.IsList l vs.toArray)(h2:vs.length<2)(h:Q (.ref (s.heap.objs.size+1)) { s with heap:=sortedAll s.heap vs vs.toArray }) :
  aT (aX prog w) A (call (.builtin "sorted") [.ref l]) Q E s:=by
 refine Calls.call_function_entry kind_sorted plain_sorted entry_sorted (args_sorted1 _) ?_;unfold Builtin.«sorted»;refine aJ (bA (aJ (collect_list hl (aJ (KU ?_)))));have z:((s.heap.push (iT "list" #[] 0)).update s.heap.objs.size (iI (· ++ vs.toArray))).objs.size=s.heap.objs.size+1:=by rw[Heap.size_update,size_push']
 have m7:(((s.heap.push (iT "list" #[] 0)).update s.heap.objs.size (iI (· ++ vs.toArray))).push (iT "list" vs.toArray 0)).get? (s.heap.objs.size+1)=aa (iT "list" vs.toArray 0):=z ▸ dG _ rfl;rw[z];refine aJ (jW (jX slot_list_sort ⟨_,m7,rfl⟩ entry_list_sort (Vc m7 h2 ⟨_,rfl,?_⟩) (args_list_sort _)));exact bA ⟨_,rfl,h⟩
theorem GD:∀ {a b:List aA},iD a b=af->cZ a=cZ b->a=b
 |[],[],_,_=>rfl
 |.int i::r,.int j::r',h,e=>by
  have h':iD r r'=af:=by simpa [iD] using h
  have e':gU (.int i)=gU (.int j)/\cZ r=cZ r':=by simpa [cZ] using e
  rw[HG (.inl ⟨i,rfl⟩) (.inl ⟨j,rfl⟩) e'.1,GD h' e'.2]
 |.str x::r,.str y::r',h,e=>by
  have h':iD r r'=af:=by simpa [iD] using h
  have e':gU (.str x)=gU (.str y)/\cZ r=cZ r':=by simpa [cZ] using e
  rw[HG (.inr ⟨x,rfl⟩) (.inr ⟨y,rfl⟩) e'.1,GD h' e'.2]
def leT (a b:List aA):Bool:=!decide (cZ b<cZ a)
theorem Ah7 {a b:List aA}:leT a b=af ↔ ¬ cZ b<cZ a:=by simp[leT]
theorem Ov (a b c:List aA)(h1:leT a b=af)(h2:leT b c=af):leT a c=af:=Ah7.2 (TY _ _ _ (Ah7.1 h1) (Ah7.1 h2))
theorem Oq (a b:List aA):(leT a b||leT b a)=af:=by
 by_cases h:cZ b<cZ a
 .have:=TX _ _ h;simp[leT,h,this]
 .simp[leT,h]
theorem Vy {a b:List aA}(hs:iD a b=af)(h1:leT a b=af)(h2:leT b a=af):a=b:=by
 have h1:=Ah7.1 h1;have h2:=Ah7.1 h2;exact GD hs (List.le_antisymm h1 h2)
def oB (kss:List (List aA)):List (List aA):=kss.mergeSort leT
def sameAll (kss:List (List aA)):Bool:=kss.all λk=>kss.all λk'=>iD k k'
def ki (kss:List (List aA)):Bool:=decide (kss.length<2)||(sameAll kss&&kss.all λk=>(lX k).isSome)
theorem BM (kss:List (List aA)):(oB kss).Perm kss:=List.mergeSort_perm kss leT
theorem Rb (kss:List (List aA)):(oB kss).Pairwise λa b=>leT a b=af:=List.pairwise_mergeSort Ov Oq kss
theorem TC {qs:List (List aA)}(hs:ki kss=af)(hp:qs.Perm kss)(hr:qs.Pairwise λa b=>leT a b=af):qs=oB kss:=by
 have eg:=hp.trans (BM kss).symm;by_cases h2:kss.length<2
 .have l1:qs.length<2:=by rw[hp.length_eq];exact h2
  match qs,l1,eg with
  |[],_,eg=>exact(List.nil_perm.1 eg).symm
  |[q],_,eg=>exact List.singleton_perm.1 eg
 .have qu:sameAll kss=af:=by
   have:(sameAll kss&&kss.all λk=>(lX k).isSome)=af:=by simpa [ki,h2] using hs
   exact(iM.1 this).1
  refine List.Perm.eq_of_pairwise (λa b ma mb h1 h2=>Vy ?_ h1 h2) hr (Rb kss) eg
  have E5:=hp.mem_iff.1 ma;have wt:=(BM kss).mem_iff.1 mb;exact fV.1 (fV.1 qu a E5) b wt
theorem same_kind:∀ {k k':List aA},iD k k'=af->lX k=lX k'
 |[],[],_=>rfl
 |.int _::_,.int _::_,_=>rfl
 |.str _::_,.str _::_,_=>rfl
theorem Mp {k:List aA}(h:lX k=aa T):T = "int" \/ T = "str":=by
 unfold lX at h;split at h
 .cases h;exact .inl rfl
 .cases h;exact .inr rfl
 .cases h
theorem Qm(hl:s.heap.IsList l vs.toArray)(ht:Afx s.heap vs kss)(ok:ki kss=af)(kw:vs.length<64)
  (h:∀ p:List Nat,p.Perm (cQ vs.length)->p.map (λi=>kss.getD i [])=oB kss->Q (.ref (s.heap.objs.size+1)) { s with heap:=sortedAll s.heap vs (iJ (p.map λi=>vs.getD i fT)) }) :
  aT (aX prog w) A (call (.builtin "sorted") [.ref l]) Q E s:=by
 have ln:=nP ht;have wu:∀ {α:Type} (xs:List α) (d:α),(cQ xs.length).map (λi=>xs.getD i d)=xs:=λxs d=>by
  apply MD
  .simp
  .intro i h1 h2;simp at h1;simp[h1]
 by_cases h2:vs.length<2
 .refine Qj hl h2 ?_;have:=h (cQ vs.length) (List.Perm.refl _) (by
   rw[ln,wu kss];refine TC ok (List.Perm.refl _) ?_
   match kss,ln with
   |[],_=>exact .nil
   |[k],_=>simp
   | _::_::_,ln=>simp at ln;lia)
  rw[wu vs] at this;exact this
 .have hs:sameAll kss=af/\(kss.all λk=>(lX k).isSome)=af:=by
   have tq:¬ kss.length<2:=()
   have:(sameAll kss&&kss.all λk=>(lX k).isSome)=af:=by simpa [ki,tq] using ok
   exact iM.1 this
  obtain⟨k0,m0⟩:∃ k0,k0∈kss:=by
   cases hk:kss with
   |nil=>rw[hk] at ln;exact absurd ln (by simp;intro e;rw[e] at h2;simp at h2)
   |cons k r=>exact⟨k,bO⟩
  obtain⟨T,hT⟩:=CO.1 (fV.1 hs.2 k0 m0);have sm:∀ k∈kss,∀ k'∈kss,iD k k'=af:=λk m k' m'=>fV.1 (fV.1 hs.1 k m) k' m'
  refine Rh hl ht (Mp hT) (λk m=>(same_kind (sm k m k0 m0)).trans hT) sm () kw λp hp ha=>?_
  have eg:p.toList.Perm (cQ vs.length):=by simpa using Array.perm_iff_toList_perm.1 hp
  have pl:p.toList.length=vs.length:=by rw[eg.length_eq,yK]
  refine h p.toList eg (TC ok ?_ ?_)
  .have:=eg.map (λi=>kss.getD i [])
   rw[ln,wu kss] at this;exact this
  .rw[List.pairwise_map,Yy];intro i j hi hj d9;refine Ah7.2 ?_;have:=ha i j (nQ d9) ()
   have e1:at' p i=p.toList[i]:=by simp at hi;simp[at',hi]
   have e2:at' p j=p.toList[j]:=by simp at hj;simp[at',hj]
   rw[e1,e2] at this;exact of_decide_eq_false this
abbrev uB (H:Hp)(ys:List V)(kss:List (List aA)):Prop:=dM (λy k=>∃ b,y=V.ref b/\Anx H k b) ys kss
theorem QX:∀ {kss:List (List aA)} {ys:List V},(∀ ks∈kss,bY ks=af/\cX ks<=6)->Aao K H (kss.map dJ) ys->uB H ys kss
 |[],ys,_,r=>by rw[Aaj.1 r];exact .nil
 |k::kss,ys,hk,r=>by
  obtain⟨v,t,rfl,r1,r2⟩:=Aaf.1 r;obtain⟨b,rfl,tk⟩:=r1.tupK (hk k bO).1 (hk k bO).2;exact .cons ⟨b,rfl,tk⟩ (QX (λx m=>hk x (bM _ m)) r2)
theorem RO(x:∀ c zs,H c=aa (.tup zs)->H' c=aa (.tup zs)):∀ {ys:List V} {kss:List (List aA)},uB H ys kss->uB H' ys kss
 |_,_,.nil=>.nil
 |_,_,.cons ⟨b,e,tk⟩ t=>.cons ⟨b,e,tk.keep x⟩ (RO x t)
theorem OP {P:bN}(ok:HOk P w H h):∀ {ys:List V} {kss:List (List aA)} {vs:List aF},uB H ys kss->Vals ys vs->Afx h vs kss
 |_,_,_,.nil,.nil=>.nil
 |_,_,_,.cons ⟨b,e,tk⟩ t,.cons r rr=>by
  subst e;cases r;exact .cons ⟨b,rfl,key_of ok tk⟩ (OP ok t rr)
def rM (p:List Nat)(ys:List V):List V:=p.map λi=>ys.getD i .non
theorem VH:∀ {ys:List V} {vs:List aF} (i:Nat),Vals ys vs->i<ys.length->RelV (ys.getD i .non) (vs.getD i fT)
 |_,_,0,.cons r _,_=>r
 |_,_,i+1,.cons _ t,h=>VH i t (by simpa using h)
theorem TZ(r:Vals ys vs):∀ p:List Nat,(∀ i∈p,i<ys.length)->Vals (rM p ys) (p.map λi=>vs.getD i fT)
 |[],_=>.nil
 |i::p,h=>.cons (VH i r (h i bO)) (TZ r p λj m=>h j (bM _ m))
theorem XY:Adc X (.builtin "sorted") (λxs H Q=>∃ p ys kss,xs=[.ref p]/\SqL X.K H p ys/\uB H ys kss/\ki kss=af/\kss.length<64 /\
  ∀ l q,H l=ae->q.Perm (cQ ys.length)->q.map (λi=>kss.getD i [])=oB kss->Q (.ref l) (upd H l (.lst (rM q ys)))):=by
 rw[6];obtain⟨p,ys,kss,rfl,hp,rf,ok,hl,q⟩:=h;obtain⟨u,rfl,ru⟩:=vals1 r;cases ru;obtain⟨its,rv,pl,hz⟩:=I.list hp;have e1:=rv.length;have e2:=nP rf;refine Qm pl.isList (OP I.hok rf rv) ok () λq' eg hs=>?_
 have hq:∀ i∈q',i<ys.length:=λi m=>by
  have:=nU.1 (eg.mem_iff.1 m)
  lia
 obtain⟨e,he⟩:=sortedAll_at s.heap its (iJ (q'.map λi=>its.getD i fT))
 have hn:=I.hok.fresh (yG _);have lz:(rM q' ys).length<=sizeLine:=by
  unfold rM;rw[cD,eg.length_eq,yK]
  lia
 exact⟨.ref (s.heap.objs.size+1),_,I.laid (t':=s.toks) (o:=.lst (rM q' ys)) (λb ob g=>sortedAll_old g) (yG _) ⟨lz,_,e,TZ rv q' hq,he⟩,rfl,q _ q' hn (by rw[e1];exact eg) hs⟩
def uG:List aA->Option aA
 |[.list ds]=>(nC ds).bind λkss=>if ki kss=af/\kss.length<64 then aa (.list ((oB kss).map dJ)) else ae
 |_=>ae
theorem VF:∀ {kss:List (List aA)} {ys:List V} (i:Nat),Aao K H (kss.map dJ) ys->i<ys.length->Abj K H (.tuple (kss.getD i [])) (ys.getD i .non)
 |[],ys,i,r,h=>by rw[Aaj.1 r] at h;simp at h
 |k::kss,ys,0,r,h=>by
  obtain⟨v,t,rfl,r1,r2⟩:=Aaf.1 r;exact r1
 |k::kss,ys,i+1,r,h=>by
  obtain⟨v,t,rfl,r1,r2⟩:=Aaf.1 r;exact VF i r2 (by simpa using h)
theorem UQ(r:Aao K H (kss.map dJ) ys):∀ p:List Nat,(∀ i∈p,i<ys.length)->Aao K H ((p.map λi=>kss.getD i []).map dJ) (rM p ys)
 |[],_=>Aaj.2 rfl
 |i::p,h=>Aaf.2 ⟨_,_,rfl,VF i r (h i bO),UQ r p λj m=>h j (bM _ m)⟩
theorem XD:CallD K 1 (λxs H Q=>∃ p ys kss,xs=[.ref p]/\SqL K H p ys/\uB H ys kss/\ki kss=af/\kss.length<64 /\
  ∀ l q,H l=ae->q.Perm (cQ ys.length)->q.map (λi=>kss.getD i [])=oB kss->Q (.ref l) (upd H l (.lst (rM q ys)))) uG:=λP H xs ds d Q hP r e k=>by
 unfold uG at e;split at e
 .obtain⟨kss,e1,e2⟩:=aj e;obtain⟨⟨ok,hl⟩,rfl⟩:=cH e2;obtain⟨rfl,hk⟩:=RB e1;obtain⟨v,rfl,r'⟩:=gP r;obtain⟨q,ys,rfl,hq,rr⟩:=Abe.1 r';refine⟨q,ys,kss,rfl,Aap.sqL hq,?_,ok,hl,λl p hn hp hs=>?_⟩
  .exact RO (λc zs g=>Aap _ _ g) (QX hk rr)
  .have hi:∀ i∈p,i<ys.length:=λi m=>nU.1 (hp.mem_iff.1 m)
   have:=UQ rr p hi;rw[hs] at this;exact k.lst hP hn this
 .cases e
def A6:SF:=λ_=>ae
theorem Gk{s:dU}:DS X H0 P0 n0 s A6:=λad st Z H D I q=>by
 obtain⟨B0,Y,fp,o,S,ef,k⟩:=q;cases ef
open PySem PySem.SetTable
def Ds (xs:Array Nat):Prop:=∀ a b u v:Nat,a<b->xs[a]?=aa u->xs[b]?=aa v->u<v
def K7 (mask:Nat)(p:Probe):Probe:=if p.more > 0 then { p with j:=p.j+1,more:=p.more-1 } else
 { p with j:=(leap mask p.i p.perturb).1,more:=runEnd mask (leap mask p.i p.perturb).1-(leap mask p.i p.perturb).1,i:=(leap mask p.i p.perturb).1,perturb:=(leap mask p.i p.perturb).2 }
def pN (mask:Nat)(p:Probe):Nat->Probe
 |0=>p
 |n+1=>K7 mask (pN mask p n)
def K9 (mask i E6:Nat):Probe:={ j:=i,more:=runEnd mask i-i,i,perturb:=E6,dummy:=ae }
def lp (mask:Nat)(s:Nat×Nat):Nat->Nat×Nat
 |0=>s
 |m+1=>leap mask (lp mask s m).1 (lp mask s m).2
def On (mask:Nat):Prop:=mask=7\/mask=31\/mask=127\/mask=511\/mask=2047\/mask=8191
def rd (mask:Nat)(h:Int)(n:Nat):Probe:=pN mask (K9 mask (bits h%(mask+1)) (bits h)) n
def Es (t:yC)(j:Nat):Prop:=∃ i:Nat,t.place[i]?=aa j
structure Good (t:yC)(es:Array (Int×aF)):Prop where
 small:On t.mask
 nod:t.dummies = #[]
 ris:Ds t.place
 len:t.place.size=es.size
 inb:∀ i j:Nat,t.place[i]?=aa j->j<=t.mask
 room:es.size<=t.mask
 reach:∀ (i j:Nat) (e:Int×aF),t.place[i]?=aa j->es[i]?=aa e->∃ n,(rd t.mask e.1 n).j=j/\∀ m<n,Es t (rd t.mask e.1 m).j
structure Own (mask:Nat)(hs:List Int)(ow:Array (Option Nat)):Prop where
 size:ow.size=mask+1
 lt:∀ j i:Nat,ow[j]?=aa (aa i)->i<hs.length
 inj:∀ j j' i:Nat,ow[j]?=aa (aa i)->ow[j']?=aa (aa i)->j=j'
 all:∀ i<hs.length,∃ j:Nat,ow[j]?=aa (aa i)
 reach:∀ (j i:Nat) (h:Int),ow[j]?=aa (aa i)->hs[i]?=aa h->∃ n,(rd mask h n).j=j/\∀ m<n,∃ i':Nat,ow[(rd mask h m).j]?=aa (aa i')
theorem Wz {ow:Array (Option Nat)}(hj:j<ow.size):ow[j]?=aa ae\/∃ i,ow[j]?=aa (aa i):=by
 rw[Zh hj];cases ow[j] with
 |none=>exact .inl rfl
 |some i=>exact .inr ⟨i,rfl⟩
theorem Own.free {mask:Nat}{hs:List Int}{ow:Array (Option Nat)}(O:Own mask hs ow)(hl:hs.length<=mask):∃ e,e<=mask/\ow[e]?=aa ae:=by
 apply Zg;intro hn;have gk:∀ j≤mask,∃ i:Nat,ow[j]?=aa (aa i):=λj hj=>by
  rcases Wz (j:=j) (by rw[O.size];lia) with c|c
  .exact absurd ⟨j,hj,c⟩ hn
  .exact c
 have l5:((cQ (mask+1)).map λj=>((ow[j]?).join).getD 0).Nodup:=by
  unfold List.Nodup;rw[List.pairwise_map];refine List.Pairwise.imp_of_mem ?_ List.pairwise_lt_range;intro a b ha hb hab e;obtain⟨i,ei⟩:=gk a (by have:=nU.1 ha;lia)
  obtain⟨i',zl⟩:=gk b (by have:=nU.1 hb;lia)
  rw[ei,zl] at e;have:i=i':=by simpa using e
  subst this;have:=O.inj a b i ei zl
  lia
 have:=Zc l5 (λv m=>by
  obtain⟨j,hj,rfl⟩:=cB.1 m;obtain⟨i,ei⟩:=gk j (by have:=nU.1 hj;lia)
  rw[ei];exact nU.2 (O.lt j i ei))
 simp at this
 lia
structure Fine (t:yC)(es:Array (Int×aF)):Prop where
 good:Good t es
 few:es.size*5<t.mask*3/\es.size<=4914
theorem Fine.fits {t:yC}{es:Array (Int×aF)}(F:Fine t es):t.fits es.size=af:=by
 have h1:=F.good.len;have h2:=F.good.nod;have h3:=F.good.room;simp[SetTable.fits,SetTable.fill,h1,h2,h3]
open PySem PySem.Spec PyProof.Rows PySem.SetTable
def OD (w:bD):Bool:=w.params.followText "set-order"
section
variable {B:List aA->aC->Prop}
def K6 (w:bD)(B:List aA->aC->Prop)(h:aU)(e:Int×aF)(k:List aA):Prop:=∃ b,e.2=.ref b/\e.1=pS w (.tuple k)/\Aeu h k b/\B k b
structure SetAt (w:bD)(B:List aA->aC->Prop)(h:aU)(a:aC)(o:bI)(es:Array (Int×aF))(ep:Nat)(t:yC)(ks:List (List aA)):Prop where
 get:h.get? a=aa o
 exact:o.ExactSet
 data:o.data=.set es ep t
 fine:Fine t es
 led:t.led=!OD w
 plain:t.plain=af
 els:dM (K6 w B h) es.toList ks
 nod:ks.Nodup
end
section
variable {B:List aA->aC->Prop}
theorem ZZ {α β:Type}{R R':α->β->Prop}(f:∀ a b,R a b->R' a b):∀ {as:List α} {bs:List β},dM R as bs->dM R' as bs
 |_,_,.nil=>.nil
 |_,_,.cons h t=>.cons (f _ _ h) (ZZ f t)
def SetT (w:bD)(B:List aA->aC->Prop)(h:aU)(a:aC)(ks:List (List aA)):Prop:=∃ o es ep t d7,SetAt w B h a o es ep t d7/\d7.Perm ks
end
section
variable {B:List aA->aC->Prop}
theorem SetT.len{ks:List (List aA)}(S:SetT w B h a ks):∃ o es ep t,h.get? a=aa o/\o.ExactSet/\o.data=.set es ep t/\t.fits es.size=af/\es.size=ks.length:=by
 obtain⟨o,es,ep,t,d7,bc,p⟩:=S;refine⟨o,es,ep,t,bc.get,bc.exact,bc.data,bc.fine.fits,?_⟩;have:=nP bc.els;rw[Dq] at this;rw[this,p.length_eq]
theorem SetT.keep{ks:List (List aA)}(S:SetT w B h a ks)(k1:∀ o,h.get? a=aa o->h'.get? a=aa o)(k2:∀ b o vs n,h.get? b=aa o->o.cls=.type "tuple" -> o.data=.seq vs n->h'.get? b=aa o):SetT w B h' a ks:=by
 obtain⟨o,es,ep,t,d7,bc,p⟩:=S;exact⟨o,es,ep,t,d7,⟨k1 o bc.get,bc.exact,bc.data,bc.fine,bc.led,bc.plain,ZZ (λe k ⟨b,q1,q2,q3,q4⟩=>⟨b,q1,q2,q3.keep k2,q4⟩) bc.els,bc.nod⟩,p⟩
end
instance memK (k:aG)(am:List aG):Decidable (k∈am):=decidable_of_iff (am.any (λx=>decide (x=k))=af) (by simp[vM])
def Bg9 (prog:bN)(w:bD)(h:aU)(a:aC)(ks:List aG):Prop:=h.SetOf (fF prog w) a (λk=>decide (k∈ks)) ks.length
theorem Bg9.keep(S:Bg9 prog w h a ks)(k:∀ o,h.get? a=aa o->h'.get? a=aa o):Bg9 prog w h' a ks:=by
 obtain⟨o,es,ep,t,ho,rest⟩:=S;exact⟨o,es,ep,t,k o ho,rest⟩
def K5 (prog:bN)(w:bD)(e:Int×aF)(n:Int):Prop:=e.1=(intKind prog w).hash n/\∃ t,e.2=.int n t
structure IntsAt (prog:bN)(w:bD)(h:aU)(a:aC)(o:bI)(es:Array (Int×aF))(ep:Nat)(t:yC)(ns:List Int):Prop where
 get:h.get? a=aa o
 exact:o.ExactSet
 data:o.data=.set es ep t
 fine:Fine t es
 led:t.led=!OD w
 plain:t.plain=af
 els:dM (K5 prog w) es.toList ns
 nod:ns.Nodup
def Bgz (prog:bN)(w:bD)(h:aU)(a:aC)(ns:List Int):Prop:=∃ o es ep t ui,IntsAt prog w h a o es ep t ui/\ui.Perm ns
theorem Bgz.keep{ns:List Int}(S:Bgz prog w h a ns)(k:∀ o,h.get? a=aa o->h'.get? a=aa o):Bgz prog w h' a ns:=by
 obtain⟨o,es,ep,t,ui,S,p⟩:=S;exact⟨o,es,ep,t,ui,⟨k o S.get,S.exact,S.data,S.fine,S.led,S.plain,S.els,S.nod⟩,p⟩
theorem Lq {k k':aG}{v:aF}(r:RelV (kV k) u)(r':RelV (kV k') v):LW u v (decide (k=k')):=by
 intro prog w A E s Q q;cases k with
 |inl i=>
  obtain⟨t,rfl⟩:=(show ∃ t,u=sS i t from r)
  cases k' with
  |inl j=>
   obtain⟨t',rfl⟩:=(show ∃ t,v=sS j t from r')
   refine SeqAt.EqAt.int_int i t j t' prog w E Q ?_;have:(i==j)=decide ((vH i:aG)=vH j):=by
    rw[iP];simp
   rw[this];exact q
  |inr y=>
   obtain⟨t',rfl⟩:=(show ∃ t,v=sR y t from r')
   exact SeqAt.EqAt.int_str i t y t' prog w E Q (by simpa using q)
 |inr x=>
  obtain⟨t,rfl⟩:=(show ∃ t,u=sR x t from r)
  cases k' with
  |inl j=>
   obtain⟨t',rfl⟩:=(show ∃ t,v=sS j t from r')
   exact SeqAt.EqAt.str_int x t j t' prog w E Q (by simpa using q)
  |inr y=>
   obtain⟨t',rfl⟩:=(show ∃ t,v=sR y t from r')
   refine SeqAt.EqAt.str_str x t y t' prog w E Q ?_;have:(x==y)=decide ((jH x:aG)=jH y):=by
    rw[iP];simp
   rw[this];exact q
theorem Xc (l:aC)(us:Array aF)(n:Nat)(dd:Option aC)(sl:Array (Option aF))(x:aF)(e:aF->Bool)(he:∀ y,y∈us->LW y x (e y))(c7:Int)(j:Nat)(hj:j<us.size)(ht:(j:Int)<c7)(hit:e us[j]=af) :
  ∀ (k i:Nat),j-i=k->i<=j->(∀ m (hm:m<us.size),i<=m->m<j->e us[m]=ag)->Meets (Builtin.«list.index.loop» ⟨[.ref l,x,gR i,gR c7],[]⟩)
   (λ_ R s=>s.heap.get? l=aa { cls:=.type "list",dict:=dd,data:=.seq us n,slots:=sl }/\R (.ok (.ret (.int j s.toks))) { s with toks:=s.toks+1 }):=by
 intro k;induction k with
 |zero=>
  intro i hk d9 i8 prog w A R s h;obtain⟨hp,g,d,tk,os⟩:=s;obtain⟨hl,h⟩:=h;obtain rfl:i=j:=()
  wp_walk using wpAny_loadPart' hl
  rw[show(if (i:Int)<c7 then us[((i:Nat):Int).toNat]? else ae)=aa us[i] by simp[ht,hj]]
  refine aJ (he _ (Array.getElem_mem hj) prog w _ _ _ _ ?_);rw[hit]
  wp_walk
  exact h
 |succ k ih=>
  intro i hk d9 i8 prog w A R s h;obtain⟨hp,g,d,tk,os⟩:=s;obtain⟨hl,h⟩:=h;have lt:i<us.size:=()
  have lo:(i:Int)<c7:=()
  wp_walk using wpAny_loadPart' hl
  rw[show(if (i:Int)<c7 then us[((i:Nat):Int).toNat]? else ae)=aa us[i] by simp[lo,lt]]
  refine aJ (he _ (Array.getElem_mem lt) prog w _ _ _ _ ?_);rw[i8 i lt (bJ _) ()]
  wp_walk
  rw[show((i:Int)+1)=((i+1:Nat):Int) by push_cast;rfl]
  refine⟨yA LV _,yB MeetsSeq.entry_index_loop ?_⟩;rw[yY LV _];exact ih (i+1) () () (λm hm h1 h2=>i8 m hm () h2) prog w A R _ ⟨hl,h⟩
theorem Oc (l:aC)(us:Array aF)(n:Nat)(dd:Option aC)(sl:Array (Option aF))(x:aF)(e:aF->Bool)(he:∀ y,y∈us->LW y x (e y))(j:Nat)(hj:j<us.size)(small:(j:Int)<2^63-1)(hit:e us[j]=af)(i8:∀ m (hm:m<us.size),m<j->e us[m]=ag) :
  Meets (Builtin.«list.index» ⟨[.ref l,x],[]⟩) (λ_ R s=>s.heap.get? l=aa { cls:=.type "list",dict:=dd,data:=.seq us n,slots:=sl }/\R (.ok (.ret (.int j s.toks))) { s with toks:=s.toks+1 }):=by
 intro prog w A R s h;obtain⟨hp,g,d,tk,os⟩:=s;obtain⟨hl,h⟩:=h
 wp_walk using wpAny_loadPart' hl
 rw[show((λi:Int=>if i<0 then max 0 (i+(us.size:Int)) else i) ((ae:Option Int).getD 0))=((0:Nat):Int) by simp,show((λi:Int=>if i<0 then max 0 (i+(us.size:Int)) else i) ((ae:Option Int).getD (2^63-1)))=2^63-1 by simp]
 refine⟨yA LV _,yB MeetsSeq.entry_index_loop ?_⟩;rw[yY LV _];exact Xc l us n dd sl x e he (2^63-1) j hj small hit _ 0 rfl (eA _) (λm hm _ h2=>i8 m hm h2) prog w A R _ ⟨hl,h⟩
def ik (ks:List aG)(k:aG):Option Nat:=ks.findIdx? λy=>decide (y=k)
theorem QT{k:aG}(h:ik ks k=aa j):ks[j]?=aa k/\∀ m,m<j->ks[m]?≠aa k:=by
 obtain⟨hj,h1,h2⟩:=List.findIdx?_eq_some_iff_getElem.1 h;refine⟨by rw[hX hj,of_decide_eq_true h1],λm hm e=>?_⟩
 have:=h2 m hm;have hl:m<ks.length:=()
 rw[hX hl] at e;exact this (decide_eq_true (fH e))
theorem BE:∀ {ks:List aG} {us:List aF},Vals (ks.map kV) us->∀ (m:Nat) (hm:m<us.length),∃ k,ks[m]?=aa k/\RelV (kV k) us[m]
 |[],_,.nil,m,hm=>by simp at hm
 |k::ks,_::us,.cons h t,0,hm=>⟨k,rfl,h⟩
 |k::ks,_::us,.cons h t,m+1,hm=>by
  obtain⟨k',e,r⟩:=BE t m (by simpa using hm)
  exact⟨k',by simpa using e,by simpa using r⟩
def js (k:aG)(u:aF):Bool:=match k,u with
 |.inl i,.int j _=>decide (j=i)
 |.inr x,.str y _=>decide (y=x)
 |_,_=>ag
theorem FW {k k':aG}(r:RelV (kV k) u):js k' u=decide (k=k'):=by
 cases k with
 |inl i=>
  obtain⟨t,rfl⟩:=(show ∃ t,u=sS i t from r)
  cases k' with
  |inl j=>simp[js]
  |inr y=>simp[js]
 |inr x=>
  obtain⟨t,rfl⟩:=(show ∃ t,u=sR x t from r)
  cases k' with
  |inl j=>simp[js]
  |inr y=>simp[js]
def Nf (K:aK):V->List V->Hp->VK->Prop:=λx vs H Q=>∃ p ks k j,x=.ref p/\vs=[kV k]/\SqL K H p (ks.map kV)/\ik ks k=aa j/\Q (.int j) H
theorem UR{k:aG}{us:List aF}{v:aF}(r:Vals (ks.map kV) us)(rk:RelV (kV k) v)(h:ik ks k=aa j) :
  (∀ y,y∈us.toArray->LW y v (js k y))/\∃ hj:j<us.toArray.size,js k us.toArray[j]=af/\∀ m (hm:m<us.toArray.size),m<j->js k us.toArray[m]=ag:=by
 obtain⟨h1,h2⟩:=QT h;have hl:ks.length=us.length:=by simpa using r.length
 have hj:j<us.length:=by rw[<-hl];exact(cR.1 h1).1
 refine⟨λy m=>?_,by simpa using hj,?_,λm hm br=>?_⟩
 .obtain⟨i,hi,rfl⟩:=sY (show y∈us by simpa using m)
  obtain⟨k',e,rr⟩:=BE r i hi;rw[FW rr];exact Lq rr rk
 .obtain⟨k',e,rr⟩:=BE r j hj;rw[h1] at e;cases e;show js k us[j]=af;rw[FW rr];simp
 .have qc:m<us.length:=by simpa using hm
  obtain⟨k',e,rr⟩:=BE r m qc;show js k us[m]=ag;rw[FW rr];exact decide_eq_false λq=>h2 m br (q ▸ e)
theorem Ph:MtR X "list.index" (Nf X.K):=by
 intro ad s Z H x vs v us Q I rx rv h;obtain⟨p,ks,k,j,rfl,rfl,hp,hj,q⟩:=h;cases rx;obtain⟨u,rfl,ru⟩:=rv.one;obtain⟨its,r,pl,hz⟩:=I.list hp;obtain⟨he,br,hit,i8⟩:=UR r ru hj;obtain⟨⟨cls,dd,data,sl⟩,n,e,hc,_,hd⟩:=pl;simp only at hc hd;subst hc hd;have hn:=rT;have lz:its.toArray.size<=sizeLine:=by rw[dW,<-r.length];exact hz
 refine CG Ys ⟨_,e,rfl⟩ PySem.F.entry_list_index (PySem.F.args_list_index_2 _ _) (Oc p its.toArray n dd sl u (js k) he j br () hit i8) ⟨e,⟨.int j,H,I.tok _,⟨_,rfl⟩,q⟩⟩
def mB:List aA->Option (List aG)
 |[]=>aa []
 |d::r=>(bK d).bind λk=>(mB r).bind λks=>aa (k::ks)
theorem IV:∀ {ds:List aA} {xs:List V} {ks:List aG},mB ds=aa ks->Aao K H ds xs->xs=ks.map kV
 |[],xs,ks,e,r=>by
  cases e;exact Aaj.1 r
 |d::ds,xs,ks,e,r=>by
  obtain⟨k,e1,e2⟩:=aj (show((bK d).bind λk=>(mB ds).bind λks=>aa (k::ks))=aa ks from e)
  obtain⟨d7,e3,e4⟩:=aj e2;cases e4;obtain⟨v,t,rfl,h1,h2⟩:=Aaf.1 r;rw[jO e1 h1,IV e3 h2]
  rfl
def DX (ds:List aA)(d:aA):Option aA:=(mB ds).bind λks=>(bK d).bind λk=>(ik ks k).bind λj=>aa (.int j)
section
variable {k:aQ}{fo:EF}
theorem Xv{r:aA}(h:DX ds d=aa r):∃ ks kk j,mB ds=aa ks/\bK d=aa kk/\ik ks kk=aa j/\r=.int j:=by
 obtain⟨ks,e1,h⟩:=aj h;obtain⟨kk,e2,h⟩:=aj h;obtain⟨j,e3,h⟩:=aj h;cases h;exact⟨ks,kk,j,e1,e2,e3,rfl⟩
def FO:aA->aA->Option aA
 |.list ds,d=>DX ds d
 |_,_=>ae
theorem Nh (ho:DE X o fo)(hk:DE X k fk)(q5:Bm X o k [] "index" ao au:=by exact⟨rfl,rfl,rfl,rfl,rfl⟩) :
  DE X (.Call (.Attribute o "index" ao) [k] [] au) (ah FO fo fk):=
 PE.imp (mP vJ Ys PySem.F.type_list_index Ph ho (eN hk gY q5.s) q5) λZ H Q gh=>by
  obtain⟨P,Y,d,hP,rs,ef,kk⟩:=gh;obtain⟨d1,e1,bq⟩:=aj ef;obtain⟨d2,e2,bi⟩:=aj bq;cases d1 with
  |list ds=>
   obtain⟨ks,key,j,g1,g2,g3,rfl⟩:=Xv (show DX ds d2=aa d from bi)
   refine⟨P,Y,_,hP,rs,e1,dP λv H1 x1 r1=>?_⟩
   obtain⟨q,ys,rfl,hq,rr⟩:=Abe.1 r1;obtain rfl:=IV g1 rr;refine⟨.inl ⟨rfl,_,Aap.sqL hq⟩,P,Y,d2,hP.ext x1,rs.ext (cG x1),e2,dP λu H2 x2 r2=>?_⟩
   exact⟨q,ks,key,j,rfl,by rw[jO g2 r2],x2.sqL (Aap.sqL hq),g3,kk.zero (x1.trans x2) (Aal.2 rfl)⟩
  |_=>cases bi
theorem WY:∀ {ds:List aA} {xs:List V} (n:Nat),Aao K H ds xs->Aao K H (ds.eraseIdx n) (xs.eraseIdx n)
 |[],xs,n,r=>by
  rw[Aaj.1 r];exact Aaj.2 rfl
 |d::ds,xs,0,r=>by
  obtain⟨v,t,rfl,h1,h2⟩:=Aaf.1 r;exact h2
 |d::ds,xs,n+1,r=>by
  obtain⟨v,t,rfl,h1,h2⟩:=Aaf.1 r;exact Aaf.2 ⟨v,_,rfl,h1,WY n h2⟩
theorem AX {j pos}:DF 1 X (.Constant .none j pos) (eC .none):=PE.imp ZL λZ H Q gh=>by
 rw[5];cases ef;exact k .non H [] Ext.refl .nil (λa m=>by simp at m) ⟨rfl,Abp.2 rfl⟩
end
def Tr:V->List V->Hp->VK->Prop:=λx vs H Q=>∃ p ks k j,x=.ref p/\vs=[kV k]/\H p=aa (.lst (ks.map kV))/\ik ks k=aa j/\Q .non (upd H p (.lst ((ks.eraseIdx j).map kV)))
theorem Nn:su X "list.remove" Tr:=by
 intro ad s Z H x vs v us Q I rx rv h;obtain⟨p,ks,k,j,rfl,rfl,hp,hj,q⟩:=h;cases rx;obtain⟨u,rfl,ru⟩:=rv.one;obtain⟨z,its,n,r,hl,e⟩:=I.lstM hp;obtain⟨he,br,hit,i8⟩:=UR r ru hj;refine CG F.slot_list_remove ⟨_,e,rfl⟩ F.entry_list_remove (F.args_list_remove_2 _ _) (MeetsSeq.list_remove p its.toArray n u (js k) he j br hit i8 (by rw[dW];lia)) ⟨e,?_⟩
 have ee:(ks.eraseIdx j).map kV=(ks.map kV).eraseIdx j:=by
  have go:∀ (xs:List aG) (n:Nat),(xs.eraseIdx n).map kV=(xs.map kV).eraseIdx n:=by
   intro xs;induction xs with
   |nil=>intro n;simp
   |cons x xs ih=>
    intro n;cases n with
    |zero=>rfl
    |succ n=>rw[sZ,cY,cY,sZ,ih]
  exact go ks j
 refine⟨.non,_,I.lset hp e ?_ (by rw[ee];exact r.eraseIdx j) ?_,rfl,q⟩
 .rw[Zb]
 .have:=SX (ks.map kV) j;rw[ee]
  lia
def lJ (i:Nat)(m:Md)(f:EF):SF:=λY=>(eV 0 m f Y).bind λd=>(getL i Y).bind λds=>(mB ds).bind λks=>(bK d).bind λk=>(ik ks k).bind λj=>aa (.nx (Y.set i (aa (1,.list (ds.eraseIdx j)))))
theorem VN (i:Nat)(m:Md)(he:DE X e f)(hN:Nm X i x:=by exact fM)(q5:Bm X (.Name x px) e [] "remove" ao au:=by exact⟨rfl,rfl,rfl,rfl,rfl⟩)
  (fg:iG (.Call (.Attribute (.Name x px) "remove" ao) [e] [] au) ae pos.line X.env=pure ag:=by rfl):DS X H0 P0 n0 (.Expr (.Call (.Attribute (.Name x px) "remove" ao) [e] [] au) pos) (lJ i m f):=
 PS.imp (pX (mP vJ PySem.F.slot_list_remove PySem.F.type_list_remove Nn (hN.pe) (eN (ev m he) gY q5.s) q5) fg) λD Z H gh=>by
  rw[4];obtain⟨d,e1,bq⟩:=aj ef;obtain⟨ds,e2,bi⟩:=aj bq;obtain⟨ks,e3,b9⟩:=aj bi;obtain⟨key,e4,dw⟩:=aj b9;obtain⟨j,e5,gw⟩:=aj dw;cases gw;obtain⟨p,xs,h1,h2,_,_⟩:=S.lst1 (mZ e2);refine⟨.ref p,h1,.inl ⟨rfl,xs,SqL.of h2⟩,B0,Y,fp,d,S,e1,λv H2 gh=>?_⟩
  obtain⟨b7,S2,r2⟩:=gh;obtain⟨p2,t8,q1,q2,q3,q4⟩:=S2.lst1 (mZ e2);have:p2=p:=by rw[h1] at q1;cases q1;rfl
  subst this;obtain rfl:=IV e3 q3;have ee:(ks.eraseIdx j).map kV=(ks.map kV).eraseIdx j:=by
   have go:∀ (xs:List aG) (n:Nat),(xs.eraseIdx n).map kV=(xs.map kV).eraseIdx n:=by
    intro xs;induction xs with
    |nil=>intro n;simp
    |cons x xs ih=>
     intro n;cases n with
     |zero=>rfl
     |succ n=>rw[sZ,cY,cY,sZ,ih]
   exact go ks j
  refine⟨p2,ks,key,j,rfl,by rw[jO e4 r2.2],q2,e5,?_⟩
  rw[ee];exact k _ _ b7 (q4 _ _ (WY j q3))
section
variable {Z:St}
theorem Sta.writeN{p:aC}{o:HO}{d':aA}(S:Sta K H0 P0 B0 Y Z H fp)(hi:i<Y.length)(hv:Z[i]?=aa (aa v))(hp:p∈fp i)(ho:(∃ xs,o=.lst xs)\/∃ q:DQ,o=dO q)
  (new:Aej K (L2.hid H (Hd P0 fp)) (upd H p o) n d' v (fp i)):Sta K H0 P0 B0 (Y.set i (aa (n,d'))) Z (upd H p o) fp:=by
 have same:L2.hid (upd H p o) (Hd P0 fp)=L2.hid H (Hd P0 fp):=by
  funext b;unfold L2.hid;by_cases q:Hd P0 fp b
  .rw[if_pos q,if_pos q]
  .rw[if_neg q,if_neg q];exact bP λz=>q (.inr ⟨i,by rw[z];exact hp⟩)
 refine⟨by simp[S.len],S.nd,S.dj,λj a m=>⟨(S.own j a m).1,?_⟩,λb u e=>?_,S.hd,by rw[same];exact S.base,λj n' d e=>?_⟩
 .by_cases q:a=p
  .subst q;rcases ho with⟨xs,rfl⟩|⟨xs,rfl⟩
   .exact .inl ⟨xs,cN⟩
   .exact .inr ⟨xs,cN⟩
  .rw[bP q];exact(S.own j a m).2
 .rw[bP (gQ e (S.own i p hp).1)];exact S.ext b u e
 .by_cases q:j=i
  .subst q;rw[iW hi] at e;cases e;exact⟨_,hv,by rw[same];exact new⟩
  .rw[iO (λz=>q z.symm)] at e
   obtain⟨u,h1,h2⟩:=S.slot j n' d e;refine⟨u,h1,?_⟩;rw[same];exact h2.keep Ext.refl λa m=>bP λz=>q (S.dj j i a m (by rw[z];exact hp))
theorem own1 {B:Hp}{F:List aC}(h:Aej K B H 1 (.list ds) v F):∃ p xs,v=.ref p/\H p=aa (.lst xs)/\F=[p]/\Aao K B ds xs:=by
 obtain⟨p,xs,Fs,rfl,hp,hF,h3⟩:=h;obtain⟨r,hn⟩:=HZ h3;exact⟨p,xs,rfl,hp,by rw[hF,hn],r⟩
theorem xD {B:Hp}{p:aC}(hp:H p=aa (.lst xs))(r:Aao K B ds xs):Aej K B H 1 (.list ds) (.ref p) [p]:=by
 obtain⟨q1,q2⟩:=BI r;exact⟨p,xs,_,rfl,hp,by rw[q2],q1⟩
theorem Fc {B:Hp}{a b:List aA}{F:List aC}(h:Aej K B H 2 (.tuple [.list a,.list b]) v F) :
  ∃ q p p' xs ys,v=.ref q/\B q=aa (.tup [.ref p,.ref p'])/\F=[p,p']/\H p=aa (.lst xs)/\H p'=aa (.lst ys)/\Aao K B a xs/\Aao K B b ys:=by
 rcases h with⟨h0,_⟩|⟨_,q,us,Fs,rfl,hq,rfl,h3⟩
 .cases h0
 .cases h3 with
  |cons h1 t=>
   cases t with
   |cons h2 t=>
    cases t with
    |nil=>
     obtain⟨p,xs,rfl,hp,rfl,r⟩:=own1 h1;obtain⟨p',ys,rfl,eg,rfl,r'⟩:=own1 h2;exact⟨q,p,p',xs,ys,rfl,hq,rfl,hp,eg,r,r'⟩
theorem Up {B:Hp}{a b:List aA}{q p p':aC}(hq:B q=aa (.tup [.ref p,.ref p']))(h1:H p=aa (.lst xs))(h2:H p'=aa (.lst ys))(r1:Aao K B a xs)(r2:Aao K B b ys) :
  Aej K B H 2 (.tuple [.list a,.list b]) (.ref q) [p,p']:=
 .inr ⟨nofun,q,_,[[p],[p']],rfl,hq,rfl,.cons (xD h1 r1) (.cons (xD h2 r2) .nil)⟩
end
section
variable {kx:bH}
def ZR (i j:Nat):SF:=λY=>(getL i Y).bind λa=>(getL j Y).bind λb=>aa (.rt (.tuple [.list a,.list b]))
theorem Xq (i j:Nat){x1}(d9:i≠j)(hN:Nm X i x:=by exact fM)(wv:Nm X j y:=by exact fM):DS X H0 P0 2 (.Return (aa (.Tuple [.Name x px,.Name y py] x1 gq)) pos) (ZR i j):=
 PS.imp (rQ (AA (eN (hN.pe) (eN (wv.pe) gY)))) λD Z H gh=>by
  rw[4];obtain⟨a,e1,ef⟩:=aj ef;obtain⟨b,e2,ef⟩:=aj ef;cases ef;obtain⟨v,h1,r1⟩:=S.slot i 1 _ (mZ e1);obtain⟨v',h2,r2⟩:=S.slot j 1 _ (mZ e2);obtain⟨p,xs,rfl,hp,hF,q1⟩:=own1 r1;obtain⟨p',ys,rfl,eg,E7,q2⟩:=own1 r2;have mp:p∈fp i:=by rw[hF];exact bO
  have ww:p'∈fp j:=by rw[E7];exact bO
  have wx:p≠p':=λz=>d9 (S.dj i j p mp (by rw[z];exact ww))
  refine⟨_,h1,_,h2,by show 2<=sizeLine;rw[vD];lia,λq hq=>k _ _ ⟨[p,p'],S.ext.trans (Ext.new hq),?_,?_,?_⟩⟩
  .simp[wx]
  .intro c m;rcases cV.1 m with rfl|m
   .exact⟨(S.own i _ mp).1,_,Ext.new hq _ _ hp⟩
   .rw[cP.1 m];exact⟨(S.own j _ ww).1,_,Ext.new hq _ _ eg⟩
  .have nq:∀ {c:aC} {oo:HO},H c=aa oo->c≠q:=λec z=>by rw[z,hq] at ec;cases ec
   have xb:Ext (L2.hid H (Hd P0 fp)) (L2.hid (upd H q (.tup [.ref p,.ref p'])) (bo P0 [p,p'])):=λc oo ec=>by
    obtain⟨nc,ec⟩:=Abb.1 ec;refine Abb.2 ⟨λz=>?_,Ext.new hq _ _ ec⟩
    rcases z with z|z
    .exact nc (.inl z)
    .rcases cV.1 z with rfl|z
     .exact nc (.inr ⟨i,mp⟩)
     .rw[cP.1 z] at nc;exact nc (.inr ⟨j,ww⟩)
   refine Up (Abb.2 ⟨λz=>?_,cN⟩) (Ext.new hq _ _ hp) (Ext.new hq _ _ eg) (q1.ext xb) (q2.ext xb)
   rcases z with z|z
   .exact(S.hd.ext S.ext).new hq z
   .rcases cV.1 z with z|z
    .exact nq hp z.symm
    .exact nq eg (cP.1 z).symm
end
section
variable {a b:aQ}{kx:bH}
def xu (c:Int):aA->Option aA
 |.tuple [.list a,.list b]=>if c=0 then aa (.list a) else if c=1 then aa (.list b) else ae
 |_=>ae
def tO (c:Int)(f:EF):EF:=λY=>(f Y).bind (xu c)
theorem Na {c:Int}{jj}(h:DF 2 X e f)(hs:uM (.Constant (.int c) jj kx):=by exact λ_ _=>rfl):DF 1 X (.Subscript e (.Constant (.int c) jj kx) pos) (tO c f):=
 PE.imp (xX wD h wC hs) λZ H Q gh=>by
  rw[5];obtain⟨d2,e1,ef⟩:=aj ef;unfold xu at ef;split at ef
  .rename_i la lb;refine⟨P,Y,_,hP,rs,e1,λv H' Fr xx nd fr r=>?_⟩
   obtain⟨q,p,p',xs,ys,rfl,hq,rfl,hp,eg,r1,r2⟩:=Fc r;have zm:=(Abb.1 hq).2;by_cases c0:c=0
   .rw[if_pos c0] at ef;cases ef;subst c0;refine .inr (.inl ⟨q,_,0,.ref p,rfl,rfl,SqT.of zm,rfl,k _ _ [p] xx (by simp) (λz m=>fr z (by rw[cP.1 m];simp)) (xD hp (r1.ext (fY λz hz=>?_)))⟩)
    grind
   .rw[if_neg c0] at ef;obtain⟨c1,rfl⟩:=cH ef;subst c1;refine .inr (.inl ⟨q,_,1,.ref p',rfl,rfl,SqT.of zm,rfl,k _ _ [p'] xx (by simp) (λz m=>fr z (by rw[cP.1 m];simp)) (xD eg (r2.ext (fY λz hz=>?_)))⟩)
    grind
  .cases ef
def ZY (m:Md)(t:BF)(i:Nat)(f:EF):SF:=λY=>(bV m t Y).bind λb=>if b=af then jA i 1 Y else bT 1 .s f Y
theorem Xd {c:aQ}{t:BF}(m:Md)(i:Nat)(hc:DT X c t)(he:DF 1 X e f)(hN:Nm X i x:=by exact fM):DS X H0 P0 1 (.Return (aa (.IfExp c (.Name x px) e kx)) pos) (ZY m t i f):=
 PS.imp (rQ (SD (sx m hc) (hN.pe) (ev .s he))) λD Z H gh=>by
  rw[4];obtain⟨b,e1,ef⟩:=aj ef;refine⟨B0,Y,fp,b,S,e1,λH1 S1=>?_⟩
  cases b with
  |true=>
   replace ef:jA i 1 Y=aa o:=by simpa using ef
   unfold jA at ef;cases q:Y[i]? with
   |none=>rw[q] at ef;simp at ef
   |some z=>
    cases z with
    |none=>rw[q] at ef;simp at ef
    |some z=>
     obtain⟨n,d⟩:=z;rw[q] at ef;obtain⟨rfl,rfl⟩:=cH ef;obtain⟨v,h1,h2⟩:=S1.slot i _ d q;refine lL ⟨v,h1,k v H1 ⟨fp i,S1.ext,S1.nd i,λa m=>⟨(S1.own i a m).1,?_⟩,h2.keep (fY λa h=>?_) λa m=>rfl⟩⟩
     .rcases(S1.own i a m).2 with⟨xs,e⟩|⟨xs,e⟩
      all_goals grind
     all_goals grind
  |false=>
   replace ef:bT 1 .s f Y=aa o:=by simpa using ef
   obtain⟨d,e2,ef⟩:=aj ef;cases ef;exact lO ⟨B0,Y,fp,d,S1,e2,λv H' t=>k v H' t.ret⟩
end
section
variable {k:aQ}
theorem Tmp.free{Z:St}(t:Tmp K H0 P0 B0 Y Z n d v H):∃ fp,Sta K H0 P0 B0 Y Z H fp/\Abj K (L2.hid H (Hd P0 fp)) d v:=by
 obtain⟨fp,S,r⟩:=t;have cf:∀ a,Hd P0 (λj=>if j=Y.length then [] else fp j) a->Hd P0 fp a:=λa h=>by
  grind
 refine⟨λj=>if j=Y.length then [] else fp j,⟨S.len,λj=>?_,λj k a h1 h2=>?_,λj a h1=>?_,S.ext,S.hd,S.base.trans (fY cf),λj n' d' e'=>?_⟩,r.share (fY cf) λa m o q=>dS (λz=>?_) q⟩
 .by_cases hj:j=Y.length
  .simp only[hj,if_true];exact .nil
  .simp only[hj,if_false];exact S.nd j
 .by_cases hj:j=Y.length
  .simp only[hj,if_true] at h1;simp at h1
  .by_cases hk:k=Y.length
   .simp only[hk,if_true] at h2;simp at h2
   .simp only[hj,if_false] at h1;simp only[hk,if_false] at h2;exact S.dj j k a h1 h2
 .by_cases hj:j=Y.length
  .simp only[hj,if_true] at h1;simp at h1
  .simp only[hj,if_false] at h1;exact S.own j a h1
 .have br:=(cR.1 e').1;have hj:j≠Y.length:=()
  obtain⟨v',h1,h2⟩:=S.slot j n' d' e';refine⟨v',h1,?_⟩;simp only[hj,if_false];exact h2.keep (fY cf) λa m=>rfl
 .rcases z with z|⟨k,z⟩
  .exact S.np m z
  .by_cases hk:k=Y.length
   .simp only[hk,if_true] at z;simp at z
   .simp only[hk,if_false] at z;exact hk (S.dj k _ a z m)
end
section
variable {Z:St}
theorem Sta.change{bg:Nat->List aC}{d':aA}(S:Sta K H0 P0 B0 Y Z H fp)(hi:i<Y.length)(hv:Z[i]?=aa (aa v))
  (hf:∀ j,j≠i->j<Y.length->bg j=fp j) (hz:∀ j,Y.length<=j->bg j=[]\/bg j=fp j) (nd:(bg i).Nodup) (sub:∀ a∈bg i,∃ j,a∈fp j/\(j=i\/bg j=[]))
  (kp:∀ a,a∉fp i->H' a=H a) (ow:∀ a∈bg i,(∃ xs,H' a=aa (.lst xs))\/∃ q:DQ,H' a=aa (dO q))
  (new:Ext (L2.hid H (Hd P0 fp)) (L2.hid H' (Hd P0 bg))->Aej K (L2.hid H' (Hd P0 bg)) H' n d' v (bg i)):Sta K H0 P0 B0 (Y.set i (aa (n,d'))) Z H' bg:=by
 have same:∀ j,j≠i->∀ a∈bg j,a∈fp j:=λj hj a m=>by
  grind
 have from_:∀ j,∀ a∈bg j,∃ l,a∈fp l:=λj a m=>by
  grind
 have xb:Ext (L2.hid H (Hd P0 fp)) (L2.hid H' (Hd P0 bg)):=λb o e=>by
  obtain⟨nb,e⟩:=Abb.1 e;refine dS (λq=>nb ?_) ?_
  all_goals grind
 have dm:∀ j,j≠i->∀ a∈bg j,H' a=H a:=λj hj a m=>kp a λq=>hj (S.dj j i a (same j hj a m) q)
 refine⟨by simp[S.len],λj=>?_,λj l a h1 h2=>?_,λj a m=>?_,λb u e=>?_,S.hd,S.base.trans xb,λj n' d2 e=>?_⟩
 .by_cases h:j=i
  .rw[h];exact nd
  .by_cases h2:j<Y.length
   .rw[hf j h h2];exact S.nd j
   .rcases hz j () with e|e
    .rw[e];exact .nil
    .rw[e];exact S.nd j
 .by_cases e1:j=i<;>by_cases e2:l=i
  .rw[e1,e2]
  .subst e1;obtain⟨m,hm,E8⟩:=sub a h1;have:=S.dj m l a hm (same l e2 a h2)
   grind
  .subst e2;obtain⟨m,hm,E8⟩:=sub a h2;have:=S.dj m j a hm (same j e1 a h1)
   grind
  .exact S.dj j l a (same j e1 a h1) (same l e2 a h2)
 .obtain⟨l,ml⟩:=from_ j a m;refine⟨(S.own l a ml).1,?_⟩;by_cases h:j=i
  .subst h;exact ow a m
  .rw[dm j h a m];exact(S.own j a (same j h a m)).2
 .rw[kp b λq=>by rw[(S.own i b q).1] at e;cases e]
  exact S.ext b u e
 .by_cases q:j=i
  .grind
  .rw[iO (λz=>q z.symm)] at e
   obtain⟨v2,h1,h2⟩:=S.slot j n' d2 e;have hj:=(cR.1 e).1;refine⟨v2,h1,?_⟩;have:=dm j q;rw[hf j q hj] at this ⊢;exact h2.keep xb this
abbrev R1 (K:aK)(B H:Hp)(m:Nat:=1):aA×aA->aG×V->List aC->Prop:=λkd kv f=>kd.1=kD kv.1/\Aej K B H m kd.2 kv.2 f
def CM (c m:Nat):Prop:=(c=2/\m=1)\/(c=10/\m=9)
theorem Gc {B:Hp}(hc:CM c m){ds:List (aA×aA)}{F:List aC}(h:∃ p,∃ xs:Nat×List (aG×V),∃ Fs,v=.ref p/\H p=aa (.dK xs.1 xs.2)/\F=p::Fs.flatten/\All3 (R1 K B H m) ds xs.2 Fs):Aej K B H c (.dict ds) v F:=by
 obtain⟨p,xs,Fs,e,hp,hF,h3⟩:=h;rcases hc with⟨rfl,rfl⟩|⟨rfl,rfl⟩
 .exact⟨p,xs,Fs,e,hp,hF,h3⟩
 .exact iU ⟨ds,p,Fs,xs,rfl,e,hp,hF,h3⟩
theorem Sta.dicC(hc:CM c m){ds:List (aA×aA)}(S:Sta K H0 P0 B0 Y Z H fp)(e:Y[i]?=aa (aa (c,.dict ds))):∃ p ep xs Fs,Z[i]?=aa (aa (.ref p))/\H p=aa (.dK ep xs)/\fp i=p::Fs.flatten/\All3 (R1 K (L2.hid H (Hd P0 fp)) H m) ds xs Fs:=by
 obtain⟨v,h1,h2⟩:=S.slot i c _ e;rcases hc with⟨rfl,rfl⟩|⟨rfl,rfl⟩
 .obtain⟨p,xs,Fs,rfl,hp,hF,h3⟩:=h2;exact⟨p,xs.1,xs.2,Fs,h1,hp,hF,h3⟩
 .rcases(show _\/Bf2 _ _ _ _ _ _ from h2) with⟨z,_⟩|⟨jk,p,Fs,xs,z,rfl,hp,hF,h3⟩<;>cases z
  exact⟨p,xs.1,xs.2,Fs,h1,hp,hF,h3⟩
theorem Sta.dic2 {ds:List (aA×aA)}(S:Sta K H0 P0 B0 Y Z H fp)(e:Y[i]?=aa (aa (2,.dict ds))):∃ p ep xs Fs,Z[i]?=aa (aa (.ref p))/\H p=aa (.dK ep xs)/\fp i=p::Fs.flatten/\All3 (R1 K (L2.hid H (Hd P0 fp)) H) ds xs Fs:=S.dicC (.inl ⟨rfl,rfl⟩) e
def iY:List (aA×aA)->aG->aA->List (aA×aA)
 |[],_,_=>[]
 |(k0,d0)::r,k,d=>if bK k0=aa k then(k0,d)::r else(k0,d0)::iY r k d
theorem BL (k0 d0:aA)(r:List (aA×aA))(k:aG):bQ ((k0,d0)::r) k=if bK k0=aa k then aa d0 else bQ r k:=by
 unfold bQ
 grind
theorem HY {B:Hp}{k:aG}:∀ {ds:List (aA×aA)} {xs:List (aG×V)} {Fs:List (List aC)},All3 (R1 K B H m) ds xs Fs->Fs.flatten.Nodup->∀ d,bQ ds k=aa d ->
  ∃ v f,f∈Fs/\dF xs k=aa v/\Aej K B H m d v f/\∀ (B' H':Hp) (d':aA),Ext B B'->Aej K B' H' m d' v f->(∀ a,a∉f->H' a=H a)->All3 (R1 K B' H' m) (iY ds k d') xs Fs
 |_,_,_,.nil,_,d,e=>by simp[bQ] at e
 |(k0,d0)::ds,(k',v0)::xs,f0::Fs,.cons h t,nd,d,e=>by
  obtain⟨ek,h⟩:=h;have ek:=ek;subst ek;rw[BL,iF] at e;rw[iL,nR] at nd;by_cases q:k'=k
  .rw[if_pos (by rw[q])] at e
   cases e;refine⟨v0,f0,bO,jU q,h,λB' H' d' xb r kp=>?_⟩
   show All3 _ (if bK (kD k')=aa k then(kD k',d')::ds else _) _ _
   rw[if_pos (by rw[iF,q])]
   refine .cons ⟨rfl,r⟩ (t.imp λa b c mm rr=>⟨rr.1,rr.2.keep xb λz hz=>kp z λz2=>?_⟩)
   exact nd.2.2 z z2 z (fI.2 ⟨c,mm,hz⟩) rfl
  .rw[if_neg (λz=>q (fH z))] at e
   obtain⟨v,f,mm,h1,h2,h3⟩:=HY t nd.2.1 d e;refine⟨v,f,bM _ mm,(jN q).trans h1,h2,λB' H' d' xb r kp=>?_⟩
   show All3 _ (if bK (kD k')=aa k then(kD k',d')::ds else(kD k',d0)::iY ds k d') _ _
   rw[if_neg (by rw[iF];exact λz=>q (fH z))]
   refine .cons ⟨rfl,h.keep xb λz hz=>kp z λz2=>?_⟩ (h3 B' H' d' xb r kp)
   exact nd.2.2 z hz z (fI.2 ⟨f,mm,z2⟩) rfl
theorem Sta.inner {ds:List (aA×aA)}{k:aG}{es:List aA}(S:Sta K H0 P0 B0 Y Z H fp)(e:Y[i]?=aa (aa (2,.dict ds)))(hk:bQ ds k=aa (.list es)):∃ p ep xs q ys,Z[i]?=aa (aa (.ref p))/\H p=aa (.dK ep xs)/\dF xs k=aa (.ref q)/\H q=aa (.lst ys)/\Aao K (L2.hid H (Hd P0 fp)) es ys /\
  ∀ lg o9,Aao K (L2.hid H (Hd P0 fp)) lg o9->Sta K H0 P0 B0 (Y.set i (aa (2,.dict (iY ds k (.list lg))))) Z (upd H q (.lst o9)) fp:=by
 obtain⟨p,ep,xs,Fs,h1,h2,h3,h4⟩:=S.dic2 e;have nd:=S.nd i;rw[h3,gC] at nd;obtain⟨v,f,mf,hv,hr,up⟩:=HY h4 nd.2 _ hk;obtain⟨q,ys,Gs,rfl,hq,hF,g3⟩:=hr;obtain⟨r,hn⟩:=HZ g3;rw[hn] at hF;refine⟨p,ep,xs,q,ys,h1,h2,hv,hq,r,λlg o9 r'=>?_⟩
 have mq:q∈fp i:=by
  rw[h3];exact bM _ (fI.2 ⟨f,mf,by rw[hF];exact bO⟩)
 have E9:p≠q:=λz=>nd.1 (fI.2 ⟨f,mf,by rw[hF,z];exact bO⟩)
 refine S.change (cR.1 e).1 h1 (λ_ _ _=>rfl) (λ_ _=>.inr rfl) (S.nd i) (λa m=>⟨i,m,.inl rfl⟩) (λa na=>bP λz=>na (z ▸ mq)) (λa m=>?_) λxb=>?_
 .by_cases z:a=q
  .subst z;exact .inl ⟨o9,cN⟩
  .rw[bP z];exact(S.own i a m).2
 .refine⟨p,(ep,xs),Fs,rfl,by rw[bP E9];exact h2,h3,up _ _ _ xb ?_ λa na=>bP λz=>na (by rw[hF,z];exact bO)⟩
  obtain⟨q1,q2⟩:=BI (r'.ext xb);exact⟨q,o9,_,rfl,cN,by rw[hF,q2],q1⟩
theorem TF {B:Hp}{kd:aA×aA}{kv:aG×V}{f:List aC}(h:R1 K B H m kd kv f):∀ {ds:List (aA×aA)} {xs:List (aG×V)} {Fs:List (List aC)},All3 (R1 K B H m) ds xs Fs->All3 (R1 K B H m) (ds++[kd]) (xs++[kv]) (Fs++[f])
 |_,_,_,.nil=>.cons h .nil
 |_,_,_,.cons h' t=>.cons h' (TF h t)
theorem IK {B:Hp}{k:aG}:∀ {ds:List (aA×aA)} {xs:List (aG×V)} {Fs:List (List aC)},All3 (R1 K B H m) ds xs Fs->bQ ds k=ae->dF xs k=ae
 |_,_,_,.nil,_=>rfl
 |(k0,d0)::ds,(k',v0)::xs,f0::Fs,.cons h t,e=>by
  obtain⟨ek,h⟩:=h;have ek:=ek;subst ek;rw[BL,iF] at e;by_cases q:k'=k
  .rw[if_pos (by rw[q])] at e;cases e
  .rw[if_neg (λz=>q (fH z))] at e
   exact(jN q).trans (IK t e)
theorem xI {B:Hp}:∀ {ds:List (aA×aA)} {xs:List (aG×V)} {Fs:List (List aC)},All3 (R1 K B H m) ds xs Fs->xs.length=ds.length
 |_,_,_,.nil=>rfl
 |_,_,_,.cons _ t=>by rw[fJ,fJ,xI t]
theorem Sta.putG{ds:List (aA×aA)}{xs:List (aG×V)}{p:aC}{A C Fs:List (List aC)}(S:Sta K H0 P0 B0 Y Z H fp)(hi:i<Y.length)(h1:Z[i]?=aa (aa (.ref p)))(h3:fp i=p::Fs.flatten)(sub:∀ a,a∈(A++C).flatten->a∈Fs.flatten)(nf:(A++C).flatten.Nodup)(r:Aej K (L2.hid H (Hd P0 fp)) H m d v (fp Y.length))(hc:CM c m)
  (up:∀ B',Ext (L2.hid H (Hd P0 fp)) B'->Aej K B' (upd H p (.dK n xs)) m d v (fp Y.length)->(∀ g∈A++C,∀ a∈g,upd H p (.dK n xs) a=H a)->All3 (R1 K B' (upd H p (.dK n xs)) m) ds xs (A++fp Y.length::C)) :
  ∃ bg,Sta K H0 P0 B0 (Y.set i (aa (c,.dict ds))) Z (upd H p (.dK n xs)) bg:=by
 have nd:=S.nd i;rw[h3,gC] at nd;have mp:p∈fp i:=by rw[h3];exact bO
 have nl:∀ a∈fp Y.length,a∉fp i:=λa m m2=>by
  have:=S.dj _ _ a m m2
  lia
 have mem:∀ a,a∈p::(A++fp Y.length::C).flatten↔a=p\/a∈(A++C).flatten\/a∈fp Y.length:=λa=>by
  grind
 refine⟨λj=>if j=i then p::(A++fp Y.length::C).flatten else if j=Y.length then [] else fp j,S.change hi h1 (λj a b=>?_) (λj a=>?_) ?_ (λa m=>?_) (λa na=>bP λz=>na (by rw[show a=p from z];exact mp)) (λa m=>?_) λxb=>?_⟩
 .grind
 .grind
 .simp only[if_true];rw[CS] at nf;simp only[CS,iL];have n1:=nR.1 nf;have pn:∀ a,a∈A.flatten\/a∈C.flatten->a≠p:=λa m z=>nd.1 (by
   rw[<-z];exact sub a (by simpa using m))
  refine gC.2 ⟨λm=>?_,nR.2 ⟨n1.1,nR.2 ⟨S.nd _,n1.2.1,λa ha b hb z=>?_⟩,λa ha b hb z=>?_⟩⟩
  all_goals grind
 .grind
 .simp only[if_true] at m;by_cases z:a=p
  .subst z;exact .inr ⟨.inl (n,_),cN⟩
  .rw[bP z];rcases(mem a).1 m with m|m|m
   .exact absurd m z
   .exact(S.own i a (by rw[h3];exact bM _ (sub a m))).2
   .exact(S.own _ a m).2
 .simp only[if_true];refine Gc hc ⟨p,(n,xs),A++fp Y.length::C,rfl,cN,rfl,up _ xb (Aej.keep xb (λa m=>bP λz=>nl a m (by rw[show a=p from z];exact mp)) r) λg mg a ma=>bP λz=>nd.1 ?_⟩
  have z:=z;rw[<-z];exact sub a (fI.2 ⟨g,mg,ma⟩)
theorem Sta.newKey{ds:List (aA×aA)}{k:aG}(S:Sta K H0 P0 B0 Y Z H fp)(e:Y[i]?=aa (aa (c,.dict ds)))(hk:bQ ds k=ae)(r:Aej K (L2.hid H (Hd P0 fp)) H m d v (fp Y.length))(hc:CM c m:=by exact .inl ⟨rfl,rfl⟩):∃ p ep xs,Z[i]?=aa (aa (.ref p))/\H p=aa (.dK ep xs)/\xs.length=ds.length /\
  ∀ n,∃ bg,Sta K H0 P0 B0 (Y.set i (aa (c,.dict (ds++[(kD k,d)])))) Z (upd H p (.dK n (putK xs k v))) bg:=by
 obtain⟨p,ep,xs,Fs,h1,h2,h3,h4⟩:=S.dicC hc e;have hi:=(cR.1 e).1;refine⟨p,ep,xs,h1,h2,xI h4,λn=>?_⟩
 have jt:putK xs k v=xs++[(k,v)]:=by
  unfold putK;rw[oO,IK h4 hk]
  rfl
 have nd:=S.nd i;rw[h3,gC] at nd;rw[jt];exact S.putG (C:=[]) hi h1 h3 (λa m=>by simpa using m) (by simpa using nd.2) r hc λB' xb rk kp=>TF ⟨rfl,rk⟩ (h4.imp λa b c' mm rr=>⟨rr.1,Aej.keep xb (kp c' (by simpa using mm)) rr.2⟩)
end
def jK (i:Nat)(Y:aP)(c:Nat:=2):Option (List (aA×aA)):=match Y[i]? with
 |some (aa (n,.dict ds))=>if n=c then aa ds else ae
 |_=>ae
theorem jD{ds:List (aA×aA)}(h:jK i Y c=aa ds):Y[i]?=aa (aa (c,.dict ds)):=by
 unfold jK at h
 grind
section
variable {k:aQ}
theorem Wu:DF 2 X (.Dict [] [] pos) (eC (.dict [])):=PE.imp QU λZ H Q gh=>by
 rw[5];cases ef;refine λq hq=>k (.ref q) _ [q] (Ext.new hq) (gC.2 ⟨by simp,.nil⟩) (λa m=>?_) ⟨q,(0,[]),[],rfl,cN,rfl,.nil⟩
 have:a=q:=by simpa using m
 subst this;exact⟨hq,_,cN⟩
def zL (i:Nat)(m:Md)(f:EF)(mk:Md)(g:EF)(c:Nat:=2)(n:Nat:=1):SF:=λY=>(eV n m f Y).bind λd=>(jK i Y c).bind λkds=>(eV 0 mk g Y).bind λk=>(bK k).bind λk=>if bQ kds k=ae/\kds.length<sizeLine then aa (.nx (Y.set i (aa (c,.dict (kds++[(kD k,d)]))))) else ae
theorem Xj(i:Nat)(m mk:Md)(hu:X.A.units+40<cLine)(he:DF n X e f)(hk:DE X k g)(hN:Nm X i x:=by exact fM)(hs:iG e (aa (.Subscript (.Name x px) k ao)) pos.line X.env=pure ag:=by rfl)(hc:CM c n:=by first|exact .inl ⟨rfl,rfl⟩|exact .inr ⟨rfl,rfl⟩):DS X H0 P0 n0 (.Assign [.Subscript (.Name x px) k ao] e pos) (zL i m f mk g c n):=
 PS.imp (GN hu (hN.pe) hk (ev (H0:=H0) (P0:=P0) m he) hs) λD Z H gh=>by
  obtain⟨B0,Y,fp,o,S,ef,kk⟩:=gh;obtain⟨d,e1,bq⟩:=aj ef;obtain⟨kds,e2,bi⟩:=aj bq;obtain⟨kd,e3,b9⟩:=aj bi;obtain⟨key,e4,dw⟩:=aj b9;obtain⟨⟨hn,hl⟩,rfl⟩:=cH dw;clear ef bq bi b9;refine⟨B0,Y,fp,d,S,e1,λv H2 gh=>?_⟩
  obtain⟨b7,S2,r2⟩:=gh;obtain⟨p,ep,xs,h1,h2,_,_⟩:=S2.newKey (jD e2) hn r2 hc;have hf:eD kd=af:=by rw[qI e4];cases key<;>simp[kD,eD]
  refine⟨.ref p,h1,oF S2 e3 hf λu H3 x3 r3=>?_⟩
  have S3:=S2.grow x3;have r4:Aej X.K (hid H3 (Hd P0 b7)) H3 n d v (b7 Y.length):=r2.keep (cG x3) λa m=>by
   rcases(S2.own _ a m).2 with⟨xs,e⟩|⟨xs,e⟩
   all_goals grind
  obtain⟨p3,ic,f8,q1,q2,q3,q4⟩:=S3.newKey (jD e2) hn r4 hc;have:p3=p:=by rw[h1] at q1;cases q1;rfl
  subst this;refine⟨p3,_,rfl,.inl ⟨ic,f8,key,q2,jO e4 r3,by rw[q3];exact hl,rfl⟩,λn'=>?_⟩
  obtain⟨bg,S4⟩:=q4 n';exact kk _ _ bg S4
end
def QA:V->List V->Hp->VK->Prop:=λx vs H Q=>∃ d ep kvs k y,x=.ref d/\vs=[kV k,y]/\H d=aa (.dK ep kvs)/\kvs.length<sizeLine /\
 ((∃ u,dF kvs k=aa u/\Q u H)\/(dF kvs k=ae/\∀ n,Q y (upd H d (.dK n (putK kvs k y)))))
theorem IH:su X "dict.setdefault" QA:=by
 intro ad s Z H x vs v us Q I rx rv h;obtain⟨d,ep,kvs,k,y,rfl,rfl,e,l,q⟩:=h;cases rx;cases rv with
 |cons rk rr=>
  cases rr with
  |cons ry rr=>
   cases rr;obtain⟨z,hd,ws,cc,dd⟩:=pP I.hok e;refine LF LK dd.typeIs PySem.F.entry_dict_setdefault (PySem.F.args_dict_setdefault_3 _ _ _) (kt_meets_setdefault (fF X.prog X.w) d (rO rk) hd _) ⟨ws,dd,by rw[<-cc.length];exact z,λw hw=>?_,λhn h' jh sb=>?_⟩
   .have rl:=cc.val k;rcases q with⟨u,hu,q⟩|⟨hu,q⟩
    .rw[hu] at rl;obtain⟨w',e1,e2⟩:=rl.some_of;have e3:w'=w:=by rw[e1] at hw;exact fH hw
     subst e3;exact⟨u,H,I.tok _,e2,q⟩
    .rw[hu] at rl;have:=rl.none_of;rw[this] at hw;cases hw
   .have rl:=cc.val k;rcases q with⟨u,hu,q⟩|⟨hu,q⟩
    .rw[hu] at rl;obtain⟨w',e1,e2⟩:=rl.some_of;rw[e1] at hn;cases hn
    .have hl:(putK kvs k y).length<=sizeLine:=by have:=xV kvs k y;lia
     have he:∃ q,h'.get? d=aa q:=let ⟨q,_,_,hq,_⟩:=jh;⟨q,hq⟩;obtain⟨n,da⟩:=jh.dictAt;exact⟨y,_,AM I (by rw[e];exact nN) sb he (wI hl hd (cc.put k ry) da),ry,q n⟩
section
variable {c k v:aQ}
def k8 (i j:Nat)(mc:Md)(fc:BF)(mk:Md)(fk:EF)(mv:Md)(fv:EF)(m2:Md)(f2:EF):SF:=λY=>(bV mc fc Y).bind λb=>if b=af then
  (eV 0 mk fk Y).bind λkd=>(eV 0 mv fv Y).bind λd=>(bK kd).bind λkey=>(kT j Y).bind λkds=>match d with
   | .int n=>if i<Y.length/\kds.length<sizeLine then aa (.nx (match bQ kds key with
    |some u=>Y.set i (aa (0,u))
    | none=>(Y.set j (aa (1,.dict (putD kds key (.int n))))).set i (aa (0,.int n)))) else ae
   |_=>ae
 else(eV 0 m2 f2 Y).bind λd=>if i<Y.length then aa (.nx (Y.set i (aa (0,d)))) else ae
theorem Fn (i j:Nat)(mc mk mv m2:Md)(hN:X.N.Nodup)(hc:DT X c fc)(hk:DE X k fk)(hv:DE X v fv)(he:DE X e2 f2)(hi:X.N[i]?=aa x:=by rfl)(hx:iQ X.env.scope x:=by first|exact fG rfl|exact iU rfl)
  (hj:Nm X j y:=by exact fM) (q5:Bm X (.Name y p2) k [v] "setdefault" ap cp:=by exact⟨rfl,rfl,rfl,rfl,rfl⟩) (ib:cC (v::[]) X.env=(ag,bZ v X.env)::cC [] X.env:=by rfl)
  (fg:iG (.IfExp c (.Call (.Attribute (.Name y p2) "setdefault" ap) [k,v] [] cp) e2 p3) (aa (.Name x p1)) pos.line X.env=pure ag:=by rfl) (hf:X.fn x=af\/X.env.scope.names.lookup x=aa .local:=by first|exact .inl rfl|exact .inr rfl|assumption) :
  DS X H0 P0 n0 (.Assign [.Name x p1] (.IfExp c (.Call (.Attribute (.Name y p2) "setdefault" ap) [k,v] [] cp) e2 p3) pos) (k8 i j mc fc mk fk mv fv m2 f2):=
 PS.imp (FH hN hi hx (SD (sx mc hc) (mP CJ LK Cc IH (hj.pe) (eN (ev mk hk) (eN (ev mv hv) gY ib) q5.s) q5) (ev m2 he)) fg hf) λD Z H gh=>by
  obtain⟨B0,Y,fp,o,S,ef,kk⟩:=gh;obtain⟨b,e1,bq⟩:=aj ef;refine⟨B0,Y,fp,b,S,e1,λH1 S1=>?_⟩
  cases b with
  |false=>
   refine lO ?_;obtain⟨d,g1,g2⟩:=aj (show((eV 0 m2 f2 Y).bind λd=>if i<Y.length then aa (Out.nx (Y.set i (aa (0,d)))) else ae)=aa o from bq)
   obtain⟨hl,rfl⟩:=cH g2;refine⟨B0,Y,fp,d,S1,g1,λu H2 t=>?_⟩
   obtain⟨bg,S'⟩:=t.set hl;exact kk _ _ bg S'
  |true=>
   refine lL ?_;obtain⟨kd,g1,bi⟩:=aj (show((eV 0 mk fk Y).bind λkd=>(eV 0 mv fv Y).bind λd=>(bK kd).bind λkey=>(kT j Y).bind λkds=>match d with
    | .int n=>if i<Y.length/\kds.length<sizeLine then aa (Out.nx (match bQ kds key with
     |some u=>Y.set i (aa (0,u))
     | none=>(Y.set j (aa (1,.dict (putD kds key (.int n))))).set i (aa (0,.int n)))) else ae
    | _=>ae)=aa o from bq)
   obtain⟨d,g2,b9⟩:=aj bi;obtain⟨key,g3,dw⟩:=aj b9;obtain⟨kds,g4,gw⟩:=aj dw;clear ef bq bi b9 dw;cases d with
   |int n=>
    obtain⟨⟨hl,hz⟩,rfl⟩:=cH gw;obtain⟨p,ep,xs,h1,h2,_,_⟩:=S1.dic1 (oP g4);refine⟨.ref p,h1,.inr (.inr (.inl ⟨rfl,.inl ⟨ep,xs,h2⟩⟩)),B0,Y,fp,kd,S1,g1,λv1 H2 gh=>?_⟩
    obtain⟨b7,S2,r2⟩:=gh;have r6:=jO g3 r2.2;refine⟨B0,Y,b7,.int n,S2,g2,λv2 H3 gh=>?_⟩
    obtain⟨zn,S3,r3⟩:=gh;have wy:=Aal.1 r3.2;subst r6 wy;obtain⟨p3,ic,f8,q1,q2,q3,q4⟩:=S3.dic1 (oP g4);have:p3=p:=by rw[h1] at q1;cases q1;rfl
    subst this;refine⟨p3,ic,f8,key,.int n,rfl,rfl,q2,by rw[q3.length];exact hz,?_⟩
    rcases sI q3 with⟨n1,n2⟩|⟨d',v',s1,s2,rd⟩
    .refine .inr ⟨n2,λm=>?_⟩
     rw[n1] at kk;have S4:=q4 m _ _ (AE (k:=key) (d:=.int n) (v:=.int n) q3 (Aal.2 rfl));obtain⟨bg,S'⟩:=S4.set0 (Aal.2 rfl) (by simpa using hl)
     exact kk _ _ bg S'
    .refine .inl ⟨v',s2,?_⟩;rw[s1] at kk;obtain⟨bg,S'⟩:=S3.set0 rd hl;exact kk _ _ bg S'
   |_=>cases gw
end
section
variable {Z:St}
def jg (kds:List (aA×aA))(k:aG):List (aA×aA):=match bQ kds k with
 |some _=>kds
 |none=>kds++[(kD k,.list [])]
def AL (Z:St)(H:Hp)(i j:Nat)(k:aG):Prop:=∃ p ep xs q,Z[i]?=aa (aa (.ref p))/\H p=aa (.dK ep xs)/\dF xs k=aa (.ref q)/\Z[j]?=aa (aa (.ref q))
theorem AL.set {k:aG}{l:Nat}(h:AL Z H i j k)(hi:l≠i)(hj:l≠j):AL (Z.set l (aa v)) H i j k:=by
 obtain⟨p,ep,xs,q,h1,h2,h3,h4⟩:=h;exact⟨p,ep,xs,q,by rw[iO hi];exact h1,h2,h3,by rw[iO hj];exact h4⟩
theorem set_same {Y:aP}{i:Nat}{x:Slot}(h:Y[i]?=aa x):Y.set i x=Y:=by
 apply List.ext_getElem?
 grind
end
section
variable {l:Nat}{k c:aQ}{fm:EF}{t:BF}{z:aE}{p5 lp ap2 cp2 ja Fa F3:bH}
theorem Vt(h:jK i Y=aa kds):i<Y.length:=(cR.1 (jD h)).1
end
section
variable {Z:St}
def tV (kds:List (aA×aA)):List (Option aG):=kds.map λkd=>bK kd.1
theorem VD {B:Hp}:∀ {ds:List (aA×aA)} {xs:List (aG×V)} {Fs:List (List aC)},All3 (R1 K B H m) ds xs Fs->tV ds=xs.map λkv=>aa kv.1
 |_,_,_,.nil=>rfl
 |(k0,d0)::ds,(k',v0)::xs,_,.cons h t=>by
  obtain⟨ek,_⟩:=h;have ek:=ek;subst ek;show bK (kD k')::tV ds=aa k'::xs.map λkv=>aa kv.1
  rw[iF,VD t]
theorem TL {k:aG}:∀ {xs:List (aG×V)},k∉xs.map (·.1)->(xs.map λkv=>if kv.1=k then(kv.1,v) else kv)=xs
 |[],_=>rfl
 |x::xs,h=>by
  rw[cY,cV] at h;rw[cY,if_neg (λe=>h (.inl e.symm)),TL λm=>h (.inr m)]
theorem UB {B:Hp}{k:aG}:∀ {ds:List (aA×aA)} {xs:List (aG×V)} {Fs:List (List aC)},All3 (R1 K B H m) ds xs Fs->(xs.map (·.1)).Nodup->∀ d,bQ ds k=aa d ->
  ∃ A f C,Fs=A++f::C/\∀ (B' H':Hp) (d':aA) (v':V) (f':List aC),Ext B B'->Aej K B' H' m d' v' f'->(∀ g∈A++C,∀ a∈g,H' a=H a)->All3 (R1 K B' H' m) (iY ds k d') (xs.map λkv=>if kv.1=k then(kv.1,v') else kv) (A++f'::C)
 |_,_,_,.nil,_,d,e=>by simp[bQ] at e
 |(k0,d0)::ds,(k',v0)::xs,f0::Fs,.cons h t,nd,d,e=>by
  obtain⟨ek,h⟩:=h;have ek:=ek;subst ek;rw[cY,gC] at nd;rw[BL,iF] at e;by_cases q:k'=k
  .refine⟨[],f0,Fs,rfl,λB' H' d' v' f' xb r kp=>?_⟩
   show All3 _ (if bK (kD k')=aa k then(kD k',d')::ds else _) ((if k'=k then(k',v') else(k',v0))::xs.map λkv=>if kv.1=k then(kv.1,v') else kv) _
   rw[if_pos (by rw[iF,q]),if_pos q,TL (by rw[<-q];exact nd.1)]
   exact .cons ⟨rfl,r⟩ (t.imp λa b c mm rr=>⟨rr.1,rr.2.keep xb (kp c (by simpa using mm))⟩)
  .rw[if_neg (λz=>q (fH z))] at e
   obtain⟨A,f,C,rfl,up⟩:=UB t nd.2 d e;refine⟨f0::A,f,C,rfl,λB' H' d' v' f' xb r kp=>?_⟩
   show All3 _ (if bK (kD k')=aa k then(kD k',d')::ds else(kD k',d0)::iY ds k d') ((if k'=k then(k',v') else(k',v0))::xs.map λkv=>if kv.1=k then(kv.1,v') else kv) _
   rw[if_neg (by rw[iF];exact λz=>q (fH z)),if_neg q]
   exact .cons ⟨rfl,h.keep xb (kp f0 (by simp))⟩ (up B' H' d' v' f' xb r λg mm=>kp g (by rw[MG];exact bM _ mm))
theorem Sta.oldKey{ds:List (aA×aA)}{k:aG}{d0:aA}(S:Sta K H0 P0 B0 Y Z H fp)(e:Y[i]?=aa (aa (c,.dict ds)))(l5:(tV ds).Nodup)(hk:bQ ds k=aa d0)(r:Aej K (L2.hid H (Hd P0 fp)) H m d v (fp Y.length))(hc:CM c m:=by exact .inl ⟨rfl,rfl⟩):∃ p ep xs,Z[i]?=aa (aa (.ref p))/\H p=aa (.dK ep xs)/\xs.length=ds.length /\
  ∀ n,∃ bg,Sta K H0 P0 B0 (Y.set i (aa (c,.dict (iY ds k d)))) Z (upd H p (.dK n (putK xs k v))) bg:=by
 obtain⟨p,ep,xs,Fs,h1,h2,h3,h4⟩:=S.dicC hc e;have hi:=(cR.1 e).1;refine⟨p,ep,xs,h1,h2,xI h4,λn=>?_⟩
 have F4:(xs.map (·.1)).Nodup:=by
  rw[VD h4,show(xs.map λkv=>aa kv.1)=(xs.map (·.1)).map aa by rw[dX];rfl] at l5
  grind
 have nd:=S.nd i;rw[h3,gC] at nd;obtain⟨v0,f0,_,F5,_⟩:=HY h4 nd.2 _ hk;have jt:putK xs k v=xs.map λkv=>if kv.1=k then(kv.1,v) else kv:=by
  unfold putK;rw[oO,F5]
  rfl
 obtain⟨A,f,C,eF,up⟩:=UB h4 F4 _ hk;have sub:∀ a,a∈(A++C).flatten->a∈Fs.flatten:=λa m=>by
  grind
 have nf:(A++C).flatten.Nodup:=by
  grind
 rw[jt];exact S.putG hi h1 h3 sub nf r hc λB' xb rk kp=>up B' _ d v _ xb rk kp
end
section
variable {k:aQ}
def wV (i:Nat)(m:Md)(f:EF)(mk:Md)(g:EF)(c:Nat:=2)(n:Nat:=1):SF:=λY=>(eV n m f Y).bind λd=>(jK i Y c).bind λkds=>(eV 0 mk g Y).bind λk=>(bK k).bind λk=>if ((bQ kds k).isSome=af/\(tV kds).Nodup)/\kds.length<sizeLine then aa (.nx (Y.set i (aa (c,.dict (iY kds k d))))) else ae
theorem Ob(i:Nat)(m mk:Md)(hu:X.A.units+40<cLine)(he:DF n X e f)(hk:DE X k g)(hN:Nm X i x:=by exact fM)(hs:iG e (aa (.Subscript (.Name x px) k ao)) pos.line X.env=pure ag:=by rfl)(hc:CM c n:=by first|exact .inl ⟨rfl,rfl⟩|exact .inr ⟨rfl,rfl⟩):DS X H0 P0 n0 (.Assign [.Subscript (.Name x px) k ao] e pos) (wV i m f mk g c n):=
 PS.imp (GN hu (hN.pe) hk (ev (H0:=H0) (P0:=P0) m he) hs) λD Z H gh=>by
  obtain⟨B0,Y,fp,o,S,ef,kk⟩:=gh;obtain⟨d,e1,bq⟩:=aj ef;obtain⟨kds,e2,bi⟩:=aj bq;obtain⟨kd,e3,b9⟩:=aj bi;obtain⟨key,e4,dw⟩:=aj b9;obtain⟨⟨⟨hn,l5⟩,hl⟩,rfl⟩:=cH dw;obtain⟨d0,hn⟩:=CO.1 hn;clear ef bq bi b9;refine⟨B0,Y,fp,d,S,e1,λv H2 gh=>?_⟩
  obtain⟨b7,S2,r2⟩:=gh;obtain⟨p,ep,xs,h1,h2,_,_⟩:=S2.oldKey (jD e2) l5 hn r2 hc;have hf:eD kd=af:=by rw[qI e4];cases key<;>simp[kD,eD]
  refine⟨.ref p,h1,oF S2 e3 hf λu H3 x3 r3=>?_⟩
  have S3:=S2.grow x3;have r4:Aej X.K (hid H3 (Hd P0 b7)) H3 n d v (b7 Y.length):=r2.keep (cG x3) λa m=>by
   rcases(S2.own _ a m).2 with⟨xs,e⟩|⟨xs,e⟩
   all_goals grind
  obtain⟨p3,ic,f8,q1,q2,q3,q4⟩:=S3.oldKey (jD e2) l5 hn r4 hc;have:p3=p:=by rw[h1] at q1;cases q1;rfl
  subst this;refine⟨p3,_,rfl,.inl ⟨ic,f8,key,q2,jO e4 r3,by rw[q3];exact hl,rfl⟩,λn'=>?_⟩
  obtain⟨bg,S4⟩:=q4 n';exact kk _ _ bg S4
def tZ (i:Nat)(mk:Md)(g:EF)(m:Md)(f:EF):SF:=λY=>(jK i Y).bind λkds=>(eV 0 mk g Y).bind λk=>(bK k).bind λk=>(bQ kds k).bind λl=>match l with
 |.list es=>(eV 0 m f Y).bind λd=>if eD d=af/\es.length<sizeLine then aa (.nx (Y.set i (aa (2,.dict (iY kds k (.list (es++[d]))))))) else ae
 |_=>ae
theorem ON (i:Nat)(mk m:Md)(hu:X.A.units+40<cLine)(hk:DE X k g)(he:DE X e f)(hN:Nm X i x:=by exact fM)(o7:zG k:=by exact λ_ _=>rfl)(q5:Bm X (.Subscript (.Name x px) k ca) e [] "append" ao au:=by exact⟨rfl,rfl,rfl,rfl,rfl⟩)
  (fg:iG (.Call (.Attribute (.Subscript (.Name x px) k ca) "append" ao) [e] [] au) ae pos.line X.env=pure ag:=by rfl):DS X H0 P0 n0 (.Expr (.Call (.Attribute (.Subscript (.Name x px) k ca) "append" ao) [e] [] au) pos) (tZ i mk g m f):=
 PS.imp (pX (mP vJ LJ LI xO (FQ hu (hN.pe) hk o7) (eN he gY q5.s) q5) fg) λD Z H gh=>by
  obtain⟨B0,Y,fp,o,S,ef,kk⟩:=gh;obtain⟨kds,e2,bi⟩:=aj ef;obtain⟨kd,e3,b9⟩:=aj bi;obtain⟨key,e4,dw⟩:=aj b9;obtain⟨l,e5,gw⟩:=aj dw;clear ef bi b9 dw;cases l with
  |list es=>
   obtain⟨d,e1,oh⟩:=aj gw;obtain⟨⟨F6,lz⟩,rfl⟩:=cH oh;have hf:eD kd=af:=by rw[qI e4];cases key<;>simp[kD,eD]
   obtain⟨p,ep,xs,q,ys,h1,h2,h3,h4,_,_⟩:=S.inner (jD e2) e5;refine⟨.ref p,h1,oF S e3 hf λu H2 x2 r2=>⟨p,.ref q,rfl,.inl ⟨ep,xs,key,.inl (x2 _ _ h2),jO e4 r2,h3.symm⟩,.inl ⟨rfl,ys,SqL.of (x2 _ _ h4)⟩,oF (S.grow x2) e1 F6 λv H3 x3 r3=>?_⟩⟩
   have S3:=S.grow (x2.trans x3);obtain⟨p3,ic,f8,q3,pd,g1,g2,g3,g4,g5,g6⟩:=S3.inner (jD e2) e5;have jt:p3=p:=by rw[h1] at g1;cases g1;rfl
   subst jt;have ex:=g2.symm.trans (x3 _ _ (x2 _ _ h2));injection ex with ex;injection ex with ex1 ex2;subst ex2;have wz:q3=q:=by
    grind
   subst wz;exact⟨q3,pd,v,rfl,rfl,g4,by rw[g5.length];exact lz,kk _ _ fp (g6 _ _ (g5.snoc r3))⟩
  |_=>cases gw
end
theorem UN:∀ (qs kvs:List (aG×V)),((kvs++qs).map (·.1)).Nodup->kZ kvs qs=kvs++qs
 |[],kvs,_=>by show kvs=kvs++[];simp
 |q::qs,kvs,h=>by
  have hn:dF kvs q.1=ae:=by
   cases e:dF kvs q.1 with
   |none=>rfl
   |some v=>
    have m:=Ko e
    grind
  have ep:putK kvs q.1 q.2=kvs++[q]:=by
   unfold putK;rw[oO,hn]
   rfl
  show kZ (putK kvs q.1 q.2) qs=_;rw[ep,UN qs (kvs++[q]) (by simpa using h)]
  simp
section
variable {c k v:aQ}
def vP (m2:Md)(f2:EF)(F:SF)(u:Int)(Y:aP):Option Out:=(eV 0 m2 f2 Y).bind λw=>match w with
 |.int w=>if u≠w then F Y else aa (.nx Y)
 |_=>ae
theorem SC {m2:Md}{Z:St}{u:Int}{o:Out}{D:Ends}(S:Sta K H0 P0 B0 Y Z H fp)(ef:vP m2 f2 F u Y=aa o)(kk:OE K H0 P0 B0 n0 D o) :
  tE K H0 P0 0 m2 f2 Z H λz H2=>vR K af (.int u) z H2 λb H3=>∃ c,b=.bl c/\if c=af then tS K H0 P0 n0 F D Z H3 else OA D Z H3:=by
 obtain⟨w,e1,ef⟩:=aj ef;cases w with
 |int w=>
  refine⟨B0,Y,fp,.int w,S,e1,λv H2 gh=>?_⟩
  obtain⟨b7,S2,r2⟩:=gh;have ev:=Aal.1 r2.2;subst ev;refine⟨.int u,.int w,Aal.2 rfl,Aal.2 rfl,rfl,rfl,_,rfl,?_⟩;have eb:(af != bU (.int u) (.int w))=decide (u≠w):=by
   have:bU (.int u) (.int w)=decide (u=w):=by
    simp only[bU]
    rfl
   rw[this];by_cases q:u=w<;>simp[q]
  rw[eb];have ef:(if u≠w then F Y else aa (Out.nx Y))=aa o:=ef
  by_cases q:u≠w
  .rw[if_pos q] at ef;rw[if_pos (decide_eq_true q)];exact⟨B0,Y,b7,o,S2,ef,kk⟩
  .rw[if_neg q] at ef;cases ef;rw[if_neg (by rw[decide_eq_false q];simp)]
   exact kk _ _ b7 S2
 |_=>cases ef
end
section
theorem Jr{Z:St}{mk:Md}{kd:aA}{key:aG}{es:List aA}{Q:VK}
  (S:Sta K H0 P0 B0 Y Z H fp) (e2:jK i Y=aa kds) (e3:eV 0 mk g Y=aa kd) (e4:bK kd=aa key) (hl:kds.length<sizeLine) (he:bQ (jg kds key) key=aa (.list es))
  (kk:∀ q H1 j8 ys,Sta K H0 P0 B0 (Y.set i (aa (2,.dict (jg kds key)))) Z H1 j8->H1 q=aa (.lst ys)->Aao K (L2.hid H1 (Hd P0 j8)) es ys->Q (.ref q) H1) :
  A7 K "dict" QA (vQ i) (vY (tE K H0 P0 0 mk g) (vY (tE K H0 P0 1 .s (cU aH)) EE)) Z H Q:=by
 obtain⟨p,ep,xs,Fs,h1,h2,_,_⟩:=S.dic2 (jD e2);have hi:=Vt e2;refine⟨.ref p,h1,.inr (.inr (.inl ⟨rfl,.inl ⟨ep,xs,h2⟩⟩)),B0,Y,fp,kd,S,e3,λv1 H2 gh=>?_⟩
 obtain⟨b7,S2,r2⟩:=gh;have r6:=jO e4 r2.2;subst r6;refine⟨B0,Y,b7,.list [],S2,rfl,λv2 H3 gh=>?_⟩
 obtain⟨zn,S3,r3⟩:=gh;cases i4:bQ kds key with
 |none=>
  have wE:jg kds key=kds++[(kD key,.list [])]:=by unfold jg;rw[i4]
  obtain⟨p3,ic,f8,q1,q2,q3,q4⟩:=S3.newKey (jD e2) i4 r3;have:p3=p:=by rw[h1] at q1;cases q1;rfl
  subst this;obtain⟨p4,F7,wP,F8,a1,a2,a3,a4⟩:=S3.dic2 (jD e2);have e1:p4=p3:=by rw[q1] at a1;cases a1;rfl
  subst e1;have ex:=a2.symm.trans q2;injection ex with ex;injection ex with _ ex;subst ex;have vn:=IK a4 i4;refine⟨p4,ic,wP,key,v2,rfl,rfl,q2,by rw[q3];exact hl,.inr ⟨vn,λn=>?_⟩⟩
  obtain⟨bg,S4⟩:=q4 n;rw[<-wE] at S4;obtain⟨q0,_,_,rfl,_⟩:=r3;obtain⟨p5,ep5,xs5,q5,ys5,b1,b2,b3,b4,b5,_⟩:=S4.inner (iW hi) he;have e5:p5=p4:=by rw[q1] at b1;cases b1;rfl
  subst e5;have r9:=b2.symm.trans cN;injection r9 with r9;injection r9 with _ r9;rw[r9,Vw,if_pos rfl] at b3
  grind
 |some d=>
  have wE:jg kds key=kds:=by unfold jg;rw[i4]
  rw[wE] at he kk;obtain⟨p3,ic,f8,q,ys,g1,g2,g3,g4,g5,_⟩:=S3.inner (jD e2) he;have:p3=p:=by rw[h1] at g1;cases g1;rfl
  subst this;obtain⟨p4,F7,wP,F8,a1,a2,a3,a4⟩:=S3.dic2 (jD e2);have e1:p4=p3:=by rw[g1] at a1;cases a1;rfl
  subst e1;have ex:=a2.symm.trans g2;injection ex with ex;injection ex with _ ex;subst ex;refine⟨p4,ic,wP,key,v2,rfl,rfl,g2,by rw[xI a4];exact hl,.inl ⟨.ref q,g3,?_⟩⟩
  rw[set_same (jD e2)] at kk
  grind
variable {k e0 c2:aQ}{f0:EF}{t2:BF}{lp:bH}
def rR (i:Nat)(m0:Md)(f0:EF)(mk:Md)(g:EF)(m2:Md)(t2:BF)(F:SF):SF:=λY=>(eV 0 m0 f0 Y).bind λd=>(jK i Y).bind λkds=>(eV 0 mk g Y).bind λkd=>(bK kd).bind λkey=>
 match bQ (jg kds key) key with
 |some (.list es)=>if kds.length<sizeLine/\(cS d&&noDicts es)=af then
   if (es.any λz=>bU z d)=af then aa (.nx (Y.set i (aa (2,.dict (jg kds key)))))
   else(bV m2 t2 (Y.set i (aa (2,.dict (jg kds key))))).bind λb=>if b=af then F (Y.set i (aa (2,.dict (jg kds key)))) else aa (.nx (Y.set i (aa (2,.dict (jg kds key)))))
  else ae
 |_=>ae
theorem RQ (i:Nat)(m0 mk m2:Md)(hu:X.A.units+100<cLine)(he:DE X e0 f0)(hk:DE X k g)(hc:DT X c2 t2)(ha:gb X H0 P0 n0 body F)(hi:Nm X i x:=by exact fM)
  (q5:Bm X (.Name x p2) k [.List [] lp] "setdefault" ap cp:=by exact⟨rfl,rfl,rfl,rfl,rfl⟩) (ib:cC (.List [] lp::[]) X.env=(ag,bZ (.List [] lp) X.env)::cC [] X.env:=by rfl)
  (hm:sQ .NotIn (.Call (.Attribute (.Name x p2) "setdefault" ap) [k,.List [] lp] [] cp)=ag:=by with_unfolding_all rfl) :
  DS X H0 P0 n0 (.If (.BoolOp .And [.Compare e0 [.NotIn] [.Call (.Attribute (.Name x p2) "setdefault" ap) [k,.List [] lp] [] cp] qw,c2] vz) body [] pos) (rR i m0 f0 mk g m2 t2 F):=
 PS.imp (EK (ZT (GA (SY hu) (ev m0 he) (mP CJ LK Cc IH (hi.pe) (eN (ev mk hk) (eN (ev .s (zO oI)) gY ib) q5.s) q5) hm) (Bb (sx m2 hc))).pt ha FT) λD Z H gh=>by
  obtain⟨B0,Y,fp,o,S,ef,kk⟩:=gh;obtain⟨d,g0,ef⟩:=aj ef;obtain⟨kds,g1,ef⟩:=aj ef;obtain⟨kd,g2,ef⟩:=aj ef;obtain⟨key,g3,ef⟩:=aj ef;split at ef
  .rename_i es F9;obtain⟨⟨hl,hok⟩,ef⟩:=xA ef;refine⟨B0,Y,fp,d,S,g0,λv0 H1 gh=>?_⟩
   obtain⟨j8,S1,r1⟩:=gh;have Go:=S1.rebase Ext.refl;refine Jr Go g1 g2 g3 hl F9 λq H2 b7 ys S2 hq rr=>?_
   have rv:=(r1.2.ext S2.base).ext Aap;have S3:=S2.rebase (S1.base.trans S2.base);have kr:=iM.1 hok;refine⟨d,es,rv,.inl (Abe.2 ⟨q,ys,rfl,SqL.of hq,rr.ext Aap⟩),kr.1,kr.2,_,rfl,?_⟩;by_cases hb:(es.any λz=>bU z d)=af
   .rw[if_pos hb] at ef;cases ef;rw[hb];refine lO ?_;exact kk _ _ b7 S3
   .rw[if_neg hb] at ef;rw[MU.2 hb];refine lL ?_;obtain⟨b,g4,ef⟩:=aj ef;refine⟨B0,_,b7,b,S3,g4,λH4 S4=>?_⟩
    cases b with
    |true=>
     refine lL ?_;exact⟨B0,_,b7,o,S4,ef,kk⟩
    |false=>
     refine lO ?_;cases ef;exact kk _ _ b7 S4
  .cases ef
end
def DH (a:aC)(ep n:Nat):It:=
  ⟨λi H=>∃ kvs kv,H a=aa (.dK ep kvs)/\kvs.length=n/\kvs[i]?=aa kv,
   λi H v H'=>∃ T kv,H T=ae/\v=.ref T/\(∀ kvs,H a=aa (.dK ep kvs)->kvs[i]?=aa kv)/\H'=upd H T (.tup [kV kv.1,kv.2]),
   λi H=>∃ kvs,H a=aa (.dK ep kvs)/\kvs.length=n/\n<=i⟩
theorem Su:entryFor table "dict_itemiterator.__iter__" = aa Builtin.«dict_keyiterator.__iter__»:=entryFor_alias (id':="dict_keyiterator.__iter__") (by kernel_rfl) rfl (by rw[0]) (by kernel_rfl)
theorem Sn(hT:s.TypeIs (.ref it) "dict_itemiterator")(h:Q (.ref it) s):aT (aX prog w) A (sP (.ref it)) Q E s:=by
 refine wpAny_pyIter_slot hT Zd (jX Zd hT Su ?_ (F.args_dict_itemiterator_iter_1 _));exact bA ⟨_,rfl,"dict_itemiterator",_,hT,F.slot_dict_itemiterator_next.lookup,h⟩
theorem Qb {P:bN}{cx}{pos:bH}(a it:aC)(ep n:Nat) :
  Turn P w K (.Tuple es cx pos) (DH a ep n) [it] it (λi h=>∃ ok ov,IsItemIter h it a i n ep ok ov) where
 mem:=cP.2 rfl
 obj:=λi h ⟨ok,ov,g⟩ b hb=>by
  grind
 keep:=λi h h' ⟨ok,ov,g⟩ k=>⟨ok,ov,k it (cP.2 rfl) _ g⟩
 item:=by
  rw[1];obtain⟨kvs,kv,ha,hn,hk⟩:=hg;subst hn;obtain⟨z,nm,vs,r,d⟩:=rN I.hok (.inl ha);have hl:kvs.length=vs.length:=r.length;obtain⟨u,hu,r1,r2⟩:=KG r hk;obtain⟨uk,uv⟩:=u;obtain⟨ok,ov,st⟩:=st;rw[hl] at st;have gr:it<s.heap.objs.size:=bW st;refine wpAny_pyNext_items_item st d hu λkey h' g9 eo pr sz keep=>?_
  have nu:kv.1=uk:=r1;have rk:RelV (kV kv.1) key:=by rw[nu];exact OU g9
  have fr:H s.heap.objs.size=ae:=I.hok.fresh (bJ _);have I0:Inv X ad Z (upd H s.heap.objs.size (.tup [kV kv.1,kv.2])) { s with heap:=s.heap.push { cls:=.type "tuple",data:=.seq #[key,uv] },toks:=s.toks }:=
   I.laid (t':=s.toks) (o:=.tup [kV kv.1,kv.2]) (λb ob q=>bX _ q) (bJ _) ⟨by show 2<=sizeLine;decide,[key,uv],.cons rk (.cons r2 .nil),A4w.new _ _⟩
  have j1:∀ b∈[it],iR X ad (upd H s.heap.objs.size (.tup [kV kv.1,kv.2])) b:=λb m=>⟨by rw[bP (eB (by rw[cP.1 m];exact gr))];exact(hf b m).1,(hf b m).2⟩
  have I1:Inv X ad Z (upd H s.heap.objs.size (.tup [kV kv.1,kv.2])) { s with heap:=h',toks:=s.toks }:=I0.turnM (t':=s.toks) j1 λb o n g=>by
   have n:b≠it:=λq=>n (cP.2 q)
   by_cases hb:b=s.heap.objs.size
   .subst hb;have e':(s.heap.push { cls:=.type "tuple",data:=.seq #[key,uv] }).get? s.heap.objs.size=aa { cls:=.type "tuple",data:=.seq #[key,uv] }:=dG _ rfl
    grind
   .exact keep b o n ((Di _ _ _ hb).symm.trans g)
  refine⟨_,rfl,wpAny_letOwnedTupleGo_items eo λh2 ge sb=>?_⟩
  have I2:Inv X ad Z (upd H s.heap.objs.size (.tup [kV kv.1,kv.2])) { s with heap:=h2,toks:=s.toks }:=I1.turnM (t':=s.toks) j1 λb o n g=>sb.extBut b o (λq=>n (cP.2 q)) g
  exact⟨.ref s.heap.objs.size,_,I2,rfl,⟨_,kv,fr,rfl,λwn h=>by rw[ha] at h;cases h;exact hk,rfl⟩,⟨_,_,by rw[hl];exact ge⟩,λb m=>(j1 b m).1⟩
 done:=by
  rw[1];obtain⟨kvs,ha,hn,hi⟩:=hg;subst hn;obtain⟨z,nm,vs,r,d⟩:=rN I.hok (.inl ha);have hl:kvs.length=vs.length:=r.length;obtain⟨ok,ov,st⟩:=st;rw[hl] at st;exact wpAny_pyNext_items_end (I.ok.hd hc) st d (by simp;lia) λh' eb=>⟨rfl,I.turnM (t':=s.toks) hf λb o nb e=>eb b o (λq=>nb (cP.2 q)) e⟩
 self:=λ_ _ _ _ _ st h=>by
  obtain⟨ok,ov,st⟩:=st;exact Sn ⟨_,st,rfl⟩ h
section
variable {l:aQ}
def Eg (tl:TE):TI:=λZ H R=>tl Z H λx H1=>∃ a ep kvs,x=.ref a/\H1 a=aa (.dK ep kvs)/\R (DH a ep kvs.length) H1
theorem RU {tl:TE}(hl:PE X l tl)(dh:vG l "items" X.env (bZ l X.env)=bZ l X.env:=by rfl)(dl:(ao.endLine==pos.line)=af:=by rfl):PI X (.Tuple es cx gq) (.Call (.Attribute l "items" ao) [] [] pos) (Eg tl):=by
 intro ad s Z H R I h;refine wpAny_Call_method dh rfl dl F.plainAttrs_dict F.slot_dict_items F.type_dict_items (bb (hl ad s Z H _ I h) λv s1 gh=>?_)
 obtain⟨x,H1,I1,r1,q1⟩:=gh;obtain⟨a,ep,kvs,rfl,ha,q⟩:=q1;cases r1;obtain⟨z,nm,vs,r,d⟩:=rN I1.hok (.inl ha);obtain⟨_,_,G0,_,dd⟩:=pP I1.hok ha;have hn:=r.length;refine⟨dd.typeIs,dd.mapOf.noDict,?_⟩;refine method_meetsIn F.slot_dict_items F.entry_dict_items rfl (PySem.evalArgs_none ⟨rfl,dd.typeIs,F.args_dict_items_1 _,_,meets_dict_items _ a nm,⟨G0,dd⟩,?_⟩);have d2:(s1.heap.push { cls:=.type "dict_items",data:=.fields #[.ref a] }).DictAt (fF X.prog X.w) a vs ep:=by
  obtain⟨o,es,ho,rr⟩:=d;exact⟨o,es,bX _ ho,rr⟩
 refine wpAny_pyIter_items ⟨_,dG _ rfl,rfl,rfl⟩ d2 ?_;have all:∀ b o,s1.heap.get? b=aa o->((s1.heap.push { cls:=.type "dict_items",data:=.fields #[.ref a] }).push { cls:=.type "dict_itemiterator",data:=.fields #[.none,.bool ag,.ref a,.int 0 0,.int vs.length 0,.int ep 0,.none,.none] }).get? b=aa o:=λb o e=>bX _ (bX _ e)
 refine⟨_,[_],_,_,H1,rfl,I1.kept all,Qb a _ ep kvs.length,⟨.none,.none,?_⟩,λb hb=>?_,q⟩
 .rw[hn];exact dG _ rfl
 .rw[cP.1 hb];have le:s1.heap.objs.size<=(s1.heap.push { cls:=.type "dict_items",data:=.fields #[.ref a] }).objs.size:=by
   rw[tD]
   lia
  exact I1.fpOk le (I1.hok.fresh le)
def sy (f:EF):AF:=λY=>(f Y).bind λd=>match d with
 |.dict kds=>if (cv kds&&kds.all λkd=>cF kd.1)=af then aa (kds.map λkd=>.tuple [kd.1,kd.2]) else ae
 |_=>ae
theorem Pe{B:Hp}(h:B a=aa (.dK ep kvs))(r:Abr K B kds kvs)(hl:(kds.all λkd=>cF kd.1)=af):gx K B (DH a ep kvs.length) (kds.map λkd=>.tuple [kd.1,kd.2]):=λi H2 x2=>by
 have h2:=x2 _ _ h;refine⟨λd hd=>?_,λe=>⟨kvs,h2,rfl,by rw[<-e,cD,r.length];exact bJ _⟩⟩
 rw[gJ] at hd;obtain⟨kd,hk,rfl⟩:=mJ.1 hd;obtain⟨kv,g1,g2,g3⟩:=HP r hk;refine⟨⟨kvs,kv,h2,rfl,g1⟩,?_⟩;rintro x H3 ⟨T,d8,fr,rfl,hx,rfl⟩;have:d8=kv:=fH ((hx kvs h2).symm.trans g1);subst this;have ext:Ext H2 (upd H2 T (.tup [kV d8.1,d8.2])):=λb u e=>by rw[bP (gQ e fr)];exact e
 refine⟨ext,λP2 qz xb=>?_⟩
 have nT:¬ P2 T:=λq=>by
  rcases qz T q with⟨o,e⟩|⟨o,e⟩<;>rw[fr] at e<;>cases e
 have gT:hid (upd H2 T (.tup [kV d8.1,d8.2])) P2 T=aa (.tup [kV d8.1,d8.2]):=dS nT cN;have xx:Ext B (hid (upd H2 T (.tup [kV d8.1,d8.2])) P2):=xb.trans (cG ext);have wS:=fV.1 hl kd (fC hk);refine Aar.2 ⟨T,_,rfl,gT,Aaf.2 ⟨_,_,rfl,?_,Aaf.2 ⟨_,_,rfl,g3.ext xx,Aaj.2 rfl⟩⟩⟩;rw[g2];exact GM (by rw[<-g2];exact wS)
theorem Vv(h:DE X l f)(dh:vG l "items" X.env (bZ l X.env)=bZ l X.env:=by rfl)(dl:(ao.endLine==pos.line)=af:=by rfl):DI X (.Tuple es cx gq) (.Call (.Attribute l "items" ao) [] [] pos) (sy f):=PI.imp (RU h dh dl) λZ H R gh=>by
 obtain⟨P,Y,ds,hP,rs,ef,k⟩:=gh;obtain⟨d,e1,ef⟩:=aj ef;cases d with
 |dict kds=>
  obtain⟨hl,rfl⟩:=cH ef;refine⟨P,Y,_,hP,rs,e1,dP λv H1 x1 r1=>?_⟩
  obtain⟨pk,hl⟩:=iM.1 hl;obtain⟨a,kvs,rfl,hq,rr⟩:=(mY pk).1 r1;exact⟨a,kvs.1,kvs.2,rfl,Aap _ _ hq,k _ H1 x1 (Pe hq rr hl)⟩
 |_=>cases ef
end
def rH (t:BF):List (aA×aA)->Option (List (aA×aA))
 |[]=>aa []
 |kd::r=>(t [aa kd.1,aa kd.2]).bind λb=>(rH t r).bind λr'=>aa (if b=af then kd::r' else r')
open Classical in
def BZ (i:Nat)(t:BF):SF:=λY=>(jK i Y).bind λkds=>if (kds.map (·.1)).Nodup/\(kds.all λkd=>cF kd.1)=af/\kds.length<=sizeLine then(rH t kds).bind λr=>aa (.rt (.dict r)) else ae
theorem WI {α β γ:Type}{R:α->β->γ->Prop}{a:α}{b:β}{c:γ}(h:R a b c):∀ {as:List α} {bs:List β} {cs:List γ},All3 R as bs cs->All3 R (as++[a]) (bs++[b]) (cs++[c])
 |_,_,_,.nil=>.cons h .nil
 |_,_,_,.cons h' t=>.cons h' (WI h t)
theorem Bf {α β γ:Type}{R:α->β->γ->Prop}:∀ {as:List α} {bs:List β} {cs:List γ} {i:Nat},All3 R as bs cs->i<bs.length->∃ a b c,as.drop i=a::as.drop (i+1)/\bs[i]?=aa b/\cs.drop i=c::cs.drop (i+1)/\R a b c
 |_,_,_,i,.nil,h=>by simp at h
 |_,_,_,0,.cons h _,_=>⟨_,_,_,rfl,rfl,rfl,h⟩
 |_,_,_,i+1,.cons _ t,h=>by simpa using Bf t (by simpa using h)
theorem AZ {α:Type}:∀ {a b:List (List α)},a.Sublist b->a.flatten.Sublist b.flatten
 |_,_,.slnil=>.slnil
 |_,_,.cons x h=>(AZ h).trans (List.sublist_append_right _ _)
 |_,_,.cons₂ x h=>(MI x).append (AZ h)
theorem XO {α β:Type}{R:α->β->Prop}{a:α}{b:β}(h:R a b):∀ {as:List α} {bs:List β},dM R as bs->dM R (as++[a]) (bs++[b])
 |_,_,.nil=>.cons h .nil
 |_,_,.cons h' t=>.cons h' (XO h t)
theorem Au{B:Hp}:∀ {dk:List (aA×aA)} {dv:List (aG×V)} {df:List (List aC)},All3 (R1 K B H m) dk dv df->dk.map (·.1)=(dv.map (·.1)).map kD
 |_,_,_,.nil=>rfl
 |_,_,_,.cons h t=>by simp only[cY,h.1,Au t]
theorem VM {t:BF}:∀ {kds r:List (aA×aA)},rH t kds=aa r->r.Sublist kds
 |[],r,h=>by cases h;exact .slnil
 |kd::kds,r,h=>by
  obtain⟨b,_,h⟩:=aj h;obtain⟨r',e,h⟩:=aj h;cases h;have:=VM e;cases b with
  |true=>exact this.cons₂ _
  |false=>exact this.cons _
section
variable {dn:aE}{ip dp:bH}{N:List aE}{t:BF}{k2:Nat}{p6:bH}
theorem Mr (i:Nat)(hc:X.calm=af)(S:CompScope X N [ae,ae] sc)(hb:Block X N sc (.Tuple es k2 p6) c8 cy (NP X.K 2 (EI (xY 0) (EI (xY 1) NC))) (i6 X.K t) (NH (vY (vQ 0) (vY (vQ 1) EE))))(hg:Gl X dn)(hm:X.mg dn=ae)(G1:lC dn=aa (.type "dict"))(hN:Nm X i x:=by exact fM)(dh:vG (.Name x px) "items" X.env (bZ (.Name x px) X.env)=bZ (.Name x px) X.env:=by rfl)(dl:(ap.endLine==ip.line)=af:=by rfl)(hn:dn ≠ "__name__":=by decide)(gn:(dn==("__debug__" : aE))=ag:=by decide)
  (he:cC [.ListComp c8 [⟨.Tuple es k2 p6,.Call (.Attribute (.Name x px) "items" ap) [] [] ip,cy,0⟩] sc cp] X.env=(ag,bZ (.ListComp c8 [⟨.Tuple es k2 p6,.Call (.Attribute (.Name x px) "items" ap) [] [] ip,cy,0⟩] sc cp) X.env)::cC [] X.env:=by rfl)
  (fu:(jG au (cC [] X.env)).any (·.1)=ag:=by rfl) (hs:∀ z,kP (.Call (.Attribute (.Name x px) "items" ap) [] [] ip) X.env z=pure z:=by intro _;rfl) :
  DS X H0 P0 2 (.Return (aa (.Call (.Name dn dp) [.ListComp c8 [⟨.Tuple es k2 p6,.Call (.Attribute (.Name x px) "items" ap) [] [] ip,cy,0⟩] sc cp] [] au)) pos) (BZ i t):=by
 refine PS.imp (rQ (xM (JB hc) hg hm G1 (eN (JW hc S (RU (hN.pe) dh dl) hb hs) gY he) hn gn he fu)) λD Z H gh=>?_
 rw[4];obtain⟨kds,e,ef⟩:=aj ef;obtain⟨⟨nk,wS,lz⟩,ef⟩:=xA ef;obtain⟨kept,ek,ef⟩:=aj ef;cases ef;obtain⟨p,ep,xs,Fs,h1,h2,h3,h4⟩:=S.dic2 (jD e);have len:=xI h4;have nd:=S.nd i;rw[h3,gC] at nd;have ph:∀ {df:List (List aC)},df.Sublist Fs->∀ a∈df.flatten,a∈fp i:=λs a m=>by rw[h3];exact bM _ ((AZ s).subset m)
 refine⟨.ref p,h1,p,ep,xs,rfl,h2,λA hA=>⟨λj m ys Z' H'=>m=xs.length-j/\j<=xs.length/\H' A=aa (.lst ys)/\Ext H H'/\Z'.length=2/\ys.length<=j/\∃ dk dv df rest,All3 (R1 X.K (hid H (Hd P0 fp)) H) dk dv df/\dM (λy (q:aG×V)=>∃ b,y=V.ref b/\H' b=aa (.tup [kV q.1,q.2])) ys dv/\rH t (kds.drop j)=aa rest/\kept=dk++rest/\(df++Fs.drop j).Sublist Fs,
  ⟨xs.length,by simp,eA _,cN,Ext.new hA,rfl,bJ _,[],[],[],kept,.nil,.nil,ek,rfl,MI _⟩,?_⟩⟩
 rintro j m ys Z' H' ⟨rfl,hj,hD,x2,ls,ly,dk,dv,df,rest,a3,pr,er,rfl,sub⟩;refine⟨hD,?_⟩;by_cases br:j<xs.length
 .obtain⟨kd,kv,f,d1,d2,d3,hR⟩:=Bf h4 br;rw[d1] at er;rw[d3] at sub;obtain⟨b,eb,er⟩:=aj er;obtain⟨r',zo,er⟩:=aj er;cases er;refine .inr ⟨⟨xs,kv,x2 _ _ h2,rfl,d2⟩,(),λzs Z2 H2=>j+1<=xs.length/\H2 A=aa (.lst zs)/\Ext H H2/\Z2.length=2/\zs.length<=j+1/\∃ zp zq zr l7,All3 (R1 X.K (hid H (Hd P0 fp)) H) zp zq zr/\dM (λy (q:aG×V)=>∃ b,y=V.ref b/\H2 b=aa (.tup [kV q.1,q.2])) zs zq/\rH t (kds.drop (j+1))=aa l7/\dk++(if b=af then kd::r' else r')=zp++l7/\(zr++Fs.drop (j+1)).Sublist Fs,λzs Z2 H2 h=>⟨xs.length-(j+1),(),rfl,h⟩,?_⟩
  rintro y H2 ⟨T,d8,fr,rfl,hx,rfl⟩;have:=fH ((hx xs (x2 _ _ h2)).symm.trans d2);subst this;have x3:Ext H' (upd H' T (.tup [kV d8.1,d8.2])):=Ext.new fr;refine⟨T,[kV d8.1,d8.2],rfl,SqT.of cN,rfl,_,_,rfl,_,_,rfl,rfl,P0,[aa kd.1,aa kd.2],b,S.hd.ext (S.ext.trans (x2.trans x3)),λq d' e'=>?_,eb,λH4 x4=>?_⟩
  .match q,e' with
   |0,e'=>
    cases e';refine⟨kV d8.1,by rw[iO nofun,iW ()],?_⟩
    have lk:=fV.1 wS kd (Cs (by rw[d1];exact bO))
    rw[hR.1] at lk ⊢;exact GM lk
   |1,e'=>
    cases e';refine⟨d8.2,by rw[iW (by rw[MA];lia)],?_⟩
    refine(hR.2.share (fY λa p=>.inl p) λa m o e=>dS (S.np (ph (MI _) a (fI.2 ⟨f,Cs (by rw[d3];exact bO),m⟩))) e).ext (cG (x2.trans x3))
  .have l8:∀ {H5:Hp},(∀ c zs,H' c=aa (.tup zs)->H5 c=aa (.tup zs))->dM (λy (q:aG×V)=>∃ b,y=V.ref b/\H5 b=aa (.tup [kV q.1,q.2])) ys dv:=λh=>Paired.imp' (λy q ⟨b,e1,e2⟩=>⟨b,e1,h _ _ e2⟩) pr
   cases b with
   |false=>exact lO ⟨br,x4 _ _ (x3 _ _ hD),x2.trans (x3.trans x4),by simpa using ls,(),dk,dv,df,r',a3,l8 λc zs e=>x4 _ _ (x3 _ _ e),zo,rfl,(List.Sublist.append_left (List.sublist_cons_self _ _) _).trans sub⟩
   |true=>
    refine lL ⟨kV d8.1,by rw[iO nofun,iW ()],d8.2,by rw[iW (by rw[MA];lia)],by show 2<=sizeLine;decide,λp5 wT=>?_⟩
    have nA:A≠p5:=λz=>by
     have:=x4 _ _ (x3 _ _ hD);rw[z,wT] at this;cases this
    refine⟨by rw[bP nA];exact x4 _ _ (x3 _ _ hD),br,cN,λc o e=>?_,by simpa using ls,by simp;lia,dk++[kd],dv++[d8],df++[f],r',WI hR a3,?_,zo,by simp,by simpa using sub⟩
    .have nc:c≠A:=λz=>by rw[z,hA] at e;cases e
     have e4:=x4 _ _ (x3 _ _ (x2 _ _ e));rw[bP nc,bP (gQ e4 wT)];exact e4
    .have up:∀ c zs,H4 c=aa (.tup zs)->upd (upd H4 p5 (.tup [kV d8.1,d8.2])) A (.lst (ys++[.ref p5])) c=aa (.tup zs):=λc zs e=>by
      have nc:c≠A:=λz=>by
       rw[z,x4 _ _ (x3 _ _ hD)] at e;cases e
      rw[bP nc,bP (gQ e wT)];exact e
     exact XO ⟨p5,rfl,by rw[bP (jI nA)];exact cN⟩ (l8 λc zs e=>up c zs (x4 _ _ (x3 _ _ e)))
 .have ej:j=xs.length:=()
  subst ej;rw[List.drop_of_length_le ()] at er
  cases er;refine .inl ⟨⟨xs,x2 _ _ h2,rfl,bJ _⟩,A,ys,dv,rfl,SqL.of hD,Paired.imp' (λy q ⟨b,e1,e2⟩=>⟨b,e1,SqT.of e2⟩) pr,λq n hq=>?_⟩
  rw[jJ] at k ek;have sub:=(List.sublist_append_left _ _).trans sub;have nv:(dv.map (·.1)).Nodup:=by
   have n1:=nk.sublist ((VM ek).map _);rw[Au a3] at n1;exact List.Pairwise.of_map kD (λa b h z=>h (by rw[z])) n1
  rw[UN dv [] (by simpa using nv),List.nil_append]
  have w6:=x2.none hq;have nq:∀ a∈df.flatten,a≠q:=λa m z=>by
   rcases(S.own i a (ph sub a m)).2 with⟨_,e⟩|⟨qq,e⟩<;>rw[z,w6] at e<;>first|cases e|(cases qq<;>simp[dO] at e)
  refine k _ _ ⟨q::df.flatten,S.ext.trans (x2.trans (Ext.new hq)),gC.2 ⟨λm=>nq q m rfl,nd.2.sublist (AZ sub)⟩,λa m=>?_,q,(n,dv),df,rfl,cN,rfl,a3.imp λa b f mf r=>⟨r.1,r.2.keep (λb o e=>?_) λa ma=>?_⟩⟩
  .rcases cV.1 m with rfl|m
   .exact⟨S.ext.none w6,_,cN⟩
   .obtain⟨o,eo⟩:∃ o,H a=aa o:=by
     rcases(S.own i a (ph sub a m)).2 with⟨_,e⟩|⟨_,e⟩<;>exact⟨_,e⟩
    exact⟨(S.own i a (ph sub a m)).1,o,by rw[bP (nq a m)];exact x2 _ _ eo⟩
  .obtain⟨nb,e⟩:=Abb.1 e;refine dS (λz=>?_) (Ext.new hq _ _ (x2 _ _ e))
   rcases z with z|z
   .exact nb (.inl z)
   .rcases cV.1 z with rfl|z
    .rw[w6] at e;cases e
    .exact nb (.inr ⟨i,ph sub _ z⟩)
  .have m:=fI.2 ⟨f,mf,ma⟩;obtain⟨o,eo⟩:∃ o,H a=aa o:=by
    rcases(S.own i a (ph sub a m)).2 with⟨_,e⟩|⟨_,e⟩<;>exact⟨_,e⟩
   rw[bP (nq a m),eo,x2 _ _ eo]
end
open PySem PySem.W PySem.Calls PyProof.Rows Att
def wM (ns:List Int):Prop:=∀ x∈ns,lH x<=1048576
theorem weigh:∀ {ns:List Int} {x:Int},x∈ns->lH x<=WData.weightAll (ns.map WData.int)
 |n::ns,x,m=>by
  rw[cY,WData.weightAll];have e:WData.weight (.int n)=lH n:=by
   rw[WData.weight]
   rfl
  rcases cV.1 m with rfl|m
  .rw[e];lia
  .have:=weigh m
   lia
theorem Xr {ns:List Int}(h:WData.layableAll [WData.list (ns.map WData.int)]=af):wM ns:=λx m=>by
 have h1:WData.layable (.list (ns.map .int))=af:=by simpa [WData.layableAll] using h
 have h2:=of_decide_eq_true (iM.1 h1).2;rw[WData.weight] at h2;have:=weigh m
 lia
theorem Sa {l:OpenLaw}{q:bN}{fw:List aE}{XP:(aE->Option aF)->aU->Prop}{YP:bD->aU->Prop}{d:DefRec}
  (hn:l.most=aa n) (sh:d.params.defaults=[])
  (call:∀ (w:bD) (s₀ s₁:aI) (mg mb:aE->Option aF) (fa:aC) (o:bI) (pm cd gi:aF) (a:aC) (vs:List aF) (ns:List Int),
   wM ns->Ground q fw [] XP w s₀ mg mb s₁.heap->YP w s₁.heap ->
   s₁.heap.get? fa=aa o->o.data=.func (docDef d.name d.params d.body d.scope pm cd gi)->s₁.heap.CodeRec cd d.name->mg d.name=aa (.ref fa) ->
   s₁.heap.get? a=aa { cls:=.type "list",data:=.seq vs.toArray }->IntsAre vs ns->ns.length<=n->s₁.gens = #[] ->
   nL (aX l.prog w) vF (.call (.ref fa) ⟨[.ref a],[]⟩) (λr s'=>r=.ok (.ret (.bool af))/\OldK s₁.heap s'.heap/\s'.os=s₁.os/\qT s'.gens) s₁) :
  WalkO q fw XP YP l.row.toRowW d [] (λf vs=>PySem.call f vs):=by
 intro w s₀ s₁ mg mb G ab fa o pm cd gi dV kV ho hd ju hD sk hg args ng as ff w9 hrd vi hlo;obtain rfl:dV=.none:=Dflts.none hD sh;obtain rfl:kV=.none:=Dflts.noKw hD;obtain⟨a,vs,ns,rfl,rfl,om,j3,bh⟩:=Nu hn ff vi;refine enter_call (codeAny_mono (call w s₀ s₁ mg mb fa o pm cd gi a vs ns (Xr w9) G ab ho (fd_plain hd) ju sk om j3 bh hg) λr s' hq=>?_)
 obtain⟨rfl,h2,h3,h4⟩:=hq;exact⟨.inl ⟨.bool af,.bool af,[],rfl,λ_=>rfl,.bool af,Ni l _,λ_=>⟨List.Pairwise.nil,λ_ hm=>(nomatch hm)⟩⟩,h2,h3,h4⟩
theorem A2y {l:PySem.W.OpenLaw}{k:Nat}{q:bN}{fw:List aE}{XP:(aE->Option aF)->aU->Prop}{YP:bD->aU->Prop}{d:DefRec}{K:Params->aK}{CX:bD->jm}{sp:bD->Sp}
  (hn:l.most=aa n) (G2:n<=sizeLine) (sh:d.params.defaults=[]) (hr:Room k vF)
  (hY:∀ (w:bD) (h:aU),YP w h->(K w.params).In h)
  (F:∀ (w:bD) (mg:aE->Option aF) (fa:aC) (h:aU),(K w.params).In h->h.Ns jF mg->mg d.name=aa (.ref fa) ->
   ∃ fd:kC,(∀ (s:aI) (u:aF),BindsTo s fd ⟨[u],[]⟩ [(x,u)]) /\
    ∀ base:aU,(K w.params).In base->base.Ns jF mg->FnOk l.prog w (K w.params) mg base (CX w) k fa fd [x] (sp w))
  (lu:∀ (w:bD) (H:Hp) (a:aC) (ns:List Int),wM ns->ns.length<=n->Only H->SqL (K w.params) H a (ns.map V.int)->sp w [.ref a] H (λv _=>v=.bl af) λ_ _ _=>False)
  (vk:∀ (w:bD) (H:Hp) (s:aI) (e:aF) (s':aI),CX w [] H s (λ_ _ _=>False) e s'->False) :
  PySem.W.WalkO q fw XP YP l.row.toRowW d [] (λf vs=>PySem.call f vs):=by
 refine Sa hn sh λw s₀ s₁ mg mb fa o pm cd gi a vs ns hB G ab ho hd ju sk om j3 bh hg=>?_
 have KX:=hY w _ ab;obtain⟨fd,hb,hF⟩:=F w mg fa _ KX G.T.g sk;exact Xh KX G.T.g G.T.b G.T.builtins G.T.nolimit hg om j3 (cM bh G2) hr hF hb (λH hO hS=>lu w H a ns hB bh hO hS) λH e s'=>vk w H s₁ e s'
def mO:aA->aA->Option aA:=kh (λi j=>(i.natAbs<2^64\/j.natAbs<2^64)\/lH i+lH j<=134217728) λi j=>.int (i*j)
section
variable {a b:aQ}{fa fb:EF}
theorem Mo:OpR X (jQ .Mult) (rI (λi j=>(i.natAbs<2^64\/j.natAbs<2^64)\/lH i+lH j<=134217728) λi j=>.int (i*j)):=by
 intro ad s Z H x y v u Q I rx ry ⟨i,j,ex,ey,hc,q⟩;rcases hc with hc|hc
 .exact VO ad s Z H x y v u Q I rx ry ⟨i,j,ex,ey,.inl hc,q⟩
 .exact p7 (λi j _ _ _ _ _ hc q=>mul_int q (Yv (bJ _) (bJ _) hc)) ad s Z H x y v u Q I rx ry ⟨i,j,ex,ey,hc,q⟩
theorem Lb (ha:DE X a fa)(hb:DE X b fb):DE X (.BinOp a .Mult b pos) (ah mO fa fb):=nZ Mo (vZ (λ_ _ h=>h) λ_ _ _=>Aal.2 rfl) ha hb
end
def Et:V->List V->Hp->VK->Prop:=λx vs H Q=>∃ d b ep uj kvs more,x=.ref d/\vs=[.ref b]/\H d=aa (.dK ep kvs)/\H b=aa (.dK uj more)/\d≠b/\kvs.length+more.length<=sizeLine/\∀ n,Q .non (upd H d (.dK n (kZ kvs more)))
theorem Pl:su X "dict.update" Et:=by
 intro ad s Z H x vs v us Q I rx rv h;obtain⟨d,b,ep,uj,kvs,more,rfl,rfl,e,e2,ne,l,q⟩:=h;cases rx;obtain⟨u,rfl,ru⟩:=rv.one;cases ru;obtain⟨z,hd,ws,cc,dd⟩:=pP I.hok e;obtain⟨z2,ji,G3,sn,lv⟩:=pP I.hok e2;have l1:=nP cc;have l2:=nP sn;refine LF Yt dd.typeIs PySem.F.entry_dict_update (PySem.F.args_dict_update_2 _ _) (meets_dict_update (fF X.prog X.w) d b ne ji) ⟨ws,G3,dd,lv,(),λh' jh _ sb=>?_⟩
 have hl:(kZ kvs more).length<=sizeLine:=by have:=JK more kvs;lia
 have he:∃ q,h'.get? d=aa q:=let ⟨q,_,_,hq,_⟩:=jh;⟨q,hq⟩;obtain⟨n,da⟩:=jh.dictAt;exact⟨.non,_,AM I (by rw[e];exact nN) sb he (wI hl hd (sn.merge cc) da),rfl,q n⟩
def lQ:List (aA×aA)->Option (List (aG×aA))
 |[]=>aa []
 |p::r=>(bK p.1).bind λk=>(lQ r).bind λps=>aa ((k,p.2)::ps)
theorem Vi:∀ {es:List (aA×aA)} {ps:List (aG×aA)} {qs:List (aG×V)},lQ es=aa ps->Abr K H es qs->dM (λ(p:aG×aA) (q:aG×V)=>p.1=q.1/\Abj K H p.2 q.2) ps qs:=by
 intro es;induction es with
 |nil=>
  intro ps qs e r;cases e;rw[Abn.1 r];exact .nil
 |cons p es ih=>
  intro ps qs e r;obtain⟨k,e1,e⟩:=aj (show((bK p.1).bind λk=>(lQ es).bind λps=>aa ((k,p.2)::ps))=aa ps from e)
  obtain⟨zh,e2,e⟩:=aj e;cases e;obtain⟨p1,p2⟩:=p;obtain⟨k',v,t,rfl,r1,r2,r3⟩:=Aa6.1 r;refine .cons ⟨?_,r2⟩ (ih e2 r3);have:=qI e1;simp only at this r1;rw[r1] at this;cases k<;>cases k'<;>simp_all[kD]
def oW (i:Nat)(m:Md)(f:EF):SF:=λY=>(eV 0 m f Y).bind λd=>(kT i Y).bind λkds=>match d with
 |.dict es=>(lQ es).bind λps=>if cv es=af/\kds.length+es.length<=sizeLine then aa (.nx (Y.set i (aa (1,.dict (jB ps kds))))) else ae
 |_=>ae
theorem Sta.dic1_out{Z:St}{ds:List (aA×aA)}{p b:aC}{o:HO}(S:Sta K H0 P0 B0 Y Z H fp)(e:Y[i]?=aa (aa (1,.dict ds)))(h:Z[i]?=aa (aa (.ref p)))(hb:L2.hid H (Hd P0 fp) b=aa o):p≠b:=by
 obtain⟨v,h1,h2⟩:=S.slot i 1 _ e;obtain⟨p',xs,Fs,rfl,hp,hF,h3⟩:=h2;have:p'=p:=by rw[h] at h1;cases h1;rfl
 subst this;intro z;subst z;exact(Abb.1 hb).1 (.inr ⟨i,by rw[hF];exact bO⟩)
theorem UU (i:Nat)(m:Md)(he:DE X e f)(hN:Nm X i x:=by exact fM)(q5:Bm X (.Name x px) e [] "update" ao au:=by exact⟨rfl,rfl,rfl,rfl,rfl⟩)
  (fg:iG (.Call (.Attribute (.Name x px) "update" ao) [e] [] au) ae pos.line X.env=pure ag:=by rfl):DS X H0 P0 n0 (.Expr (.Call (.Attribute (.Name x px) "update" ao) [e] [] au) pos) (oW i m f):=
 PS.imp (pX (mP CJ Yt PySem.F.type_dict_update Pl (hN.pe) (eN (ev m he) gY q5.s) q5) fg) λD Z H gh=>by
  rw[4];obtain⟨d,e1,bq⟩:=aj ef;obtain⟨kds,e2,bi⟩:=aj bq;clear ef bq;cases d with
  |dict es=>
   obtain⟨ps,e3,b9⟩:=aj (show((lQ es).bind λps=>if cv es=af/\kds.length+es.length<=sizeLine then aa (Out.nx (Y.set i (aa (1,.dict (jB ps kds))))) else ae)=aa o from bi)
   obtain⟨⟨hp,hl⟩,rfl⟩:=cH b9;obtain⟨p,ep,xs,h1,h2,_,_⟩:=S.dic1 (oP e2);refine⟨.ref p,h1,.inr (.inr (.inl ⟨rfl,.inl ⟨ep,xs,h2⟩⟩)),B0,Y,fp,_,S,e1,λv H2 gh=>?_⟩
   obtain⟨b7,S2,r2⟩:=gh;obtain⟨p2,uj,t8,q1,q2,q3,q4⟩:=S2.dic1 (oP e2);have:p2=p:=by rw[h1] at q1;cases q1;rfl
   subst this;obtain⟨b,kvs,rfl,hb,rr⟩:=(mY hp).1 r2.2;exact⟨p2,b,uj,kvs.1,t8,kvs.2,rfl,rfl,q2,(Abb.1 hb).2,S2.dic1_out (oP e2) q1 hb,by rw[q3.length,rr.length];exact hl,λn=>k _ _ b7 (q4 n _ _ (UD (Vi e3 rr) q3))⟩
  |_=>cases bi
section
variable {P:bN}
abbrev Fy (h:aU)(z TI TO:aC)(T:Nat)(c:Bool):Prop:=
 h.get? z=aa { cls:=.type "zip",dict:=ae,data:=.fields #[gR T,.bool c,.bool ag,.ref TI,.ref TO],slots:=#[] }
variable {C TI TO:aC}{xs ys:Array aF}{k T:Nat}{c:Bool}
def xq (D z TI TO i1 i2:aC)(S1 S2:Nat->aU->Prop)(k:Nat)(h:aU):Prop:=
 (∃ T c,Fy h z TI TO T c/\(∃ o,h.get? T=aa o)/\T≠z/\T≠i1/\T≠i2/\T≠D)/\mN h TI (.ref i1) (.ref i2)/\S1 k h/\S2 k h
def Bi4 (C z TI TO i1 i2:aC)(S1 S2:Nat->aU->Prop)(k:Nat)(h:aU):Prop:=kf z TI TO i1 i2 S1 S2 .none k h\/xq C z TI TO i1 i2 S1 S2 k h
end
section
variable {TI TO:aC}{xs ys:Array aF}
theorem Bi4.keep {P:bN}{k:Nat}(U:Sub P w i1 o1 S1 xs)(V:Sub P w i2 o2 S2 ys)(nz:D≠z)(nI:D≠TI)(n1:D∉o1)(n2:D∉o2)(st:xq D z TI TO i1 i2 S1 S2 k h)(kp:∀ c o,c≠D->h.get? c=aa o->h'.get? c=aa o):xq D z TI TO i1 i2 S1 S2 k h':=by
 obtain⟨⟨T,c,gz,⟨oT,gT⟩,T1,T2,T3,T4⟩,gI,ku,jv⟩:=st;exact⟨⟨T,c,kp _ _ nz.symm gz,⟨oT,kp _ _ T4 gT⟩,T1,T2,T3,T4⟩,kp _ _ nI.symm gI,U.keep _ _ _ ku λc hc o g=>kp _ _ (λe=>n1 (e ▸ hc)) g,V.keep _ _ _ jv λc hc o g=>kp _ _ (λe=>n2 (e ▸ hc)) g⟩
end
def pz (x:aE)(XN:List aE)(cap:List (Option Nat)):List aE:=cap.map fun
 |none=>x
 |some j=>XN.getD j x
structure Sx (out:List (aE×kA))(XN:List aE):Prop
theorem EY{az:aQ}{fi:AF}{t:BF}{out:List (aE×kA)}{XN:List aE}(_:Sx out XN)(hi:DI X (.Name x px) az fi)(ht:∀ cl C s₀ H₀ ex,qM (fE X (pz x XN cap) sc cl C s₀ H₀ ex) cy (i6 X.K t))(hb:∀ cl C s₀ H₀ ex,DE (fE X (pz x XN cap) sc cl C s₀ H₀ ex) c8 f)(h1:X.env.scope.names=out:=by rfl)(h2:X.N=XN:=by rfl)(hc:X.calm=af:=by rfl)
  (ox:FV out XN (pz x XN cap) cap sc.names=af:=by rw[0]) (hk:sc.kind=.function:=by rfl) (nd:(pz x XN cap).Nodup:=by rw[0]) (h0:(pz x XN cap)[0]?=aa x:=by rfl) (hx:∀ cl C s₀ H₀ ex,(fE X (pz x XN cap) sc cl C s₀ H₀ ex).env.scope.names.lookup x=aa .local:=by intros;rfl) (hs:∀ x,kP az X.env x=pure x:=by intro _;rfl) :
  DF 1 X (.ListComp c8 [⟨.Name x px,az,cy,0⟩] sc pos) (bw cap fi (gB 0) t f):=
 NW hc (qJ h1 h2 ox hk) pW hi (λcl C s₀ H₀ ex=>⟨uR nd h0 (.inl (hx cl C s₀ H₀ ex)) (.inr (hx cl C s₀ H₀ ex)),ht cl C s₀ H₀ ex,hb cl C s₀ H₀ ex⟩) hs
theorem Acd.length:∀ {kds:List (aA×aA)} {ts:List (List aA×V)},Acd K H kds ts->ts.length=kds.length
 |[],ts,h=>by rw[Ac8.1 h];rfl
 |(k,d)::r,ts,h=>by
  obtain⟨k',x,rr,rfl,_,_,h2⟩:=Ab3.1 h;simp[Acd.length h2]
def tj (F G:SF):SF:=λY=>(F Y).or (G Y)
theorem Ft{st:dU}{G:SF}(h1:DS X H0 P0 n0 st F)(h2:DS X H0 P0 n0 st G):DS X H0 P0 n0 st (tj F G):=λad s Z H D I gh=>by
 rw[4];have ef:(F Y).or (G Y)=aa o:=ef;cases e:F Y with
 |some o'=>rw[e] at ef;cases ef;exact h1 ad s Z H D I ⟨B0,Y,fp,_,S,e,k⟩
 |none=>rw[e] at ef;exact h2 ad s Z H D I ⟨B0,Y,fp,o,S,by simpa using ef,k⟩
theorem All3.snoc {α β γ:Type}{R:α->β->γ->Prop}{a:α}{b:β}{c:γ}(h:R a b c):∀ {as:List α} {bs:List β} {cs:List γ},All3 R as bs cs->All3 R (as++[a]) (bs++[b]) (cs++[c])
 |_,_,_,.nil=>.cons h .nil
 |_,_,_,.cons h1 t=>.cons h1 (All3.snoc h t)
theorem QE{B:Hp}(hn:n<9):Aej K B H n=Ac6 K B H n:=by
 funext d v F;unfold Aej;rw[if_neg (),if_neg ()]
section
variable {N:List aE}{az c:aQ}{fi:AF}{T:aA->List (Option aA)->Option (List (Option aA))}{t:BF}
theorem A5{P:aC->Prop}{Y:List (Option aA)}{all:List aA}{J:It}{H1:Hp}{Z:St}{Q:VK}(hn:n<8)(hT:mw T)(hP:Hid P H1)(rs:Ait K (hid H1 P) Y Z)(it:gx K (hid H1 P) J ds)(e2:gg T t f (fK cap Y) ds=aa all)(hz:ds.length<=sizeLine)
  (k:Res K P (n+1) (.list all) H1 Q):DU cap J (o4 K T) (i6 K t) (tF K n f) Z H1 Q:=λA hA=>by
 have C7:¬ P A:=hP.new hA;have ia:∀ {H':Hp} {ys:List V} {G:List aC},hid (upd H' A (.lst ys)) (bo P (A::G))=hid H' (bo P (A::G)):=λ{H' ys G}=>by
  funext b;unfold hid;by_cases hb:bo P (A::G) b
  .rw[if_pos hb,if_pos hb]
  .rw[if_neg hb,if_neg hb];exact bP (λz=>hb (.inr (by simp[z])))
 refine⟨λi m ys Z' H'=>m=ds.length-i/\i<=ds.length/\H' A=aa (.lst ys)/\Ext H1 H'/\ys.length<=i/\∃ Fs:List (List aC),Fs.flatten.Nodup/\(∀ a∈Fs.flatten,H1 a=ae/\a≠A)/\Ext (hid H1 P) (hid H' (bo P (A::Fs.flatten)))/\Ait K (hid H' (bo P (A::Fs.flatten))) (fK cap Y) Z' /\
  ∃ done rest,All3 (Ac6 K (hid H' (bo P (A::Fs.flatten))) H' n) done ys Fs/\gg T t f (fK cap Y) (ds.drop i)=aa rest/\all=done++rest,⟨ds.length,?_⟩,?_⟩
 .have xa:Ext (hid H1 P) (hid (upd H1 A (.lst [])) (bo P [A])):=λb o e=>by
   obtain⟨nb,e⟩:=Abb.1 e;have hb:=gQ e hA;exact dS (λz=>z.elim nb λm=>hb (by simpa using m)) (by rw[bP hb];exact e)
  exact⟨by simp,eA _,cN,Ext.new hA,eA _,[],.nil,λa m=>by simp at m,xa,(SQ rs).ext xa,[],all,.nil,by simpa using e2,rfl⟩
 .rintro i m ys Z' H' ⟨rfl,hi,hD,x2,hl,Fs,nd,fr,xb,vw,done,rest,rd,e3,rfl⟩;refine⟨hD,?_⟩;obtain⟨go,st⟩:=it i H' (Aap.trans x2);have dr:Hid (bo P (A::Fs.flatten)) H':=λa h=>by
   rcases h with h|h
   .exact(hP.ext x2) a h
   .rcases cV.1 h with rfl|h
    .exact .inl ⟨_,hD⟩
    .obtain⟨F,mF,ma⟩:=fI.1 h;obtain⟨d,v,r⟩:=rd.of F mF;exact r.mut a ma
  by_cases br:i<ds.length
  .have hd:=hX br;rw[MF br] at e3;obtain⟨Y1,e4,e3⟩:=aj e3;obtain⟨c,e5,e3⟩:=aj e3;obtain⟨g1,g2⟩:=go _ hd;refine .inr ⟨g1,(),λys Z' H'=>i+1<=ds.length/\H' A=aa (.lst ys)/\Ext H1 H'/\ys.length<=i+1/\∃ Fs:List (List aC),Fs.flatten.Nodup/\(∀ a∈Fs.flatten,H1 a=ae/\a≠A)/\Ext (hid H1 P) (hid H' (bo P (A::Fs.flatten)))/\Ait K (hid H' (bo P (A::Fs.flatten))) (fK cap Y) Z' /\
    ∃ d2 r2,All3 (Ac6 K (hid H' (bo P (A::Fs.flatten))) H' n) d2 ys Fs/\gg T t f (fK cap Y) (ds.drop (i+1))=aa r2/\done++rest=d2++r2,λzs Z2 H2 h=>⟨ds.length-(i+1),(),rfl,h⟩,λx H2 y=>?_⟩
   obtain⟨x3,r3⟩:=g2 x H2 y;have keep:∀ {H9:Hp},Ext H' H9->All3 (Ac6 K (hid H9 (bo P (A::Fs.flatten))) H9 n) done ys Fs:=λ{H9} x9=>rd.imp λd v F mF r=>Ac6.keep (cG x9) (λa ma=>by
    rcases dr a (.inr (bM _ (fI.2 ⟨F,mF,ma⟩))) with⟨xs,e⟩|⟨q,e⟩
    .rw[e];exact x9 _ _ e
    .rw[e];exact x9 _ _ e) r
   refine⟨bo P (A::Fs.flatten),fK cap Y,_,Y1,dr.ext x3,vw.ext (cG x3),r3 _ dr xb,e4,λZ3 ni=>?_⟩
   refine⟨bo P (A::Fs.flatten),Y1,c,dr.ext x3,ni,e5,λH4 x4=>?_⟩
   have qv:Ait K (hid H2 (bo P (A::Fs.flatten))) (fK cap Y) Z3:=λj d' e=>ni j d' (hT _ _ _ e4 j d' e)
   cases c with
   |false=>
    rw[if_neg kE] at e3;refine lO ⟨br,x4 _ _ (x3 _ _ hD),x2.trans (x3.trans x4),(),Fs,nd,fr,xb.trans (cG (x3.trans x4)),qv.ext (cG x4),done,rest,keep (x3.trans x4),e3,rfl⟩
   |true=>
    rw[if_pos rfl] at e3;obtain⟨yd,e6,e3⟩:=aj e3;obtain⟨r2,e7,e3⟩:=aj e3;cases e3;refine lL ⟨bo P (A::Fs.flatten),Y1,yd,dr.ext (x3.trans x4),ni.ext (cG x4),e6,λv H5 Fr x5 G4 zu r5=>?_⟩
    rw[QE ()] at r5
    have G5:=x5 _ _ (x4 _ _ (x3 _ _ hD));have ul:=x3.trans (x4.trans x5);have eG:bo (bo P (A::Fs.flatten)) Fr=bo P (A::(Fs++[Fr]).flatten):=by
     funext a;simp only[bo,cV,CS,iL,Dc,jJ,eM,eq_iff_iff];simp only[or_assoc]
    have pi:∀ a∈Fr,H' a=ae:=λa m=>x3.none (x4.none (zu a m).1)
    have sub:∀ {Bx:Hp},Ext Bx (hid H' (bo P (A::Fs.flatten)))->Ext Bx (hid H5 (bo P (A::(Fs++[Fr]).flatten))):=λ{Bx} xx b o e=>by
     obtain⟨nb,e⟩:=Abb.1 (xx b o e);refine dS (λz=>?_) (ul _ _ e)
     rw[<-eG] at z;rcases z with z|z
     .exact nb z
     .rw[pi b z] at e;cases e
    have xc:∀ {H9:Hp},Ext H9 H5->(∀ a∈Fr,H9 a=ae)->Ext (hid H9 (bo P (A::Fs.flatten))) (hid H5 (bo P (A::(Fs++[Fr]).flatten))):=λ{H9} x9 f9 b o e=>by
     obtain⟨nb,e⟩:=Abb.1 e;refine dS (λz=>?_) (x9 _ _ e)
     rw[<-eG] at z;rcases z with z|z
     .exact nb z
     .rw[f9 b z] at e;cases e
    refine⟨G5,br,cN,?_,by simp;lia,Fs++[Fr],?_,?_,?_,?_,done++[yd],r2,?_,e7,by simp⟩
    .intro b o e;rw[bP (gQ e hA)];exact ul _ _ (x2 _ _ e)
    .rw[CS,iL,Dc,jJ,nR];refine⟨nd,G4,λa ma b mb z=>?_⟩
     subst z;rcases dr a (.inr (bM _ ma)) with⟨xs,e⟩|⟨q,e⟩
     .rw[pi a mb] at e;cases e
     .rw[pi a mb] at e;cases e
    .intro a m;rw[CS,iL,Dc,jJ,eM] at m;rcases m with m|m
     .exact fr a m
     .refine⟨x2.none (pi a m),λz=>?_⟩
      rw[z] at m;rw[pi A m] at hD;cases hD
    .rw[ia];exact sub xb
    .rw[ia];exact qv.ext (xc (x4.trans x5) λa m=>x4.none (zu a m).1)
    .rw[ia];have kp:∀ a,a≠A->upd H5 A (.lst (ys++[v])) a=H5 a:=λa na=>bP na
     refine All3.snoc ?_ (rd.imp λd w F mF r=>Ac6.keep (sub Ext.refl) (λa ma=>?_) r)
     .rw[eG] at r5;refine Ac6.keep Ext.refl (λa ma=>kp a λz=>?_) r5
      rw[z] at ma;rw[pi A ma] at hD;cases hD
     .have mf:=fI.2 ⟨F,mF,ma⟩;rw[kp a (fr a mf).2];rcases dr a (.inr (bM _ mf)) with⟨xs,e⟩|⟨q,e⟩
      .rw[e];exact ul _ _ e
      .rw[e];exact ul _ _ e
  .have e:i=ds.length:=()
   subst e;rw[ME] at e3;cases e3;rw[jJ] at k;refine .inl ⟨st rfl,?_⟩;refine k (.ref A) H' (A::Fs.flatten) x2 (gC.2 ⟨λz=>(fr A z).2 rfl,nd⟩) (λa m=>?_) ?_
   .rcases cV.1 m with rfl|m
    .exact⟨hA,_,hD⟩
    .refine⟨(fr a m).1,?_⟩;rcases dr a (.inr (bM _ m)) with⟨xs,e⟩|⟨q,e⟩<;>exact⟨_,e⟩
   .rw[QE ()]
    exact⟨A,ys,Fs,rfl,hD,rfl,rd⟩
def Ez (n:Nat)(X:Cx)(N:List aE)(sc:gA)(tg c8:aQ)(cy:List aQ)(T:aA->List (Option aA)->Option (List (Option aA)))(t:BF)(f:EF):Prop:=
 ∀ (cl:List (aE×aC)) (C:aC) (s₀:aI) (H₀:Hp) (ex:List aC),uu (fE X N sc cl C s₀ H₀ ex) tg T/\qM (fE X N sc cl C s₀ H₀ ex) cy (i6 X.K t)/\DF n (fE X N sc cl C s₀ H₀ ex) c8 f
theorem Ji (hc:X.calm=af)(S:CompScope X N cap sc)(hT:mw T)(hi:DI X tg az fi)(hb:Ez 1 X N sc tg c8 cy T t f)(hs:∀ x,kP az X.env x=pure x:=by intro _;rfl) :
  DF 2 X (.ListComp c8 [⟨tg,az,cy,0⟩] sc pos) (bw cap fi T t f):=PE.imp (JW hc S hi (g:=o4 X.K T) (tc:=i6 X.K t) (te:=tF X.K 1 f) hb hs) λZ H Q gh=>by
 rw[5];obtain⟨ds,e1,ef⟩:=aj ef;obtain⟨all,e2,ef⟩:=aj ef;obtain⟨hz,rfl⟩:=cH ef;exact⟨P,Y,ds,hP,rs,e1,λJ H1 x1 it=>A5 nofun hT (hP.ext x1) (rs.ext (cG x1)) it e2 hz (k.mono x1)⟩
end
def ya (K:aK)(n0:Nat)(F:List aA->Option aA):Sp:=λvs H Q _=>∃ P F1 d0 d1 v0 v1 d,vs=[v0,v1]/\Hid P H/\(∀ a∈F1,¬ P a)/\F1.Nodup/\Abj K (hid H (bo P F1)) d0 v0/\Ac6 K (hid H (bo P F1)) H 2 d1 v1 F1/\F [d0,d1]=aa d/\Res K P n0 d (hid H (· ∈ F1)) Q
def uy (n:Nat)(body:SF):List aA->Option aA
 |[d0,d1]=>outD (body (aa (0,d0)::aa (2,d1)::mL (n-2) ae))
 |_=>ae
section
variable {P:bN}{mg:aE->Option aF}{base:aU}
theorem Hw {qual:aE}{st:dU}{f:aC}{fd:kC}{N ps:List aE}{k:Nat}{body:SF}(F:Fun K x qual st f fd)(S:FnScope N ps (dI st))(vx:ps.length=2)(hN:2<=N.length)
  (hb:∀ (bz:aF) (A:cE) (outer:List eQ) (s:aI) (H H0:Hp) (E:XK) (P0:aC->Prop),Room k (A.deeper (envOfC qual (dI st) s.heap.objs.size f bz))->gb (nF jc P w K mg base N qual (dI st) f bz A outer s H E).nox H0 P0 n0 (mW st) body) :
  FnOk P w K mg base jc (k+1) f fd ps (ya K n0 (uy N.length body)):=by
 refine F.ok S (λvs H Q E h=>?_) (λbz A outer s H vs Q E hr h=>?_)
 .obtain⟨P,F1,d0,d1,v0,v1,d,rfl,_⟩:=h;exact vx.symm
 .obtain⟨P0,F1,d0,d1,v0,v1,d,rfl,hP,G6,l5,r0,r1,ef,k⟩:=h;refine⟨_,hb bz A outer s H (hid H (· ∈ F1)) E P0 hr,?_⟩;have zv:Hd P0 (λi=>if i=1 then F1 else [])=bo P0 F1:=by
   funext a;simp only[Hd,bo,eq_iff_iff];constructor
   .rintro(h|⟨i,h⟩)
    .exact .inl h
    .by_cases hi:i=1
     .rw[if_pos hi] at h;exact .inr h
     .rw[if_neg hi] at h;simp at h
   .rintro(h|h)
    .exact .inl h
    .exact .inr ⟨1,by rw[if_pos rfl];exact h⟩
  have S0:Sta K (hid H (· ∈ F1)) P0 (hid H (bo P0 F1)) (aa (0,d0)::aa (2,d1)::mL (N.length-2) ae) (start N [v0,v1]) H (λi=>if i=1 then F1 else []):=by
   refine⟨by simp[start],λi=>?_,λi j a h1 h2=>?_,λi a h=>?_,Aap,λa h=>?_,by rw[zv];exact Ext.refl,λi n' d' e=>?_⟩
   .by_cases hi:i=1
    .simp only[hi,if_true];exact l5
    .simp only[hi,if_false];exact .nil
   .by_cases hi:i=1
    .by_cases hj:j=1
     .rw[hi,hj]
     .simp only[hj,if_false] at h2;simp at h2
    .simp only[hi,if_false] at h1;simp at h1
   .by_cases hi:i=1
    .simp only[hi,if_true] at h;exact⟨by unfold hid;rw[if_pos h],r1.mut a h⟩
    .simp only[hi,if_false] at h;simp at h
   .have na:a∉F1:=λz=>G6 a z h
    rcases hP a h with⟨xs,e⟩|⟨q,e⟩
    .exact .inl ⟨xs,dS na e⟩
    .exact .inr ⟨q,dS na e⟩
   .rw[zv];rcases i with _|_|i
    .have e':0=n'/\d0=d':=by simpa using e
     obtain⟨rfl,rfl⟩:=e';exact⟨v0,rfl,rfl,r0⟩
    .have e':2=n'/\d1=d':=by simpa using e
     obtain⟨rfl,rfl⟩:=e';exact⟨v1,rfl,r1⟩
    .have:=fC (show(mL (N.length-2) (ae:Slot))[i]?=aa (aa (n',d')) from e)
     simp at this
  have ef:outD (body (aa (0,d0)::aa (2,d1)::mL (N.length-2) ae))=aa d:=ef;cases eb:body (aa (0,d0)::aa (2,d1)::mL (N.length-2) ae) with
  |none=>rw[eb] at ef;cases ef
  |some o=>
   rw[eb] at ef;refine⟨_,_,_,o,S0,eb,?_⟩;cases o with
   |rt d'=>
    cases ef;exact λv H' ⟨Fr,h1,h2,h3,h4⟩=>k v H' Fr h1 h2 h3 h4
   |nx Y'=>
    cases ef;intro Z' H' bg S';refine k .non H' [] S'.ext .nil (λa m=>by simp at m) ?_
    cases n0 with
    |zero=>exact⟨rfl,Abp.2 rfl⟩
    |succ n=>
     unfold Aej;split
     .exact .inl ⟨rfl,rfl,rfl⟩
     .split
      .exact .inl ⟨rfl,rfl,rfl⟩
      .exact⟨rfl,Abp.2 rfl⟩
   |bk _=>cases ef
   |ct _=>cases ef
variable {k:Nat}{ps:List aE}{F:List aA->Option aA}{e0 e1:aQ}{f0 f1:EF}{p:bH}
theorem Uc (D:Def X.prog X.w X.K X.mg X.base x k ps (ya X.K n0 F))(hr:Room k X.A)(hg:Gl X x)(h0:DE X e0 f0)(h1:DF 2 X e1 f1)(gn:(x==("__debug__" : aE))=ag:=by decide)(nn:cC (e1::[]) X.env=(ag,bZ e1 X.env)::cC [] X.env:=by rfl)(he:cC (e0::[e1]) X.env=(ag,bZ e0 X.env)::cC [e1] X.env:=by rfl)
  (fu:(jG pos (cC [e1] X.env)).any (·.1)=ag:=by rfl):DF n0 X (.Call (.Name x p) [e0,e1] [] pos) (aM F (aD f0 (aD f1 aH))):=
 PE.imp (ZU D hr hg (eN h0 (eN h1 gY nn) he) gn he fu) λZ H Q gh=>by
  rw[5];obtain⟨ds,e1,ef⟩:=aj ef;obtain⟨d0,g0,e1⟩:=aj e1;obtain⟨dt,g1,e1⟩:=aj e1;cases e1;obtain⟨d1,g3,e2⟩:=aj g1;obtain⟨dn,g2,e2⟩:=aj e2;cases g2;cases e2;refine⟨P,Y,d0,hP,rs,g0,dP λv0 H1 x1 r0=>⟨P,Y,d1,hP.ext x1,rs.ext (cG x1),g3,λv1 H2 F1 x2 nd fr r1=>?_⟩⟩
  refine⟨P,F1,d0,d1,v0,v1,d,rfl,(hP.ext x1).ext x2,λa m=>(hP.ext x1).new (fr a m).1,nd,r0.ext λb o e=>?_,r1,ef,k.mono λb o e=>?_⟩
  .obtain⟨nb,e⟩:=Abb.1 e;refine dS (λz=>z.elim nb λm=>?_) (x2 _ _ e)
   rw[(fr b m).1] at e;cases e
  .refine dS (λm=>?_) (x2 _ _ (x1 _ _ e))
   have:=x1 _ _ e;rw[(fr b m).1] at this;cases this
end
def tU (i:Nat)(Y:aP):Option (List aA):=match Y[i]? with
 |some (aa (2,.list ds))=>aa ds
 |_=>ae
theorem uW(h:tU i Y=aa ds):Y[i]?=aa (aa (2,.list ds)):=by
 unfold tU at h;split at h
 .rename_i e;cases h;exact e
 .cases h
theorem All3.set {α β γ:Type}{R:α->β->γ->Prop}{a:α}{b:β}{c:γ}(h:R a b c):∀ {as:List α} {bs:List β} {cs:List γ} (j:Nat),All3 R as bs cs->All3 R (as.set j a) (bs.set j b) (cs.set j c)
 |_,_,_,_,.nil=>.nil
 |_,_,_,0,.cons _ t=>.cons h t
 |_,_,_,j+1,.cons h1 t=>.cons h1 (All3.set h j t)
theorem All3.len {α β γ:Type}{R:α->β->γ->Prop}:∀ {as:List α} {bs:List β} {cs:List γ},All3 R as bs cs->bs.length=as.length
 |_,_,_,.nil=>rfl
 |_,_,_,.cons _ t=>congrArg (· + 1) t.len
theorem xF {F':List aC}:∀ {Fs:List (List aC)} {j:Nat},∀ a∈(Fs.set j F').flatten,a∈F'\/a∈Fs.flatten
 |[],_,a,h=>.inr h
 |F::Fs,0,a,h=>by
  rw[List.set_cons_zero,iL,eM] at h;exact h.imp id λh=>eM.2 (.inr h)
 |F::Fs,j+1,a,h=>by
  rw[List.set_cons_succ,iL,eM] at h;rcases h with h|h
  .exact .inr (eM.2 (.inl h))
  .exact(xF a h).imp id λh=>eM.2 (.inr h)
theorem UE {F':List aC}(n:F'.Nodup):∀ {Fs:List (List aC)} {j:Nat},Fs.flatten.Nodup->(∀ a∈F',a∉Fs.flatten)->(Fs.set j F').flatten.Nodup
 |[],_,h,_=>h
 |F::Fs,0,h,d=>by
  rw[List.set_cons_zero,iL];rw[iL,nR] at h;exact nR.2 ⟨n,h.2.1,λa ma b mb z=>d a ma (eM.2 (.inr (z ▸ mb)))⟩
 |F::Fs,j+1,h,d=>by
  rw[List.set_cons_succ,iL];rw[iL,nR] at h;refine nR.2 ⟨h.1,UE n h.2.1 λa ma mb=>d a ma (eM.2 (.inr mb)),λa ma b mb z=>?_⟩
  rcases xF b mb with q|q
  .exact d b q (eM.2 (.inl (z ▸ ma)))
  .exact h.2.2 a ma b q z
section
variable {Z:St}
theorem Sta.lst2(S:Sta K H0 P0 B0 Y Z H fp)(e:Y[i]?=aa (aa (2,.list ds))):∃ p xs Fs,Z[i]?=aa (aa (.ref p))/\H p=aa (.lst xs)/\fp i=p::Fs.flatten/\All3 (Ac6 K (L2.hid H (Hd P0 fp)) H 1) ds xs Fs:=by
 obtain⟨v,h1,p,xs,Fs,rfl,hp,hF,h3⟩:=S.slot i 2 _ e;exact⟨p,xs,Fs,h1,hp,hF,h3⟩
end
section
variable {k:aQ}{p:bH}
def zY (i:Nat)(m:Md)(f:EF)(mk:Md)(g:EF):SF:=λY=>(eV 1 m f Y).bind λd=>(tU i Y).bind λds=>(eV 0 mk g Y).bind λk=>match k with
 |.int j=>(gf ds.length j).bind λj=>aa (.nx (Y.set i (aa (2,.list (ds.set j d)))))
 |_=>ae
theorem Xp (i:Nat)(m mk:Md)(he:DF 1 X e f)(hk:DE X k g)(hN:Nm X i x:=by exact fM)
  (ha:∀ v,jZ (.Subscript (.Name x px) k ao) X.env v=(do
   let ov <-nK [v] (bZ (.Name x px) X.env)
   let iv <-nK [v,ov] (bZ k X.env)
   standAt ao
   nK [v,ov,iv] (setItem ov iv v)
   release [v,ov,iv] []):=by intro _;rfl)
  (hs:KY [.Subscript (.Name x px) k ao] e pos.line X.env=pure ag:=by rfl) (hw:KZ [.Subscript (.Name x px) k ao] e X.env=pure ae:=by rfl)
  (h1:(hJ [.Subscript (.Name x px) k ao] X.env).map (·.2)=[jZ (.Subscript (.Name x px) k ao) X.env]:=by rfl):DS X H0 P0 n0 (.Assign [.Subscript (.Name x px) k ao] e pos) (zY i m f mk g):=
 PS.imp (KI (ev m he) (Ae (hN.pe) hk set_list ha) hs hw h1) λD Z H gh=>by
  obtain⟨B0,Y,fp,o,S,ef,kk⟩:=gh;obtain⟨d,e1,bq⟩:=aj ef;obtain⟨ds,e2,bi⟩:=aj bq;obtain⟨kd,e3,b9⟩:=aj bi;clear ef bq bi;cases kd with
  |int j=>
   obtain⟨jn,e5,dw⟩:=aj (show((gf ds.length j).bind λj=>aa (Out.nx (Y.set i (aa (2,.list (ds.set j d))))))=aa o from b9)
   cases dw;refine⟨B0,Y,fp,d,S,e1,λv H2 gh=>?_⟩
   obtain⟨b7,S2,r2⟩:=gh;obtain⟨p,xs,Fs,h1,h2,_,_⟩:=S2.lst2 (uW e2);refine⟨.ref p,h1,oF S2 e3 (by simp[eD]) λu H3 x3 r3=>?_⟩
   have S3:=S2.grow x3;have hi:=(cR.1 (uW e2)).1;obtain⟨p3,f8,G7,q1,q2,hF,q3⟩:=S3.lst2 (uW e2);have:p3=p:=by rw[h1] at q1;cases q1;rfl
   subst this;have G8:Ac6 X.K (hid H3 (Hd P0 b7)) H3 1 d v (b7 Y.length):=Ac6.keep (cG x3) (λa m=>by
    rcases(S2.own _ a m).2 with⟨ys,e⟩|⟨ys,e⟩
    .rw[e];exact x3 _ _ e
    .rw[e];exact x3 _ _ e) r2
   have gu:Y.length≠i:=()
   have ke:=S3.nd i;rw[hF,gC] at ke;have mp:p3∈b7 i:=by rw[hF];exact bO
   have xf:∀ a∈b7 Y.length,a∉b7 i:=λa m1 m2=>gu (S3.dj _ _ a m1 m2)
   refine⟨p3,f8,j,jn,rfl,Aal.1 r3,q2,by rw[q3.len];exact e5,kk _ _ (λq=>if q=i then p3::(G7.set jn (b7 Y.length)).flatten else if q=Y.length then [] else b7 q) ?_⟩
   refine S3.change hi q1 (λq hq hl=>?_) (λq hl=>?_) ?_ (λa m=>?_) (λa na=>bP λz=>na (z ▸ mp)) (λa m=>?_) λxb=>?_
   .simp only[hq,if_false,show q≠Y.length by lia]
   .by_cases z:q=Y.length
    .left;simp only[z,gu,if_false,if_true]
    .right;simp only[z,show q≠i by lia,if_false]
   .simp only[if_true];refine gC.2 ⟨λm=>?_,UE (S3.nd _) ke.2 λa m1 m2=>xf a m1 (by rw[hF];exact bM _ m2)⟩
    rcases xF _ m with m|m
    .exact xf _ m mp
    .exact ke.1 m
   .simp only[if_true] at m;rcases cV.1 m with rfl|m
    .exact⟨i,mp,.inl rfl⟩
    .rcases xF _ m with m|m
     .exact⟨_,m,.inr (by simp only[gu,if_false,if_true])⟩
     .exact⟨i,by rw[hF];exact bM _ m,.inl rfl⟩
   .simp only[if_true] at m;by_cases z:a=p3
    .subst z;exact .inl ⟨_,cN⟩
    .rw[bP z];rcases cV.1 m with m|m
     .exact absurd m z
     .rcases xF _ m with m|m
      .exact(S3.own _ a m).2
      .exact(S3.own i a (by rw[hF];exact bM _ m)).2
   .simp only[if_true];refine⟨p3,_,_,rfl,cN,rfl,All3.set (Ac6.keep xb (λa m=>bP (λ(z:a=p3)=>xf a m (by rw[z];exact mp))) G8) jn (q3.imp λa b c m r=>Ac6.keep xb (λz hz=>bP λq=>?_) r)⟩
    exact ke.1 (q ▸ fI.2 ⟨c,m,hz⟩)
  |_=>cases b9
def OM (i j:Nat):SF:=λY=>(tU j Y).bind λds=>if i<Y.length/\i≠j then aa (.nx ((Y.set j ae).set i (aa (2,.list ds)))) else ae
theorem Sy (i j:Nat)(hc:X.calm=af)(nh:Gl X "list")(hm:X.mg "list" = ae)(xg:X.N.Nodup)(hi:X.N[i]?=aa x)(hx:iQ X.env.scope x)(hN:Nm X j y:=by exact fM)(hs:iG (.Call (.Name "list" p) [.Name y py] [] au) (aa (.Name x px)) pos.line X.env=pure ag:=by rfl)(hf:X.fn x=af\/X.env.scope.names.lookup x=aa .local:=by first|exact .inl rfl|exact .inr rfl|assumption) :
  DS X H0 P0 n0 (.Assign [.Name x px] (.Call (.Name "list" p) [.Name y py] [] au) pos) (OM i j):=
 PS.imp (FH xg hi hx (xM (JJ hc) nh hm LM (eN (hN.pe) gY)) hs hf) λD Z H gh=>by
  obtain⟨B0,Y,fp,o,S,ef,kk⟩:=gh;obtain⟨ds,e2,ef⟩:=aj ef;obtain⟨⟨hl,d9⟩,rfl⟩:=cH ef;obtain⟨p,xs,Fs,h1,h2,hF,h3⟩:=S.lst2 (uW e2);have hj:=(cR.1 (uW e2)).1;have zw:=S.nd j;rw[hF,gC] at zw;refine⟨.ref p,h1,.inl ⟨p,xs,rfl,.inl (SqL.of h2),λl um=>?_⟩⟩
  have mj:∀ a∈Fs.flatten,a∈fp j:=λa m=>by rw[hF];exact bM _ m
  have nl:∀ {q a},a∈fp q->a≠l:=λ{q a} m z=>by
   rcases(S.own q a m).2 with⟨ys,e⟩|⟨ys,e⟩<;>rw[z,um] at e<;>cases e
  have xn:Ext H (upd H l (.lst xs)):=Ext.new um
  let bg:Nat->List aC:=λq=>if q=Y.length then l::Fs.flatten else if q=j then [] else if q<Y.length then fp q else []
  have l3:∀ q a,a∈bg q->(q=Y.length/\(a=l\/a∈Fs.flatten))\/(q≠Y.length/\q≠j/\a∈fp q):=λq a m=>by
   grind
  have xb:Ext (hid H (Hd P0 fp)) (hid (upd H l (.lst xs)) (Hd P0 bg)):=λb o e=>by
   obtain⟨nb,e⟩:=Abb.1 e;refine dS (λz=>nb ?_) (xn _ _ e)
   rcases z with z|⟨q,z⟩
   .exact .inl z
   .rcases l3 q b z with⟨_,rfl|m⟩|⟨_,_,m⟩
    .rw[um] at e;cases e
    .exact .inr ⟨j,mj b m⟩
    .exact .inr ⟨q,m⟩
  have T:Tmp X.K H0 P0 B0 (Y.set j ae) Z 2 (.list ds) (.ref l) (upd H l (.lst xs)):=by
   refine⟨bg,⟨by simp[S.len],λq=>?_,λq r a m1 m2=>?_,λq a m=>?_,S.ext.trans xn,S.hd,S.base.trans xb,λq n' d' e'=>?_⟩,?_⟩
   .show(if q=Y.length then l::Fs.flatten else if q=j then [] else if q<Y.length then fp q else []).Nodup
    split
    .exact gC.2 ⟨λm=>nl (mj _ m) rfl,zw.2⟩
    .split
     .exact .nil
     .split
      .exact S.nd q
      .exact .nil
   .rcases l3 q a m1 with⟨e1,n1⟩|⟨e1,l1,n1⟩<;>rcases l3 r a m2 with⟨e2,n2⟩|⟨e2,l2,n2⟩
    .rw[e1,e2]
    .rcases n1 with n1|n1
     .exact absurd n1 (nl n2)
     .exact absurd (S.dj _ _ a (mj a n1) n2).symm l2
    .rcases n2 with n2|n2
     .exact absurd n2 (nl n1)
     .exact absurd (S.dj _ _ a (mj a n2) n1).symm l1
    .exact S.dj q r a n1 n2
   .rcases l3 q a m with⟨_,rfl|m⟩|⟨_,_,m⟩
    .exact⟨S.ext.none um,.inl ⟨xs,cN⟩⟩
    .exact⟨(S.own j a (mj a m)).1,by rw[bP (nl (mj a m))];exact(S.own j a (mj a m)).2⟩
    .exact⟨(S.own q a m).1,by rw[bP (nl m)];exact(S.own q a m).2⟩
   .by_cases hq:q=j
    .subst hq;rw[iW hj] at e';cases e'
    .rw[iO (λz=>hq z.symm)] at e'
     have br:=(cR.1 e').1;obtain⟨v,g1,g2⟩:=S.slot q n' d' e';refine⟨v,g1,?_⟩;have:bg q=fp q:=by
      show(if q=Y.length then l::Fs.flatten else if q=j then [] else if q<Y.length then fp q else [])=fp q
      rw[if_neg (),if_neg hq,if_pos br]
     rw[this];exact g2.keep xb λa m=>bP (nl m)
   .have:bg (Y.set j ae).length=l::Fs.flatten:=by
     show(if (Y.set j ae).length=Y.length then l::Fs.flatten else _)=_
     rw[if_pos (by simp)]
    rw[this];exact⟨l,xs,Fs,rfl,cN,rfl,h3.imp λa b c m r=>Ac6.keep xb (λz hz=>bP (nl (mj z (fI.2 ⟨c,m,hz⟩)))) r⟩
  obtain⟨G9,S9⟩:=T.set (i:=i) (by simpa using hl)
  exact kk _ _ G9 S9
end
def k4:aA->Bool
 |.int _=>af
 |.str _=>af
 |_=>ag
def xw:aA->Bool
 |.none=>af
 |.tuple ds=>ds.all k4
 |_=>ag
theorem NR {α:Type}:∀ ds:List α,(ds.map λ_=>([]:List aC)).flatten=[]
 |[]=>rfl
 |d::ds=>by rw[cY,iL,NR ds];rfl
theorem Er{B:Hp}(h:xw d=af)(r:Abj K B d v):Ac6 K B H (n+2) d v []:=by
 cases d with
 |none=>exact⟨rfl,r⟩
 |tuple ds=>
  obtain⟨a,xs,rfl,e,rs⟩:=Aar.1 r;have go:∀ {ds:List aA} {xs:List V},ds.all k4=af->Aao K B ds xs->All3 (Ac6 K B H (n+1)) ds xs (ds.map λ_=>[]):=by
   intro ds;induction ds with
   |nil=>intro xs _ rs;rw[Aaj.1 rs];exact .nil
   |cons d ds ih=>
    intro xs ha rs;obtain⟨x,ys,rfl,h1,h2⟩:=Aaf.1 rs;have on:=iM.1 (show(k4 d&&ds.all k4)=af from ha)
    refine .cons ?_ (ih on.2 h2);cases d with
    |int j=>exact⟨rfl,h1⟩
    |str z=>exact⟨rfl,h1⟩
    |_=>cases on.1
  exact .inr ⟨(),a,xs,ds.map λ_=>[],rfl,e,(NR ds).symm,go h rs⟩
 |_=>cases h
section
variable {Z:St}
theorem Sta.drop {Z':St}(S:Sta K H0 P0 B0 Y Z H fp)(j:Nat)(hl:Z'.length=Z.length)(hs:∀ q,q≠j->Z'[q]?=Z[q]?):Sta K H0 P0 B0 (Y.set j ae) Z' H fp:=by
 refine⟨by simp[hl,S.len],S.nd,S.dj,S.own,S.ext,S.hd,S.base,λq n d e=>?_⟩
 by_cases hq:q=j
 .subst hq;by_cases hl:q<Y.length
  .rw[iW hl] at e;cases e
  .have:=(cR.1 e).1;simp at this;lia
 .rw[iO (λz=>hq z.symm)] at e
  rw[hs q hq];exact S.slot q n d e
theorem Sta.spoil {p:aC}(S:Sta K H0 P0 B0 Y Z H fp)(hp:p∈fp i):Sta K H0 P0 B0 (Y.set i ae) Z (upd H p (.lst ys)) fp:=by
 have same:L2.hid (upd H p (.lst ys)) (Hd P0 fp)=L2.hid H (Hd P0 fp):=by
  funext b;unfold L2.hid;by_cases q:Hd P0 fp b
  .rw[if_pos q,if_pos q]
  .rw[if_neg q,if_neg q];exact bP λz=>q (.inr ⟨i,by rw[z];exact hp⟩)
 refine⟨by simp[S.len],S.nd,S.dj,λj a m=>⟨(S.own j a m).1,?_⟩,λb u e=>?_,S.hd,by rw[same];exact S.base,λj n' d e=>?_⟩
 .by_cases q:a=p
  .subst q;exact .inl ⟨_,cN⟩
  .rw[bP q];exact(S.own j a m).2
 .rw[bP (gQ e (S.own i p hp).1)];exact S.ext b u e
 .by_cases q:j=i
  .subst q;by_cases hl:j<Y.length
   .rw[iW hl] at e;cases e
   .have:=(cR.1 e).1;simp at this;lia
  .rw[iO (λz=>q z.symm)] at e
   obtain⟨u,h1,h2⟩:=S.slot j n' d e;refine⟨u,h1,?_⟩;rw[same];exact h2.keep Ext.refl λa m=>bP λz=>q (S.dj j i a m (by rw[z];exact hp))
theorem Sta.tup3 {a:aA}(S:Sta K H0 P0 B0 Y Z H fp)(e:Y[i]?=aa (aa (3,.tuple [a,.list ds])))(ha:k4 a=af):∃ q p w xs Fs,Z[i]?=aa (aa (.ref q))/\L2.hid H (Hd P0 fp) q=aa (.tup [w,.ref p])/\Abj K (L2.hid H (Hd P0 fp)) a w/\H p=aa (.lst xs)/\fp i=p::Fs.flatten/\All3 (Ac6 K (L2.hid H (Hd P0 fp)) H 1) ds xs Fs:=by
 obtain⟨v,h1,h2⟩:=S.slot i 3 _ e;rcases h2 with⟨h0,_⟩|⟨_,q,us,Fs,rfl,hq,hF,h3⟩
 .cases h0
 .cases h3 with
  |cons g1 t=>
   cases t with
   |cons g2 t=>
    cases t with
    |nil=>
     obtain⟨p,xs,Gs,rfl,hp,hG,r1⟩:=g2;cases a with
     |int z=>
      obtain⟨g0,g1⟩:=g1;exact⟨q,p,_,xs,Gs,h1,hq,g1,hp,by rw[hF,g0,hG];simp,r1⟩
     |str z=>
      obtain⟨g0,g1⟩:=g1;exact⟨q,p,_,xs,Gs,h1,hq,g1,hp,by rw[hF,g0,hG];simp,r1⟩
     |_=>cases ha
end
section
variable {k c:aQ}{p uo oq:bH}
def vX (m:Md)(f:EF):SF:=λY=>(eV 0 m f Y).bind λd=>if xw d=af then aa (.rt d) else ae
theorem PH (m:Md)(he:DE X e f):DS X H0 P0 3 (.Return (aa e) pos) (vX m f):=PS.imp (rQ (ev m he)) λD Z H gh=>by
 rw[4];obtain⟨d,e1,ef⟩:=aj ef;obtain⟨ho,rfl⟩:=cH ef;exact⟨B0,Y,fp,d,S,e1,λv H' ⟨bg,S',r⟩=>k v H' ⟨[],S'.ext,.nil,λa m=>by simp at m,Er ho (r.2.ext (fY λa z=>.inl (by simpa [bo] using z)))⟩⟩
def Ah (z:aE)(i:Nat):SF:=λY=>(tU i Y).bind λds=>aa (.rt (.tuple [.str z,.list ds]))
theorem Vx {z:aE}{u x1}(i:Nat)(hz:cF (.str z)=af:=by rw[0])(hN:Nm X i x:=by exact fM):DS X H0 P0 3 (.Return (aa (.Tuple [.Constant (.str z) u p1,.Name x px] x1 p2)) pos) (Ah z i):=
 PS.imp (rQ (AA (eN ZN (eN (hN.pe) gY)))) λD Z H gh=>by
  rw[4];obtain⟨ds,e1,ef⟩:=aj ef;cases ef;obtain⟨v,h1,r1⟩:=S.slot i 2 _ (uW e1);refine⟨_,h1,by show 2<=sizeLine;rw[vD];lia,λq hq=>k _ _ ⟨fp i,S.ext.trans (Ext.new hq),S.nd i,λc m=>⟨(S.own i c m).1,?_⟩,?_⟩⟩
  .rcases(S.own i c m).2 with⟨ys,e⟩|⟨ys,e⟩<;>exact⟨_,Ext.new hq _ _ e⟩
  .have nq:∀ a∈fp i,a≠q:=λa m z=>by
    rcases(S.own i a m).2 with⟨ys,e⟩|⟨ys,e⟩<;>rw[z,hq] at e<;>cases e
   have xb:Ext (L2.hid H (Hd P0 fp)) (L2.hid (upd H q (.tup [.str z,v])) (bo P0 (fp i))):=λc oo ec=>by
    obtain⟨nc,ec⟩:=Abb.1 ec;exact Abb.2 ⟨λz=>z.elim (λz=>nc (.inl z)) λz=>nc (.inr ⟨i,z⟩),Ext.new hq _ _ ec⟩
   refine .inr ⟨nofun,q,_,[[],fp i],rfl,Abb.2 ⟨λz=>?_,cN⟩,by simp,.cons ⟨rfl,Aa9.2 ⟨rfl,hz⟩⟩ (.cons (Ac6.keep xb (λa m=>bP (nq a m)) r1) .nil)⟩
   rcases z with z|z
   .exact(S.hd.ext S.ext).new hq z
   .exact nq q z rfl
end
section
variable {c k v:aQ}
def tP (j:Nat)(mk:Md)(fk:EF)(mv:Md)(fv:EF)(m2:Md)(f2:EF)(F:SF):SF:=λY=>(eV 0 mk fk Y).bind λkd=>(eV 0 mv fv Y).bind λd=>(bK kd).bind λkey=>(kT j Y).bind λkds=>match d with
  |.int n=>if kds.length<sizeLine then match bQ kds key with
    |some (.int u)=>vP m2 f2 F u Y
    |some _=>ae
    |none=>vP m2 f2 F n (Y.set j (aa (1,.dict (putD kds key (.int n)))))
   else ae
  |_=>ae
theorem Iy (j:Nat)(mk mv m2:Md)(hu:X.A.units+100<cLine)(hk:DE X k fk)(hv:DE X v fv)(he:DE X e2 f2)(ha:gb X H0 P0 n0 body F)(hj:Nm X j y:=by exact fM)(q5:Bm X (.Name y p2) k [v] "setdefault" ap cp:=by exact⟨rfl,rfl,rfl,rfl,rfl⟩)(ib:cC (v::[]) X.env=(ag,bZ v X.env)::cC [] X.env:=by rfl)
  (hm:sQ .NotEq e2=ag:=by exact kI _) :
  DS X H0 P0 n0 (.If (.Compare (.Call (.Attribute (.Name y p2) "setdefault" ap) [k,v] [] cp) [.NotEq] [e2] qw) body [] pos) (tP j mk fk mv fv m2 f2 F):=
 PS.imp (EK (GA (Ab hu) (mP CJ LK Cc IH (hj.pe) (eN (ev mk hk) (eN (ev mv hv) gY ib) q5.s) q5) (ev m2 he) hm) ha FT) λD Z H gh=>by
   obtain⟨B0,Y,fp,o,S1,bq,kk⟩:=gh;obtain⟨kd,g1,bi⟩:=aj bq;obtain⟨d,g2,b9⟩:=aj bi;obtain⟨key,g3,dw⟩:=aj b9;obtain⟨kds,g4,gw⟩:=aj dw;clear bq bi b9 dw;cases d with
   |int n=>
    obtain⟨hz,oh⟩:=xA gw;obtain⟨p,ep,xs,h1,h2,_,_⟩:=S1.dic1 (oP g4);refine⟨.ref p,h1,.inr (.inr (.inl ⟨rfl,.inl ⟨ep,xs,h2⟩⟩)),B0,Y,fp,kd,S1,g1,λv1 H2 gh=>?_⟩
    obtain⟨b7,S2,r2⟩:=gh;have r6:=jO g3 r2.2;refine⟨B0,Y,b7,.int n,S2,g2,λv2 H3 gh=>?_⟩
    obtain⟨zn,S3,r3⟩:=gh;have wy:=Aal.1 r3.2;subst r6 wy;obtain⟨p3,ic,f8,q1,q2,q3,q4⟩:=S3.dic1 (oP g4);have:p3=p:=by rw[h1] at q1;cases q1;rfl
    subst this;refine⟨p3,ic,f8,key,.int n,rfl,rfl,q2,by rw[q3.length];exact hz,?_⟩
    rcases sI q3 with⟨n1,n2⟩|⟨d',v',s1,s2,rd⟩
    .refine .inr ⟨n2,λm=>?_⟩
     rw[n1] at oh;exact SC (q4 m _ _ (AE q3 (Aal.2 rfl))) oh kk
    .refine .inl ⟨v',s2,?_⟩;rw[s1] at oh;cases d' with
     |int u=>
      have:=Aal.1 rd;subst this;exact SC S3 oh kk
     |_=>cases oh
   |_=>cases gw
end
section
variable {k:aQ}{so:bH}{T:aA->aP->Option aP}
def k6 (j:Nat)(mk:Md)(g:EF)(Y:aP):Option (List aA):=(getL j Y).bind λds=>(eV 0 mk g Y).bind λk=>match k with
 |.int q=>(e8 ds q).bind λd=>match d with
  |.list es=>aa es
  |_=>ae
 |_=>ae
def yb (K:aK)(H0:Hp)(P0:aC->Prop)(h:aP->Option (List aA)):TI:=λZ H R=>∃ B0 Y fp ds,Sta K H0 P0 B0 Y Z H fp/\h Y=aa ds/\∀ J B1 H',Sta K H0 P0 B1 Y Z H' fp->Ext B0 B1->gx K B1 J ds->R J H'
theorem NM {mk:Md}(hk:DE X k g)(hp:uM k)(wv:Nm X j y:=by exact fM):PI X tg (.Subscript (.Name y py) k ca) (yb X.K H0 P0 (k6 j mk g)):=PI.imp (GU (xX wD (wv.pe) hk hp)) λZ H R gh=>by
 obtain⟨B0,Y,fp,es,S,ef,kk⟩:=gh;obtain⟨ds,e2,bq⟩:=aj ef;obtain⟨kd,e3,bi⟩:=aj bq;clear ef bq;cases kd with
 |int q=>
  obtain⟨d,e4,b9⟩:=aj bi;cases d with
  |list lg=>
   cases b9;obtain⟨p,xs,h1,h2,_,_⟩:=S.lst1 (mZ e2);refine⟨.ref p,h1,oF S e3 (by simp[eD]) λu H3 x3 r3=>.inl ?_⟩
   have S3:=S.grow x3;obtain⟨p3,f8,q1,q2,q3,q4⟩:=S3.lst1 (mZ e2);have:p3=p:=by rw[h1] at q1;cases q1;rfl
   subst this;obtain⟨w,w1,w2⟩:=GR q3 e4;obtain⟨a,ys,rfl,hr,rr⟩:=Abe.1 w2;exact⟨p3,f8,q,.ref a,rfl,Aal.1 r3,SqL.of q2,w1,a,rfl,⟨ys,Aap.sqL hr⟩,kk _ _ H3 (S3.rebase Ext.refl) S3.base (SH hr rr)⟩
  |_=>cases b9
 |_=>cases bi
def vW (j:Nat)(mk:Md)(g:EF)(T:aA->aP->Option aP)(F:SF):SF:=λY=>(k6 j mk g Y).bind λds=>iC F T ds Y
theorem Tv (j:Nat)(mk:Md)(hp:sT (aX X.prog X.w) X.A X.env X.xe)(hc:X.calm=af)(hi:PI X tg e (yb X.K H0 P0 (k6 j mk g)))(hg:DG X H0 P0 tg T)(hb:gb X H0 P0 n0 body F)
  (hs:∀ x,kP e X.env x=pure x:=by intro _;rfl):DS X H0 P0 n0 (.For tg e body [] pos) (vW j mk g T F):=PS.imp (FF hp hc hi hg hb hs) λD Z H gh=>by
 rw[4];obtain⟨ds,e1,ef⟩:=aj ef;refine⟨B0,Y,fp,ds,S,e1,λJ B1 H' S1 xb it=>?_⟩
 refine⟨λi m Z H=>m=ds.length-i/\i<=ds.length/\∃ Y fp,Sta X.K H0 P0 B1 Y Z H fp/\iC F T (ds.drop i) Y=aa o,⟨ds.length,by simp,eA _,Y,fp,S1,by simpa using ef⟩,?_⟩
 rintro i m Z2 H2 ⟨rfl,hi,Y2,b7,S2,e2⟩;have x2:=S2.base.trans Aap;obtain⟨go,st⟩:=it i H2 x2;by_cases br:i<ds.length
 .have hd:=hX br;rw[MF br] at e2;obtain⟨Y3,e3,e2⟩:=aj e2;obtain⟨o3,e4,e2⟩:=aj e2;obtain⟨g1,g2⟩:=go _ hd;refine .inr ⟨g1,λZ' H'=>i+1<=ds.length/\∃ Y fp,Sta X.K H0 P0 B1 Y Z' H' fp/\iC F T (ds.drop (i+1)) Y=aa o,λZ' H' ⟨h1,h2⟩=>⟨ds.length-(i+1),(),rfl,h1,h2⟩,λx H3 y=>?_⟩
  obtain⟨x3,r3⟩:=g2 x H3 y;refine⟨B1,Y2,b7,_,Y3,S2.grow x3,r3 _ S2.hid S2.base,e3,λZ4 vt S4=>⟨B1,Y3,vt,o3,S4,e4,?_⟩⟩
  cases o3 with
  |nx Y5=>exact λZ5 H5 h9 S5=>⟨br,Y5,h9,S5,e2⟩
  |ct Y5=>exact λZ5 H5 h9 S5=>⟨br,Y5,h9,S5,e2⟩
  |bk Y5=>
   cases e2;exact λZ5 H5 h9 S5=>k Z5 H5 h9 (S5.rebase (xb.trans S5.base))
  |rt d=>
   cases e2;exact k
 .have e:i=ds.length:=()
  subst e;rw[ME] at e2;cases e2;exact .inl ⟨st rfl,k Z2 H2 b7 (S2.rebase (xb.trans S2.base))⟩
variable {N:List aE}{G:aA->List (Option aA)->Option (List (Option aA))}{t:BF}
def vV (i j:Nat)(mk:Md)(g:EF)(cap:List (Option Nat))(G:aA->List (Option aA)->Option (List (Option aA)))(t:BF)(f:EF):SF:=λY=>(k6 j mk g Y).bind λds=>(gg G t f (fK cap (vS Y)) ds).bind λys=>
 if ds.length<=sizeLine/\i<Y.length then aa (.nx (Y.set i (aa (0,.list ys)))) else ae
theorem Jc (i j:Nat)(mk:Md)(hc:X.calm=af)(hN:X.N.Nodup)(lx:X.N[i]?=aa x)(hx:iQ X.env.scope x)(S:CompScope X N cap sc)(hT:mw G)(hi:PI X tg e (yb X.K H0 P0 (k6 j mk g)))(hb:FK X N sc tg c8 cy G t f)
  (hs:∀ x,kP e X.env x=pure x:=by intro _;rfl) (fg:iG (.ListComp c8 [⟨tg,e,cy,0⟩] sc so) (aa (.Name x px)) ca.line X.env=pure af:=by rfl) (hf:X.fn x=af\/X.env.scope.names.lookup x=aa .local:=by first|exact .inl rfl|exact .inr rfl|assumption) :
  DS X H0 P0 n0 (.Assign [.Name x px] (.ListComp c8 [⟨tg,e,cy,0⟩] sc so) ca) (vV i j mk g cap G t f):=PS.imp (RW hc hN lx hx S hi (g:=o4 X.K G) (tc:=i6 X.K t) (te:=tF X.K 0 f) hb fg hs hf) λD Z H gh=>by
 rw[4];obtain⟨ds,e1,ef⟩:=aj ef;obtain⟨ys,e2,ef⟩:=aj ef;obtain⟨⟨hz,hl⟩,rfl⟩:=cH ef;refine⟨B0,Y,fp,ds,S,e1,λJ B1 H' S1 xb it=>?_⟩
 have G':gx X.K (hid H' (Hd P0 fp)) J ds:=λq H2 x2=>by
  obtain⟨h1,h2⟩:=it q H2 (S1.base.trans x2);exact⟨λd hd=>⟨(h1 d hd).1,λv H3 y=>⟨((h1 d hd).2 v H3 y).1,λP2 hp xx=>((h1 d hd).2 v H3 y).2 P2 hp (S1.base.trans xx)⟩⟩,h2⟩
 refine A5 (n:=0) nofun hT S1.hid S1.viewS G' e2 hz ?_
 refine Res.of S1.hid (dP λv H2 x2 r=>?_)
 obtain⟨bg,S'⟩:=((S1.rebase (xb.trans S1.base)).grow x2).set0 r hl;exact k _ _ bg S'
end
theorem Oi{B:Hp}:∀ {ds:List aA} {xs:List V},Aao K B ds xs->Aao K B ds.dropLast xs.dropLast:=by
 intro ds;induction ds with
 |nil=>intro xs r;rw[Aaj.1 r];exact Aaj.2 rfl
 |cons d ds ih=>
  intro xs r;obtain⟨x,ys,rfl,h1,h2⟩:=Aaf.1 r;cases ds with
  |nil=>rw[Aaj.1 h2];exact Aaj.2 rfl
  |cons d2 ds=>
   obtain⟨x2,ys2,rfl,h3,h4⟩:=Aaf.1 h2;exact Aaf.2 ⟨_,_,rfl,h1,ih h2⟩
theorem NA (xs:List V):lT xs ae (aa 1)=xs.take 1:=by
 unfold lT HT.sIx;cases xs<;>simp
section
variable {k:aQ}{p4 p5 uo l9 oq:bH}
def BY (i:Nat)(mk:Md)(g:EF):SF:=λY=>(jK i Y).bind λkds=>(eV 0 mk g Y).bind λk=>(bK k).bind λk=>(bQ kds k).bind λl=>match l with
 |.list es=>if es≠[] then aa (.nx (Y.set i (aa (2,.dict (iY kds k (.list es.dropLast)))))) else ae
 |_=>ae
theorem Lf (i:Nat)(mk:Md)(hu:X.A.units+40<cLine)(hk:DE X k g)(hN:Nm X i x:=by exact fM)(o7:zG k:=by exact λ_ _=>rfl)(dh:vG (.Subscript (.Name x px) k ca) "pop" X.env (bZ (.Subscript (.Name x px) k ca) X.env)=bZ (.Subscript (.Name x px) k ca) X.env:=by rfl)
  (dl:(ao.endLine==au.line)=af:=by rfl)
  (fg:iG (.Call (.Attribute (.Subscript (.Name x px) k ca) "pop" ao) [] [] au) ae pos.line X.env=pure ag:=by rfl):DS X H0 P0 n0 (.Expr (.Call (.Attribute (.Subscript (.Name x px) k ca) "pop" ao) [] [] au) pos) (BY i mk g):=
 PS.imp (pX (Ke vJ PySem.F.slot_list_pop PySem.F.type_list_pop Gy (FQ hu (hN.pe) hk o7) dh dl) fg) λD Z H gh=>by
  obtain⟨B0,Y,fp,o,S,ef,kk⟩:=gh;obtain⟨kds,e2,bi⟩:=aj ef;obtain⟨kd,e3,b9⟩:=aj bi;obtain⟨key,e4,dw⟩:=aj b9;obtain⟨l,e5,gw⟩:=aj dw;clear ef bi b9 dw;cases l with
  |list es=>
   obtain⟨hn,rfl⟩:=cH gw;have hf:eD kd=af:=by rw[qI e4];cases key<;>simp[kD,eD]
   obtain⟨p,ep,xs,q,ys,h1,h2,h3,h4,_,_⟩:=S.inner (jD e2) e5;refine⟨.ref p,h1,oF S e3 hf λu H2 x2 r2=>⟨p,.ref q,rfl,.inl ⟨ep,xs,key,.inl (x2 _ _ h2),jO e4 r2,h3.symm⟩,.inl ⟨rfl,ys,SqL.of (x2 _ _ h4)⟩,?_⟩⟩
   have S3:=S.grow x2;obtain⟨p3,ic,f8,q3,pd,g1,g2,g3,g4,g5,g6⟩:=S3.inner (jD e2) e5;have jt:p3=p:=by rw[h1] at g1;cases g1;rfl
   subst jt;have ex:=g2.symm.trans (x2 _ _ h2);injection ex with ex;injection ex with ex1 ex2;subst ex2;have wz:q3=q:=by
    grind
   subst wz;have hl:=g5.length;have hp:0<pd.length:=by rw[hl];exact List.length_pos_iff.2 hn
   exact⟨q3,pd,pd[pd.length-1],rfl,rfl,g4,hX (),kk _ _ fp (g6 _ _ (Oi g5))⟩
  |_=>cases gw
def EO (i:Nat)(f:EF):SF:=λY=>match Y[i]? with
 |some (aa (3,.tuple [a,.list ds]))=>(eV 0 .s f Y).bind λ_=>if k4 a=af/\ds.length<sizeLine then aa (.nx (Y.set i ae)) else ae
 |_=>ae
theorem Ms (i:Nat){u}(he:DE X e f)(hN:Nm X i x:=by exact fM)(q5:Bm X (.Subscript (.Name x px) (.Constant (.int 1) u p1) ca) e [] "append" ao au:=by exact⟨rfl,rfl,rfl,rfl,rfl⟩)
  (fg:iG (.Call (.Attribute (.Subscript (.Name x px) (.Constant (.int 1) u p1) ca) "append" ao) [e] [] au) ae pos.line X.env=pure ag:=by rfl) (xh:uM (.Constant (.int 1) u p1):=by exact λ_ _=>rfl) :
  DS X H0 P0 n0 (.Expr (.Call (.Attribute (.Subscript (.Name x px) (.Constant (.int 1) u p1) ca) "append" ao) [e] [] au) pos) (EO i f):=
 PS.imp (pX (mP vJ LJ LI xO (xX wD (hN.pe) wC xh) (eN he gY q5.s) q5) fg) λD Z H gh=>by
  obtain⟨B0,Y,fp,o,S,ef,kk⟩:=gh;unfold EO at ef;split at ef
  .rename_i a ds er;obtain⟨d,e1,ef⟩:=aj ef;obtain⟨⟨ha,hl⟩,rfl⟩:=cH ef;obtain⟨q,p,w,xs,Fs,h1,h2,h3,h4,h5,h6⟩:=S.tup3 er ha;have hq:=(Abb.1 h2).2;refine⟨.ref q,h1,.inr (.inl ⟨q,_,1,.ref p,rfl,rfl,SqT.of hq,rfl,?_⟩)⟩;refine⟨.inl ⟨rfl,xs,SqL.of h4⟩,Hd P0 fp,vS Y,d,S.hid,S.viewS,e1,dP λv H2 x2 r2=>?_⟩
   exact⟨p,xs,v,rfl,rfl,x2 _ _ h4,by rw[h6.len];exact hl,kk _ _ fp ((S.grow x2).spoil (by rw[h5];exact bO))⟩
  .cases ef
def EH (i j:Nat)(f:EF):SF:=λY=>match Y[i]? with
 |some (aa (3,.tuple [a,.list []]))=>if k4 a=af then aa (.nx (Y.set j ae)) else ae
 |some (aa (3,.tuple [a,.list (.list es::ds)]))=>(eV 0 .s f (Y.set j ae)).bind λd=>if k4 a=af/\es.length<sizeLine/\i≠j/\j<Y.length then aa (.nx ((Y.set j ae).set i (aa (3,.tuple [a,.list (.list (es++[d])::ds)])))) else ae
 |_=>ae
theorem Mb (i j:Nat){u u2}(hp:sT (aX X.prog X.w) X.A X.env X.xe)(hc:X.calm=af)(xg:X.N.Nodup)(hj:X.N[j]?=aa y)(hx:iQ X.env.scope y)(he:DE X e f)(hN:Nm X i x:=by exact fM)(Id:vN X.env.scope y:=by first|exact fG rfl|exact iU (fG rfl)|exact iU (iU rfl))(Ix:(y==("__debug__" : aE))=ag:=by decide)(xi:(y==("__classdict__" : aE))=ag:=by decide)
  (q5:Bm X (.Name y uo) e [] "append" ao au:=by exact⟨rfl,rfl,rfl,rfl,rfl⟩)
  (fg:iG (.Call (.Attribute (.Name y uo) "append" ao) [e] [] au) ae oq.line X.env=pure ag:=by rfl) (xh:uM (.Constant (.int 1) u p1):=by exact λ_ _=>rfl)
  (hf:X.fn y=af\/X.env.scope.names.lookup y=aa .local:=by first|exact .inl rfl|exact .inr rfl|assumption)
  (IN:∀ v,kP (.Subscript (.Subscript (.Name x px) (.Constant (.int 1) u p1) ca) (.Slice ae (aa (.Constant (.int 1) u2 p2)) ae p3) l9) X.env v=pure v:=by intro _;rfl) :
  DS X H0 P0 n0 (.For (.Name y py) (.Subscript (.Subscript (.Name x px) (.Constant (.int 1) u p1) ca) (.Slice ae (aa (.Constant (.int 1) u2 p2)) ae p3) l9) [.Expr (.Call (.Attribute (.Name y uo) "append" ao) [e] [] au) oq] [] pos) (EH i j f):=
 PS.imp (FF hp hc (GU (HI QH (xX wD (hN.pe) wC xh) OY (Ay wC))) (oM xg hj hx hf) (OV (pX (mP vJ LJ LI xO (zX hj Id Ix xi) (eN he gY q5.s) q5) fg)) IN) λD Z H gh=>by
  obtain⟨B0,Y,fp,o,S,ef,kk⟩:=gh;have start:∀ {a:aA} {ds:List aA},Y[i]?=aa (aa (3,.tuple [a,.list ds]))->k4 a=af->∃ q p w xs Fs,Z[i]?=aa (aa (.ref q))/\hid H (Hd P0 fp) q=aa (.tup [w,.ref p])/\Abj X.K (hid H (Hd P0 fp)) a w/\H p=aa (.lst xs)/\fp i=p::Fs.flatten/\All3 (Ac6 X.K (hid H (Hd P0 fp)) H 1) ds xs Fs:=λer ha=>S.tup3 er ha
  unfold EH at ef;split at ef
  .rename_i a er;obtain⟨ha,rfl⟩:=cH ef;obtain⟨q,p,w,xs,Fs,h1,h2,h3,h4,h5,h6⟩:=start er ha;cases h6;refine⟨.ref q,h1,.inr (.inl ⟨q,_,1,.ref p,rfl,rfl,SqT.of (Abb.1 h2).2,rfl,?_⟩)⟩;refine⟨1,rfl,p,_,rfl,SqL.of h4,λl hl=>⟨l,rfl,⟨_,SqL.of cN⟩,λi m Z' H'=>i=0/\Z'=Z/\H'=upd H l (.lst []),⟨0,rfl,rfl,by rw[NA];rfl⟩,?_⟩⟩
   rintro _ m _ _ ⟨rfl,rfl,rfl⟩;exact .inl ⟨⟨[],SqL.of cN,bJ _⟩,kk _ _ fp ((S.grow (Ext.new hl)).drop j rfl λ_ _=>rfl)⟩
  .rename_i a es ds er;obtain⟨d,e1,ef⟩:=aj ef;obtain⟨⟨ha,hz,d9,xj⟩,rfl⟩:=cH ef;obtain⟨q,p,w,xs,Fs,h1,h2,h3,h4,h5,h6⟩:=start er ha;cases h6 with
   |@cons _ v0 F0 _ gv IO r0 h6=>
   obtain⟨p0,xk,rfl,uq,rfl,zx⟩:=own1 r0;have ke:=S.nd i;rw[h5] at ke;have mp:p∈fp i:=by rw[h5];exact bO
   have J0:p0∈fp i:=by rw[h5];simp
   have wx:p≠p0:=λz=>by rw[z] at ke;simp at ke
   refine⟨.ref q,h1,.inr (.inl ⟨q,_,1,.ref p,rfl,rfl,SqT.of (Abb.1 h2).2,rfl,?_⟩)⟩;refine⟨1,rfl,p,_,rfl,SqL.of h4,λl hl=>?_⟩
   have n0:p0≠l:=λz=>by rw[z,hl] at uq;cases uq
   rw[show lT (.ref p0::gv) ae (aa 1)=[.ref p0] by rw[NA];rfl]
   refine⟨l,rfl,⟨_,SqL.of cN⟩,λi' m Z' H'=>(i'=0/\m=1/\Z'=Z/\H'=upd H l (.lst [.ref p0]))\/(i'=1/\m=0/\Sta X.K H0 P0 B0 ((Y.set j ae).set i (aa (3,.tuple [a,.list (.list (es++[d])::ds)]))) Z' H' fp/\H' l=aa (.lst [.ref p0])),⟨1,.inl ⟨rfl,rfl,rfl,rfl⟩⟩,?_⟩
   rintro i' m Z2 H2 (⟨rfl,rfl,rfl,rfl⟩|⟨rfl,rfl,S9,J1⟩)
   .refine .inr ⟨⟨_,.ref p0,SqL.of cN,rfl⟩,λZ' H'=>Sta X.K H0 P0 B0 ((Y.set j ae).set i (aa (3,.tuple [a,.list (.list (es++[d])::ds)]))) Z' H' fp/\H' l=aa (.lst [.ref p0]),λZ' H' h=>⟨0,nofun,.inr ⟨rfl,rfl,h⟩⟩,?_⟩
    rintro x H' ⟨rfl,hx⟩;have:=fH (hx [.ref p0] (SqL.of cN));subst this;have J3:j<Z2.length:=by rw[S.len];exact xj
    have S1:Sta X.K H0 P0 B0 (Y.set j ae) (Z2.set j (aa (.ref p0))) (upd H l (.lst [.ref p0])) fp:=(S.grow (Ext.new hl)).drop j (by simp) λz hz=>iO (λy=>hz y.symm)
    refine⟨.ref p0,iW J3,.inl ⟨rfl,xk,SqL.of ((bP n0).trans uq)⟩,Hd P0 fp,vS (Y.set j ae),d,S1.hid,S1.viewS,e1,dP λv H3 x3 r3=>?_⟩
    have J4:=x3 _ _ ((bP n0).trans uq);have J5:=x3 _ _ (show upd H l (.lst [.ref p0]) l=_ from cN)
    have md:=(Ext.new (o:=.lst [.ref p0]) hl).trans x3;refine⟨p0,xk,v,rfl,rfl,J4,by rw[zx.length];exact hz,?_,by rw[bP (λz=>n0 z.symm)];exact J5⟩
    refine(S1.grow x3).writeN (by simpa using(cR.1 er).1) (by rw[iO (λz=>d9 z.symm)];exact h1) J0 (.inl ⟨_,rfl⟩) ?_
    have aR:Ac6 X.K (hid H3 (Hd P0 fp)) (upd H3 p0 (.lst (xk++[v]))) 2 a w []:=by
     cases a with
     |int z=>exact⟨rfl,h3.ext (cG md)⟩
     |str z=>exact⟨rfl,h3.ext (cG md)⟩
     |_=>cases ha
    refine .inr ⟨nofun,q,_,[[],fp i],rfl,cG md _ _ h2,by simp,.cons aR (.cons ⟨p,_,_,rfl,(bP wx).trans (md _ _ h4),h5,.cons (xD cN ((zx.ext (cG md)).snoc r3)) (h6.imp λd' v' F' mF r=>Ac6.keep (cG md) (λb mb=>?_) r)⟩ .nil)⟩
    have wt:b∈fp i:=by rw[h5];exact bM _ (bM _ (fI.2 ⟨F',mF,mb⟩))
    have nb:b≠p0:=λz=>by
     rw[z] at mb;have:p0∈IO.flatten:=fI.2 ⟨F',mF,mb⟩;rw[gC,iL,List.singleton_append,gC] at ke;exact ke.2.1 this
    rw[bP nb];rcases(S.own i b wt).2 with⟨us,e⟩|⟨us,e⟩
    .rw[e];exact md _ _ e
    .rw[e];exact md _ _ e
   .exact .inl ⟨⟨_,SqL.of J1,bJ _⟩,kk _ _ fp S9⟩
  .cases ef
end
end L2
namespace Aw
open PySem L2
def c7 (i:Nat):dU:=PySem.Challenge.pw_askwithin_k37_papers_written.main.body.getD i (.Pass ⟨0,0,0,0⟩)
structure Blt (p:aE->Prop):Prop where
 «isinstance» : p "isinstance"
 «int» : p "int"
 «bool» : p "bool"
 «range» : p "range"
 «len» : p "len"
 «str» : p "str"
 «all» : p "all"
 «list» : p "list"
 «tuple» : p "tuple"
 «dict» : p "dict"
 «set» : p "set"
 «sorted» : p "sorted"
 «min» : p "min"
 «max» : p "max"
 «enumerate» : p "enumerate"
 «zip» : p "zip"
 «reversed» : p "reversed"
def VT:SF:=(aO (bC 1 1 .s (eC (.dict [])))
 (aO (cT .s (ax (aB 0)) (dq 2) (cT .s (ax (ah aq (aB 2) (eC (.int 1)))) (dq 3) (bp .s (ak (dz (fD "str") (aB 3))) (rL 1 .s (eC (.bool af)) .s (aB 3)) cK)))
 (hZ 1 (bT 1 .s (aM EZ (aD (aB 1) aH))))))
def xQ:List aA->Option aA:=bx 1 4 VT
def RY:SF:=(bT 0 .s (aM gG (aD (bw [ae,aa 1] (ax (aB 0)) (gB 0) cI (eY (aB 1) (aB 0) (aB 0))) aH)))
def sE:List aA->Option aA:=bx 2 2 RY
def Aa:SF:=(aO (bp .s (ak (ah cn (aM bR (aD (aB 1) aH)) (aM bR (aD (ah aq (aB 0) (eC (.int 1))) aH)))) (bT 1 .s (eC .none)) cK)
 (aO (bC 3 1 .s (aM JV (aD (aB 2) aH)))
 (aO (cT .s (iZ (aD (ah aq (aB 0) (eC (.int 1))) (aD (aB 1) aH))) (jL 4 5) (aO (k8 6 3 .s (ak (dz (fD "str") (aB 4))) .s (aB 4) .s (aB 5) .s (aB 4))
 (bp .s (ak (ah cn (aB 5) (aB 6))) (bT 1 .s (eC .none)) cK)))
 (jA 3 1))))
def rS:List aA->Option aA:=bx 3 7 Aa
def UT:SF:=(bT 0 .s (eY (aB 0) (ah aq (aB 1) (eC (.int 0))) (cU aH)))
def qC:List aA->Option aA:=bx 2 2 UT
def US:SF:=(aO (bC 1 0 .s (eC (.int 1)))
 (aO (cT .s (ax (aB 0)) (dq 2) (bC 1 0 .s (ah gF (aB 1) (aM tT (aD (eC (.int 1)) (aD (aM bR (aD (aB 2) aH)) aH))))))
 (bT 0 .s (aB 1))))
def BD:List aA->Option aA:=bx 1 3 US
def WV:SF:=(aO (bp .s (ak (ah je (aB 1) (aM bR (aD (aB 0) aH)))) (bT 0 .s (ah aq (aB 0) (aB 1))) cK)
 (aO (bp .s (ak (ah ck (aM bR (aD (aB 0) aH)) (eC (.int 0)))) (bT 0 .s (ah dE (ah mO (ah mO (aB 1) (aB 1)) (eC (.int 7919))) (eC (.int 31)))) cK)
 (bT 0 .s (ah dE (ah mO (ah aq (aB 0) (ah cJ (aB 1) (aM bR (aD (aB 0) aH)))) (ah dE (aB 1) (eC (.int 2)))) (ah mO (ah mO (aB 1) (aB 1)) (eC (.int 69621)))))))
def fQ:List aA->Option aA:=bx 2 2 WV
def WS:SF:=(aO (bC 3 0 .s (ah gF (ah dE (ah dE (ah cJ (aB 0) (eC (.int 2147483629))) (ah gF (eC (.int 5)) (aB 1))) (eC (.int 1))) (ah dE (eC (.int 48271)) (ah gF (aB 1) (aB 1)))))
 (bT 0 .s (ah cJ (ah cJ (ah gF (aB 3) (aB 3)) (eC (.int 2147483647))) (aB 2))))
def xS:List aA->Option aA:=bx 3 4 WS
def XR:SF:=(aO (bp .s (ak (ah ck (aB 0) (eC (.int 1)))) (bT 1 .s (cU (aD (aB 1) (aD (ah cJ (ah dE (aB 1) (eC (.int 1))) (aB 2)) aH)))) cK)
 (aO (bp .s (ak (ah ck (aB 0) (eC (.int 2)))) (bT 1 .s (cU (aD (aB 1) (aD (ah dE (aB 1) (eC (.int 1))) aH)))) cK)
 (aO (bp .s (ak (ah ck (aB 0) (eC (.int 3)))) (bT 1 .s (cU (aD (eC (.int 0)) (aD (ah dE (aB 1) (eC (.int 1))) aH)))) cK)
 (aO (bp .s (ak (ah ck (aB 0) (eC (.int 4)))) (bT 1 .s (cU (aD (ah cJ (aB 1) (eC (.int 3))) (aD (ah aq (cU (aD (ah cJ (ah dE (aB 1) (eC (.int 1))) (eC (.int 3))) (aD (eC (.int 4)) aH))) (ah dY (aB 1) (eC (.int 3)))) aH)))) cK)
 (aO (bp .s (ak (ah ck (aB 0) (eC (.int 5)))) (bT 1 .s (aM zS (aD (aM DP (aD (eC (.int 4)) (aD (ah dE (aB 1) (eC (.int 1))) aH))) aH))) cK)
 (bT 1 .s (cU aH)))))))
def BQ:List aA->Option aA:=bx 3 3 XR
def WC:SF:=(aO (bC 2 1 .s (eC (.dict [])))
 (aO (cT .s (iZ (aD (aB 0) (aD (aB 1) aH))) (jL 3 4) (bp .s (ak (dz (fD "str") (aB 3))) (tP 2 .s (aB 3) .s (aB 4) .s (aB 4) (bT 1 .s (eC .none))) (bp .s (ak (ah cn (aB 3) (aB 4))) (bT 1 .s (eC .none)) cK)))
 (jA 2 1)))
def jP:List aA->Option aA:=bx 2 5 WC
def YT:SF:=(aO (cT .s (u0 (aB 0)) (dq 2) (bp .s (ak (ah cn (eY (aB 1) (aB 2) (ah aq (aB 0) (aB 2))) (ah aq (aB 0) (aB 2)))) (bT 0 .s (eC (.bool ag))) cK))
 (bT 0 .s (eC (.bool af))))
def qK:List aA->Option aA:=bx 2 3 YT
def WD:SF:=(aO (cT .s (ax (aB 1)) (dq 2) (aO (bC 3 1 .s (eC (.dict [])))
 (aO (cT .s (ax (aB 1)) (dq 4) (bp .s (ak (ah cn (aB 4) (aB 2))) (oW 3 .s (aM rP (aD (bw [ae] (ax (ah aq (ah aq (aB 0) (aB 4)) (eC (.int 1)))) (gB 0) cI (dD (aD (aB 0) (aD (eC (.bool af)) aH)))) aH))) cK))
 (hZ 3 (cT .s (ax (aB 1)) (dq 4) (aO (bC 5 1 .s (bw [ae,aa 3,aa 0,aa 4] (ax (ah aq (ah aq (aB 0) (aB 2)) (eC (.int 1)))) (gB 0) (fL (ak (ah (fz ag) (aB 0) (aB 1))) (ak (ah (fz af) (aB 0) (ah aq (ah aq (aB 2) (aB 3)) (eC (.int 1)))))) (aB 0)))
 (hZ 5 (bp .s (fL (ak (ah cn (aB 4) (aB 2))) (ak (ah ck (aM bR (aD (bw [ae] (ax (aB 5)) (gB 0) (ak (dz (fD "str") (aB 0))) (aB 0)) aH)) (eC (.int 0))))) (bT 0 .s (dD (aD (aB 2) (aD (aB 4) aH)))) cK))))))))
 (bT 0 .s (eC .none)))
def xR:List aA->Option aA:=bx 2 6 WD
def YN:SF:=(bT 0 .s (aM gG (aD (bw [ae,aa 1] (ax (aB 0)) (gB 0) cI (dD (aD (ah aq (aB 0) (eC (.int 0))) (aD (aM sE (aD (ah aq (aB 0) (eC (.int 1))) (aD (aB 1) aH))) aH)))) aH)))
def JN:List aA->Option aA:=bx 2 2 YN
def RC:SF:=(aO (bC 2 0 .s (aM xQ (aD (ah CB (tN (aB 0) oN (oS (aB 1))) (tN (aB 0) (oS (ah dE (aB 1) (eC (.int 1)))) oN)) aH)))
 (bT 1 .s (bw [ae,aa 2] (ax (aM xQ (aD (dD (aD (ah aq (aB 0) (aB 1)) aH)) aH))) (gB 0) (ak (ah (fz ag) (aB 0) (aB 1))) (aB 0))))
def HX:List aA->Option aA:=bx 2 3 RC
def BS:SF:=(bp .s (ak (ah fy (aM BD (aD (aB 0) aH)) (eC (.int 4096)))) A6 cK)
def JL:List aA->Option aA:=bx 1 1 BS
def XA:SF:=(aO (bC 3 1 .s (cU aH))
 (aO (cT .s (ax (aB 0)) (dq 4) (cT .s (ax (aB 2)) (dq 5) (aO (bC 6 0 .s (aM rS (aD (aB 1) (aD (aB 5) (aD (aB 4) aH)))))
 (bp .s (ak (ah gW (aB 6) (eC .none))) (gE 3 .s (aB 6)) cK))))
 (jA 3 1)))
def IW:List aA->Option aA:=bx 3 7 XA
def TM:SF:=(bT 1 .s (aM uG (aD (bw [ae,aa 1] (ax (aM qC (aD (aB 0) (aD (aB 1) aH)))) (gB 0) (ak (ah gW (aM rS (aD (aB 1) (aD (aB 0) (aD (eC (.dict [])) aH)))) (eC .none))) (aB 0)) aH)))
def BG:List aA->Option aA:=bx 2 2 TM
def SU:SF:=(bT 1 .s (bw [ae,aa 1] (ax (aM xQ (aD (dD (aD (aB 0) aH)) aH))) (gB 0) (ak (ah (fz ag) (aB 0) (ah aq (aB 1) (eC (.int 1))))) (aB 0)))
def HL:List aA->Option aA:=bx 2 2 SU
def RT:SF:=(bT 0 .s (aM sE (aD (aB 2) (aD (aM rS (aD (aB 0) (aD (aB 1) (aD (eC (.dict [])) aH)))) aH))))
def sF:List aA->Option aA:=bx 3 3 RT
def Bl:SF:=(bT 1 .s (aM rS (aD (dD (aD (eC (.str "head")) (aD (aB 0) aH))) (aD (aB 1) (aD (eC (.dict [])) aH)))))
def GT:List aA->Option aA:=bx 2 2 Bl
def YB:SF:=(aO (bC 2 0 .s (aM fQ (aD (aB 0) (aD (eC (.int 1)) aH))))
 (aO (bp .s (ak (ah ck (ah cJ (aB 2) (eC (.int 2))) (eC (.int 0)))) (bT 0 .s (ah aq (cU (aD (ah mS (ah gF (eC (.int 2)) (aB 1)) (eC (.int 1))) (aD (ah mS (eC (.int 3)) (aB 1)) aH))) (ah cJ (ah dY (aB 2) (eC (.int 2))) (eC (.int 2))))) cK)
 (bT 0 .s (ah dE (ah dE (ah mS (ah cJ (ah dY (aB 2) (eC (.int 2))) (ah mS (ah gF (eC (.int 2)) (ah tQ (eC (.int 10)) (eC (.int 60)))) (eC (.int 9)))) (ah tQ (eC (.int 10)) (eC (.int 60)))) (eC (.int 4))) (aB 1)))))
def oR:List aA->Option aA:=bx 2 3 YB
def XX:SF:=(aO (bp .s (ak (ah ck (ah cJ (aM fQ (aD (aB 0) (aD (eC (.int 2)) aH))) (eC (.int 2))) (eC (.int 0)))) (bT 1 .s (cU (aD (eC (.str "a")) (aD (eC (.str "ab")) (aD (eC (.str "abc")) (aD (eC (.str "abcd")) (aD (eC (.str "b")) (aD (eC (.str "bc")) (aD (eC (.str "bcd")) (aD (eC (.str "c")) (aD (eC (.str "cd")) (aD (eC (.str "d")) aH)))))))))))) cK)
 (bT 1 .s (cU (aD (eC (.str "n9")) (aD (eC (.str "n8")) (aD (eC (.str "n7")) (aD (eC (.str "n6")) (aD (eC (.str "n5")) (aD (eC (.str "n4")) (aD (eC (.str "n3")) (aD (eC (.str "n2")) (aD (eC (.str "n1")) (aD (eC (.str "n0")) aH)))))))))))))
def BO:List aA->Option aA:=bx 1 1 XX
def XS:SF:=(aO (bC 2 1 .s (cU aH))
 (aO (cT .s (ax (aB 1)) (jL 3 4) (aO (bC 5 1 .s (bw [ae,aa 4] (ax (eY (aB 0) (aB 3) (cU aH))) (gB 0) (ak (ah gW (aM jP (aD (aB 1) (aD (aB 0) aH))) (eC .none))) (aB 0)))
 (hZ 5 (gE 2 .s (aM uG (aD (aB 5) aH))))))
 (aO (bC 6 1 .s (aM zS (aD (aM bR (aD (aB 1) aH)) aH)))
 (aO (bC 7 0 .a (aM xR (aD (aB 1) (aD (aB 6) aH))))
 (aO (iu .s (ak (ah gW (aB 7) (eC .none))) (aO (uA .s (aB 7) (jL 8 9))
 (aO (vV 10 2 .s (aB 8) [ae,aa 1,aa 8] (gB 0) cI (aM jP (aD (ah aq (ah aq (aB 1) (aB 2)) (eC (.int 1))) (aD (aB 0) aH))))
 (aO (bC 5 1 .s (cU aH))
 (aO (vW 2 .s (aB 9) (dq 11) (aO (bC 12 0 .s (aM jP (aD (ah aq (ah aq (aB 1) (aB 9)) (eC (.int 1))) (aD (aB 11) aH))))
 (bp .s (ak (ah fy (aM bR (aD (bw [ae,aa 12] (ax (aB 10)) (gB 0) (ak (aM qK (aD (aB 1) (aD (aB 0) aH)))) (aB 0)) aH)) (eC (.int 0)))) (gE 5 .s (aB 11)) cK)))
 (hZ 5 (aO (lW 2 .s (aB 5) .s (aB 9))
 (aO (lJ 6 .s (aB 8))
 (bC 7 0 .a (aM xR (aD (aB 1) (aD (aB 6) aH))))))))))) 100)
 (hZ 6 (jA 2 1)))))))
def JH:List aA->Option aA:=bx 2 13 XS
def YR:SF:=(aO (bC 2 0 .s (cU (aD (eC (.dict [])) aH)))
 (aO (cT .s (ax (aB 1)) (jL 3 4) (aO (bC 5 1 .s (cU aH))
 (aO (cT .s (ax (aB 2)) (dq 6) (cT .s (ax (eY (aB 0) (aB 3) (cU aH))) (dq 7) (aO (bC 8 1 .s (aM jP (aD (aB 4) (aD (aB 7) aH))))
 (bp .a (fL (ak (ah gW (aB 8) (eC .none))) (ak (aM qK (aD (aB 6) (aD (aB 8) aH))))) (aO (oW 8 .s (aB 6))
 (hZ 8 (gE 5 .s (aB 8)))) cK))))
 (hZ 5 (bC 2 0 .s (aB 5))))))
 (bT 0 .s (ah fy (aM bR (aD (aB 2) aH)) (eC (.int 0))))))
def JT:List aA->Option aA:=bx 2 9 YR
def XI:SF:=(aO (bC 3 0 .s (aM HX (aD (aM gG (aD (bw [ae,aa 0] (ax (aB 1)) (gB 0) cI (ah aq (aB 1) (aB 0))) aH)) (aD (ah FO (aB 1) (aB 2)) aH))))
 (aO (cT .s (ax (aB 1)) (dq 4) (bp .s (fL (ak (ah cn (aB 4) (aB 2))) (ak (aM vU (aD (bw [ae,aa 0,aa 4] (ax (aB 3)) (gB 0) cI (ah (fz ag) (aB 0) (ah aq (ah aq (aB 1) (aB 2)) (eC (.int 1))))) aH)))) (bT 0 .s (aB 4)) cK))
 (bT 0 .s (eC .none))))
def JF:List aA->Option aA:=bx 3 5 XI
def BV:SF:=(pV .s (aM JL (aD (bw [ae,aa 0] (ax (aB 1)) (gB 0) cI (aM qC (aD (aB 1) (aD (aB 0) aH)))) aH)))
def JS:List aA->Option aA:=bx 2 2 BV
def SK:SF:=(aO (bC 2 0 .s (cU (aD (eC (.dict [])) aH)))
 (aO (cT .s (iZ (aD (aB 0) (aD (aB 1) aH))) (jL 3 4) (bC 2 0 .s (aM IW (aD (aB 2) (aD (aB 3) (aD (aB 4) aH))))))
 (bT 0 .s (aB 2))))
def GV:List aA->Option aA:=bx 2 5 SK
def YE:SF:=(bT 2 .s (bw [ae,aa 0] (ax (aB 1)) (gB 0) cI (aM BG (aD (aB 1) (aD (aB 0) aH)))))
def JM:List aA->Option aA:=bx 2 2 YE
def YL:SF:=(aO (bC 4 0 .s (aM HL (aD (aB 0) (aD (aB 2) aH))))
 (aO (bC 5 0 .s (aM FP (aD (bw [ae,aa 2,aa 4] (ax (aB 3)) (gB 0) cI (dD (aD (aM sF (aD (aB 1) (aD (aB 0) (aD (aB 2) aH)))) (aD (eC (.bool af)) aH)))) aH)))
 (bT 1 .s (bw [ae,aa 5,aa 0,aa 4] (ax (aB 1)) (gB 0) (ak (ah (fz ag) (aM sF (aD (aB 2) (aD (aB 0) (aD (aB 3) aH)))) (aB 1))) (aB 0)))))
def JQ:List aA->Option aA:=bx 4 6 YL
def XW:SF:=(aO (bC 1 0 .s (aM fQ (aD (aB 0) (aD (eC (.int 0)) aH))))
 (aO (bC 2 0 .s (aM BO (aD (aB 0) aH)))
 (aO (bC 3 0 .s (ah cJ (ah dY (aB 1) (eC (.int 6))) (eC (.int 6))))
 (aO (bC 4 1 .s (cU aH))
 (aO (cT .s (jr (aD (aB 3) aH)) (dq 5) (aO (bC 6 0 .s (aM fQ (aD (aB 0) (aD (ah dE (eC (.int 3)) (aB 5)) aH))))
 (aO (bC 7 0 .s (aM BQ (aD (ah cJ (aB 1) (eC (.int 6))) (aD (ah cJ (ah dE (aB 5) (ah dY (aB 1) (eC (.int 30)))) (aB 3)) (aD (aB 3) aH)))))
 (aO (bC 8 1 .s (cU aH))
 (aO (cT .s (jr (aD (aM tT (aD (aM bR (aD (aB 7) aH)) (aD (ah dE (eC (.int 1)) (ah cJ (aB 6) (eC (.int 4)))) aH))) aH)) (dq 9) (aO (bC 10 0 .s (aM fQ (aD (aB 0) (aD (ah dE (ah dE (eC (.int 8)) (ah gF (eC (.int 4)) (aB 5))) (aB 9)) aH))))
 (aO (bC 11 0 .s (ah oV (aB 7) (cU (aD (ah dE (eC (.int 5)) (aB 5)) aH))))
 (aO (bp .s (ak (ah ck (ah cJ (aB 1) (eC (.int 6))) (eC (.int 0)))) (bC 11 0 .s (cU (aD (eC (.int 0)) (aD (eC (.int 1)) (aD (eC (.int 2)) (aD (eC (.int 3)) aH)))))) cK)
 (bp .s (ak (ah ck (ah cJ (aB 10) (eC (.int 4))) (eC (.int 0)))) (gE 8 .s (aM oR (aD (aB 0) (aD (ah cJ (ah dY (aB 10) (eC (.int 4))) (eC (.int 3))) aH)))) (gE 8 .s (ah aq (aB 2) (ah aq (aB 11) (ah cJ (ah dY (aB 10) (eC (.int 4))) (aM bR (aD (aB 11) aH)))))))))))
 (aO (cT .s (jr (aD (aM bR (aD (aB 7) aH)) aH)) (dq 9) (lW 8 .s (ah aq (aB 2) (ah aq (aB 7) (aB 9))) .a (ah cJ (ah dE (ah dY (aB 6) (eC (.int 4))) (aB 9)) (aM bR (aD (aB 8) aH)))))
 (hZ 8 (gE 4 .s (dD (aD (ah aq (cU (aD (eC (.str "t")) (aD (eC (.str "a")) (aD (eC (.str "tab")) (aD (eC (.str "n9")) aH))))) (ah mS (aM bR (aD (aB 8) aH)) (eC (.int 1)))) (aD (aM gG (aD (aB 8) aH)) aH)))))))))))
 (hZ 4 (bT 0 .s (aM gG (aD (aB 4) aH)))))))))
def JI:List aA->Option aA:=bx 1 12 XW
def YD:SF:=(aO (bC 2 1 .s (eC (.dict [])))
 (aO (cT .s (u3 (aD (aM BO (aD (aB 0) aH)) aH)) (jL 3 4) (rL 2 .s (aM oR (aD (aB 0) (aD (aM xS (aD (aB 1) (aD (aB 3) (aD (eC (.int 3)) aH)))) aH))) .s (aB 4)))
 (jA 2 1)))
def BR:List aA->Option aA:=bx 2 5 YD
def WW:SF:=(aO (bC 2 0 .s (cU aH))
 (aO (cT .s (ax (aB 1)) (dq 3) (bC 2 0 .s (ah oV (aB 2) (bw [ae] (ax (ah aq (aB 3) (eC (.int 1)))) (gB 0) (ak (dz (fD "str") (aB 0))) (aB 0)))))
 (aO (bC 4 1 .s (cU aH))
 (aO (cT .s (jr (aD (ah cJ (aM fQ (aD (aB 0) (aD (eC (.int 35)) aH))) (eC (.int 5))) aH)) (dq 5) (aO (bC 6 0 .s (aM fQ (aD (aB 0) (aD (ah dE (eC (.int 36)) (aB 5)) aH))))
 (gE 4 .s (ah aq (ah oV (aB 2) (cU (aD (aM oR (aD (aB 0) (aD (ah cJ (ah dY (aB 6) (eC (.int 40))) (eC (.int 3))) aH))) aH))) (ah cJ (aB 6) (ah dE (aM bR (aD (aB 2) aH)) (eC (.int 1))))))))
 (hZ 4 (bT 0 .s (aM gG (aD (aB 4) aH))))))))
def IY:List aA->Option aA:=bx 2 7 WW
def YI:SF:=(aO (uA .s (aB 1) (jL 3 4))
 (aO (bC 5 0 .s (eC .none))
 (aO (bp .s (ak (ah ck (aM bR (aD (aB 3) aH)) (aM bR (aD (aB 2) aH)))) (bC 5 0 .s (aM jP (aD (aB 3) (aD (aB 2) aH)))) cK)
 (aO (bp .s (ak (ah qY (aB 5) (eC .none))) (bT 0 .s (dD (aD (eC (.str "head")) aH))) cK)
 (aO (bC 4 0 .s (aM gG (aD (bw [ae,aa 5] (ax (aB 4)) (gB 0) cI (dD (aD (ah aq (aB 0) (eC (.int 0))) (aD (aM gG (aD (bw [ae,aa 1] (ax (ah aq (aB 0) (eC (.int 1)))) (gB 0) cI (eY (aB 1) (aB 0) (aB 0))) aH)) aH)))) aH)))
 (aO (bp .s (ak (aM JT (aD (aB 0) (aD (aB 4) aH)))) (bT 0 .s (eC .none)) cK)
 (bT 0 .s (dD (aD (eC (.str "rows")) (aD (aM JH (aD (aB 0) (aD (aB 4) aH))) aH))))))))))
def JR:List aA->Option aA:=bx 3 6 YI
def WX:SF:=(aO (cT .s (ax (aB 1)) (dq 2) (aO (bC 3 0 .s (aM JF (aD (aB 0) (aD (aB 1) (aD (aB 2) aH)))))
 (bp .s (ak (ah gW (aB 3) (eC .none))) (bT 0 .s (dD (aD (aB 2) (aD (aB 3) aH)))) cK)))
 (bT 0 .s (eC .none)))
def oQ:List aA->Option aA:=bx 2 4 WX
def XF:SF:=(aO (bC 2 2 .s (eC (.dict [])))
 (aO (bC 3 0 .s (ah aq (cU (aD (eC (.int 6)) (aD (eC (.int 6)) (aD (eC (.int 6)) (aD (eC (.int 6)) (aD (eC (.int 5)) (aD (eC (.int 4)) aH))))))) (aM bR (aD (aB 1) aH))))
 (aO (bp .s (fL (ak (ah ck (ah cJ (ah dY (aM fQ (aD (aB 0) (aD (eC (.int 30)) aH))) (eC (.int 24))) (eC (.int 8))) (eC (.int 0)))) (ak (ah je (aM bR (aD (aB 1) aH)) (eC (.int 3))))) (bC 3 0 .s (eC (.int 20))) cK)
 (aO (bC 4 0 .s (aM BR (aD (aB 0) (aD (aM fQ (aD (aB 0) (aD (eC (.int 28)) aH))) aH))))
 (aO (cT .s (ax (aB 1)) (jL 5 6) (aO (bC 7 0 .s (aM gG (aD (bw [ae,aa 4] (ax (aB 6)) (gB 0) cI (eY (aB 1) (aB 0) (aB 0))) aH)))
 (rR 2 .s (aB 7) .s (aB 5) .a (ak (ah je (aM bR (aD (ah aq (aB 2) (aB 5)) aH)) (aB 3))) (tZ 2 .s (aB 5) .s (aB 7)))))
 (aO (bp .s (fL (ak (ah ck (ah cJ (aM fQ (aD (aB 0) (aD (eC (.int 29)) aH))) (eC (.int 2))) (eC (.int 0)))) (ak (ah fy (aM bR (aD (aB 1) aH)) (eC (.int 0))))) (BY 2 .s (ah aq (ah aq (aB 1) (ah cJ (ah dY (aM fQ (aD (aB 0) (aD (eC (.int 29)) aH))) (eC (.int 2))) (aM bR (aD (aB 1) aH)))) (eC (.int 0)))) cK)
 (aO (cT .s (ax (cU (aD (dD (aD (eC (.int 1)) (aD (eC (.str "t")) aH))) (aD (dD (aD (eC (.int 2)) (aD (eC (.str "a")) aH))) (aD (dD (aD (eC (.int 3)) (aD (eC (.str "tab")) aH))) (aD (dD (aD (eC (.int 4)) (aD (eC (.str "n9")) aH))) aH)))))) (jL 8 5) (cT .s (jr (aD (ah cJ (ah dY (aM fQ (aD (aB 0) (aD (eC (.int 30)) aH))) (aB 8)) (ah dE (aB 3) (eC (.int 2)))) aH)) (dq 9) (aO (bC 10 0 .s (aM fQ (aD (aB 0) (aD (ah dE (eC (.int 30)) (aB 8)) aH))))
 (aO (bC 7 0 .s (aM gG (aD (bw [ae,aa 0,aa 10,aa 9] (jr (aD (aB 8) aH)) (gB 0) cI (aM oR (aD (aB 1) (aD (aM xS (aD (aB 2) (aD (ah dE (ah gF (eC (.int 5)) (aB 3)) (aB 0)) (aD (eC (.int 3)) aH)))) aH)))) aH)))
 (rR 2 .s (aB 7) .s (aB 5) .a (ak (ah je (aM bR (aD (ah aq (aB 2) (aB 5)) aH)) (aB 3))) (tZ 2 .s (aB 5) .s (aB 7)))))))
 (aO (bp .s (ak (ah ck (ah cJ (ah dY (aM fQ (aD (aB 0) (aD (eC (.int 29)) aH))) (eC (.int 16))) (eC (.int 2))) (eC (.int 0)))) (BZ 2 (ak (ah fy (aM bR (aD (aB 1) aH)) (eC (.int 0))))) cK)
 (jA 2 2)))))))))
def JG:List aA->Option aA:=bx 2 11 XF
def WB:SF:=(aO (bC 2 0 .s (aM fQ (aD (aB 0) (aD (eC (.int 40)) aH))))
 (aO (bC 3 0 .s (aM BR (aD (aB 0) (aD (aM fQ (aD (aB 0) (aD (ah dE (eC (.int 28)) (ah gF (ah cJ (aB 2) (eC (.int 2))) (eC (.int 13)))) aH))) aH))))
 (aO (bC 4 1 .s (bw [ae,aa 3] (ax (aB 1)) (gB 0) cI (eY (aB 1) (aB 0) (aB 0))))
 (aO (bp .a (fL (ak (ah ck (ah cJ (ah dY (aB 2) (eC (.int 2))) (eC (.int 3))) (eC (.int 0)))) (ak (ah fy (aM bR (aD (aB 4) aH)) (eC (.int 0))))) (lW 4 .s (aM oR (aD (aB 0) (aD (ah cJ (ah dY (aB 2) (eC (.int 24))) (eC (.int 3))) aH))) .a (ah cJ (ah dY (aB 2) (eC (.int 6))) (aM bR (aD (aB 4) aH)))) cK)
 (hZ 4 (aO (bp .s (ak (ah ck (ah cJ (ah dY (aB 2) (eC (.int 2))) (eC (.int 9))) (eC (.int 1)))) (bC 4 0 .s (ah oV (aB 4) (cU (aD (aM oR (aD (aB 0) (aD (eC (.int 0)) aH))) aH)))) cK)
 (bT 0 .s (aM gG (aD (aB 4) aH)))))))))
def IQ:List aA->Option aA:=bx 2 5 WB
def ZO:SF:=(aO (bC 1 1 .s (cU aH))
 (aO (bC 2 1 .s (aM zS (aD (aM bR (aD (aB 0) aH)) aH)))
 (aO (bC 3 0 .a (aM oQ (aD (aB 0) (aD (aB 2) aH))))
 (aO (iu .s (ak (ah gW (aB 3) (eC .none))) (aO (gE 1 .s (aB 3))
 (aO (lJ 2 .s (ah aq (aB 3) (eC (.int 0))))
 (bC 3 0 .a (aM oQ (aD (aB 0) (aD (aB 2) aH)))))) 100)
 (ZR 1 2)))))
def rU:List aA->Option aA:=bx 1 4 ZO
def ZH:SF:=(aO (bC 1 1 .s (tO 1 (aM rU (aD (aB 0) aH))))
 (ZY .a (ak (ah fy (aM bR (aD (aB 1) aH)) (eC (.int 1)))) 1 (cU aH)))
def wR:List aA->Option aA:=bx 1 2 ZH
def YO:SF:=(aO (OM 2 1)
 (aO (cT .s (ax (tO 0 (aM rU (aD (aB 0) aH)))) (jL 3 4) (zY 2 .a (aM JQ (aD (ah aq (aB 0) (aB 4)) (aD (ah aq (aB 2) (aB 4)) (aD (ah aq (aB 0) (aB 3)) (aD (ah aq (aB 2) (aB 3)) aH))))) .s (aB 4)))
 (jA 2 2)))
def JO:List aA->Option aA:=uy 5 YO
def XJ:SF:=(aO (bC 2 0 .s (tO 1 (aM rU (aD (aB 0) aH))))
 (bT 0 .s (aM GV (aD (aM gG (aD (bw [ae,aa 0] (ax (aB 2)) (gB 0) cI (ah aq (aB 1) (aB 0))) aH)) (aD (bw [ae,aa 1] (ax (aB 2)) (gB 0) cI (ah aq (aB 1) (aB 0))) aH)))))
def BP:List aA->Option aA:=bx 2 3 XJ
def BU:SF:=(pV .s (aM JS (aD (aB 0) (aD (aM gG (aD (bw [ae,aa 1] (ax (aM wR (aD (aB 1) aH))) (gB 0) cI (ah aq (aB 1) (aB 0))) aH)) aH))))
def YJ:List aA->Option aA:=bx 2 2 BU
def Bn:SF:=(aO (bC 3 0 .s (aM GT (aD (ah aq (aB 1) (eC (.int 0))) (aD (aB 2) aH))))
 (aO (bp .s (ak (ah qY (aB 3) (eC .none))) (vX .s (dD (aD (eC (.str "head")) aH))) cK)
 (aO (bC 4 0 .s (aM JN (aD (ah aq (aB 1) (eC (.int 1))) (aD (aB 3) aH))))
 (aO (pV .s (aM YJ (aD (aB 0) (aD (aB 4) aH))))
 (aO (bC 5 2 .s (aM JO (aD (aB 4) (aD (aM JM (aD (aB 0) (aD (aB 4) aH))) aH))))
 (aO (bp .a (ak (ah fy (aM bR (aD (aM BP (aD (aB 4) (aD (aB 5) aH))) aH)) (eC (.int 0)))) (vX .s (eC .none)) cK)
 (Ah "rows" 5)))))))
def FN:List aA->Option aA:=bx 3 6 Bn
def XT:SF:=(aO (bC 3 0 .s (aM JR (aD (aB 0) (aD (aB 1) (aD (aB 2) aH)))))
 (aO (bC 4 0 .s (aM rP (aD (bw [ae,ae] (sy (aB 0)) (pq 0 1) cI (dD (aD (aB 0) (aD (aM rC (aD (aB 1) aH)) aH)))) aH)))
 (aO (cT .s (jr (aD (eC (.int 2)) aH)) (dq 5) (aO (bC 6 3 .s (aM FN (aD (aB 0) (aD (aB 1) (aD (aB 2) aH)))))
 (aO (bp .a (m3 (ak (ah (qZ af) (aB 0) (aB 4))) (ak (ah cn (ah qY (aB 6) (eC .none)) (ah qY (aB 3) (eC .none))))) (bT 0 .s (eC (.bool ag))) cK)
 (aO (bp .a (fL (ak (ah gW (aB 6) (eC .none))) (m3 (qX (ak (dz (fD "tuple") (aB 6)))) (ak (ah cn (aB 6) (aB 3))))) (bT 0 .s (eC (.bool ag))) cK)
 (bp .a (fL (ak (ah gW (aB 6) (eC .none))) (ak (ah ck (aM bR (aD (aB 6) aH)) (eC (.int 2))))) (aO (EH 6 7 (dD (aD (eC (.int 1)) aH)))
 (aO (bp .a (ak (ah cn (qO (ah aq (aB 6) (eC (.int 1))) (oS (eC (.int 1))) oN) (qO (ah aq (aB 3) (eC (.int 1))) (oS (eC (.int 1))) oN))) (bT 0 .s (eC (.bool ag))) cK)
 (EO 6 (cU (aD (dD (aD (eC (.int 1)) aH)) aH))))) cK)))))
 (bT 0 .s (eC (.bool af))))))
def uY:List aA->Option aA:=bx 3 8 XT
def Fp:SF:=(aO (bC 1 0 .s (aM JI (aD (aB 0) aH)))
 (aO (bC 2 2 .s (aM JG (aD (aB 0) (aD (aB 1) aH))))
 (aO (bC 3 0 .s (aM IY (aD (aB 0) (aD (aB 1) aH))))
 (aO (bC 4 0 .s (aM IQ (aD (aB 0) (aD (aB 3) aH))))
 (aO (bp .a (qX (ak (aM uY (aD (aB 2) (aD (dD (aD (aB 3) (aD (aB 1) aH))) (aD (aB 4) aH)))))) (bT 0 .s (eC (.bool ag))) cK)
 (aO (cT .s (ax (tN (aB 1) oN (oS (eC (.int 1))))) (jL 5 6) (tj (wV 2 .a (qO (eY (aB 2) (aB 5) (cU aH)) (oS (eC (.int 1))) oN) .s (aB 5)) (zL 2 .a (qO (eY (aB 2) (aB 5) (cU aH)) (oS (eC (.int 1))) oN) .s (aB 5))))
 (hZ 2 (bT 0 .s (tM (aM uY (aD (aB 2) (aD (dD (aD (aB 3) (aD (aB 1) aH))) (aD (aB 4) aH)))) (aM uY (aD (aB 2) (aD (dD (aD (dD aH) (aD (aB 1) aH))) (aD (dD aH) aH)))))))))))))
def EJ:List aA->Option aA:=bx 1 7 Fp
end Aw
namespace L2
open PySem PySem.Spec PyProof.Rows
variable {F G:SF}{T:aA->List (Option aA)->Option (List (Option aA))}{ds:List aA}{Y:aP}{f:EF}{d:aA}{fi:AF}{n i:Nat}{cap:List (Option Nat)}
theorem Wb{T:aA->aP->Option aP}(P:Nat->aP->Prop)(h0:P 0 Y)
  (step:∀ i d Y,ds[i]?=aa d->P i Y->∃ Y1 Y2,T d Y=aa Y1/\(F Y1=aa (.nx Y2)\/F Y1=aa (.ct Y2))/\P (i+1) Y2):∃ Y',iC F T ds Y=aa (.nx Y')/\P ds.length Y':=by
 have go:∀ (rest:List aA) (i:Nat) (Y:aP),ds.drop i=rest->i+rest.length=ds.length->P i Y->∃ Y',iC F T rest Y=aa (.nx Y')/\P ds.length Y':=by
  intro rest;induction rest with
  |nil=>
   intro i Y _ hl p;simp at hl;subst hl;exact⟨Y,rfl,p⟩
  |cons d r ih=>
   intro i Y hd hl p;have hi:ds[i]?=aa d:=by
    have:=congrArg (·[0]?) hd;simpa using this
   obtain⟨Y1,Y2,e1,e2,p2⟩:=step i d Y hi p;have ji:ds.drop (i+1)=r:=by
    have:=congrArg List.tail hd;simpa using this
   obtain⟨Y',e3,p3⟩:=ih (i+1) Y2 ji (by simp at hl;lia) p2
   refine⟨Y',?_,p3⟩;show((T d Y).bind λY1=>(F Y1).bind λo=>match o with
    |.nx Y'=>iC F T r Y'
    |.ct Y'=>iC F T r Y'
    |.bk Y'=>aa (.nx Y')
    | .rt d=>aa (.rt d))=aa (.nx Y')
   grind
 exact go ds 0 Y (by simp) (by simp) h0
theorem QP{t:BF}{Y:List (Option aA)}(R:aA->aA->Prop):∀ (ds:List aA),(∀ d∈ds,∃ Y1 y,T d Y=aa Y1/\t Y1=aa af/\f Y1=aa y/\R d y) ->
  ∃ ys,gg T t f Y ds=aa ys/\dM R ds ys
 |[],_=>⟨[],rfl,.nil⟩
 |d::r,h=>by
  obtain⟨Y1,y,e1,e2,e3,hr⟩:=h d bO;obtain⟨ys,e4,hp⟩:=QP R r λd' m=>h d' (bM _ m)
  refine⟨y::ys,?_,.cons hr hp⟩;show((T d Y).bind λY1=>(t Y1).bind λc=>if c=af then(f Y1).bind λy=>(gg T t f Y r).bind λys=>aa (y::ys) else gg T t f Y r)=aa (y::ys)
  simp[e1,e2,e3,e4]
theorem QB{t:BF}{Y:List (Option aA)}(g:aA->aA):∀ (ds:List aA),(∀ d∈ds,∃ Y1,T d Y=aa Y1/\t Y1=aa af/\f Y1=aa (g d))->gg T t f Y ds=aa (ds.map g)
 |[],_=>rfl
 |d::r,h=>by
  obtain⟨Y1,e1,e2,e3⟩:=h d bO;have e4:=QB g r λd' m=>h d' (bM _ m)
  show((T d Y).bind λY1=>(t Y1).bind λc=>if c=af then(f Y1).bind λy=>(gg T t f Y r).bind λys=>aa (y::ys) else gg T t f Y r)=aa (g d::r.map g)
  simp[e1,e2,e3,e4]
theorem Paired.mem_right {α β:Type}{R:α->β->Prop}:∀ {as:List α} {bs:List β},dM R as bs->∀ b∈bs,∃ a∈as,R a b:=by
 intro as bs h;induction h with
 |nil=>exact λb m=>by simp at m
 |cons h _ ih=>
  grind
theorem Hl{Y':aP}(h:F Y=aa (.nx Y')):aO F G Y=G Y':=by
 unfold aO;rw[h]
 rfl
theorem Kt(h:F Y=aa (.rt d)):aO F G Y=aa (.rt d):=by
 unfold aO;rw[h]
 rfl
theorem FS {m:Md}{T:aA->aP->Option aP}{o:Out}(h:aV m fi Y=aa ds)(h2:iC F T ds Y=aa o):cT m fi T F Y=aa o:=by
 unfold cT;rw[h];exact h2
theorem Fx {np:Nat}{body:SF}(hl:ds.length=np)(h:body (ds.map (λd=>aa (0,d))++mL (n-np) ae)=aa (.rt d)):bx np n body ds=aa d:=by
 unfold bx;rw[if_pos hl,h]
 rfl
theorem Qd {α β:Type}{R:α->β->Prop}{as:List α}{bs:List β}(h:dM R as bs):bs.length=as.length:=(nP h).symm
theorem Af {β:Type}{g:β->aA}{R:β->Prop}:∀ (ys:List aA),(∀ y∈ys,∃ c,y=g c/\R c)->∃ cs:List β,ys=cs.map g/\∀ c∈cs,R c
 |[],_=>⟨[],rfl,λ_ m=>by simp at m⟩
 |y::r,h=>by
  obtain⟨c,e,hc⟩:=h y bO;obtain⟨cs,e2,h2⟩:=Af r λz m=>h z (bM _ m)
  refine⟨c::cs,by rw[e,e2];rfl,λx m=>?_⟩
  grind
theorem Il{k:Nat}(h:k<=ds.length):cutD ds ae (aa (k:Int))=ds.take k:=by
 unfold cutD;rw[HT.As5,HT.Ax0];simp[Nat.min_eq_left h]
theorem lB(h:n<=100000):n<=sizeLine:=cM h nofun
theorem oK(h:n<=100000):n<sizeLine:=CQ h nofun
def letter (c:Nat):Bool:=decide (97<=c)&&decide (c<=122)
def figure (c:Nat):Bool:=decide (48<=c)&&decide (c<=57)
def Kf (c:Nat):Bool:=letter c||figure c
def Fh (cs:List Nat):Prop:=∃ c r,cs=c::r/\letter c=af/\(∀ x∈cs,Kf x=af)/\cs.length<=12
def nameS (z:aE):Prop:=Fh z.cps.toList
theorem uF (a:Int){b:Int}(h:0<b):0<=a%b/\a%b<b:=⟨Int.emod_nonneg _ (),Int.emod_lt_of_pos _ h⟩
def Goes (F:SF)(Y:aP)(P:Out->Prop):Prop:=∃ o,F Y=aa o/\P o
variable {P:Out->Prop}{m:Md}
theorem Goes.mono {P':Out->Prop}(h:Goes F Y P)(k:∀ o,P o->P' o):Goes F Y P':=by
 obtain⟨o,e,p⟩:=h;exact⟨o,e,k o p⟩
theorem eZ {Y':aP}(h:F Y=aa (.nx Y'))(k:Goes G Y' P):Goes (aO F G) Y P:=by
 obtain⟨o,e,p⟩:=k;exact⟨o,by rw[Hl h];exact e,p⟩
theorem dH (I:aP->Prop)(h:Goes F Y λo=>∃ Y',o=.nx Y'/\I Y')(k:∀ Y',I Y'->Goes G Y' P):Goes (aO F G) Y P:=by
 obtain⟨o,e,Y',rfl,i⟩:=h;exact eZ e (k Y' i)
theorem AO(h:F Y=aa (.rt d))(k:P (.rt d)):Goes (aO F G) Y P:=⟨_,Kt h,k⟩
theorem OH {t:BF}{b:Bool}(h:bV m t Y=aa b)(k:Goes (if b=af then F else G) Y P):Goes (bp m t F G) Y P:=by
 obtain⟨o,e,p⟩:=k;refine⟨o,?_,p⟩;show((bV m t Y).bind λb=>if b=af then F Y else G Y)=aa o
 rw[h];cases b
 .exact e
 .exact e
theorem dZ {t:BF}(h:bV m t Y=aa af)(k:Goes F Y P):Goes (bp m t F G) Y P:=OH h k
theorem fP {t:BF}(h:bV m t Y=aa ag)(k:Goes G Y P):Goes (bp m t F G) Y P:=OH h k
theorem gH (k:P (.nx Y)):Goes cK Y P:=⟨_,rfl,k⟩
theorem pT {t:BF}(h:bV m t Y=aa ag):bp m t F cK Y=aa (.nx Y):=by
 unfold bp;rw[h]
 rfl
theorem uK (h:Goes F Y λo=>∃ d,o=.rt d/\P o):Goes (aO F G) Y P:=by
 obtain⟨o,e,d,rfl,p⟩:=h;exact AO e p
theorem cW(h:f (vS Y)=aa d)(k:P (.rt d)):Goes (bT n .s f) Y P:=⟨_,by
 unfold bT eV;simp only[h,bE],k⟩
theorem zP(h:eV n m f Y=aa d)(hl:i<Y.length)(k:P (.nx (Y.set i (aa (n,d))))):Goes (bC i n m f) Y P:=
 ⟨_,by unfold bC;rw[h];simp only[bE,if_pos hl],k⟩
theorem qB(h:f (vS Y)=aa d)(hl:i<Y.length)(k:P (.nx (Y.set i (aa (n,d))))):Goes (bC i n .s f) Y P:=zP h hl k
theorem kJ(h:Goes F (frz i Y) P):Goes (hZ i F) Y P:=h
theorem Jb(h:n<=1000000):EC 0 (n:Int)=aa ((cQ n).map λ(k:Nat)=>bF k):=by
 unfold EC;rw[if_pos ()]
 simp
theorem rV {fa:AF}{Y:List (Option aA)}(h:fa Y=aa [.int n])(hn:n<=1000000):jr fa Y=aa ((cQ n).map λ(k:Nat)=>bF k):=by
 have e:=Jb hn;generalize aa ((cQ n).map λ(k:Nat)=>bF k)=y at e ⊢
 rw[<-e];unfold jr;rw[h,bE]
theorem c9(h:fi (vS Y)=aa ds):aV .s fi Y=aa ds:=h
theorem ZQ{T:aA->aP->Option aP}(I:Nat->aP->Prop)(h:aV m fi Y=aa ds)(h0:I 0 Y)
  (step:∀ i d Y,ds[i]?=aa d->I i Y->∃ Y1,T d Y=aa Y1/\Goes F Y1 λo=>∃ Y2,(o=.nx Y2\/o=.ct Y2)/\I (i+1) Y2) (k:∀ Y',I ds.length Y'->P (.nx Y')):Goes (cT m fi T F) Y P:=by
 obtain⟨Y',e,i⟩:=Wb I h0 λi d Y hd p=>by
  obtain⟨Y1,e1,o,e2,Y2,e3,p2⟩:=step i d Y hd p;refine⟨Y1,Y2,e1,?_,p2⟩;rcases e3 with rfl|rfl
  .exact .inl e2
  .exact .inr e2
 exact⟨_,FS h e,k Y' i⟩
theorem uL{T:aA->aP->Option aP}(I:Nat->aP->Prop)(h:aV m fi Y=aa ((cQ n).map λ(k:Nat)=>bF k))(h0:I 0 Y)
  (step:∀ (i:Nat) Y,i<n->I i Y->∃ Y1,T (.int i) Y=aa Y1/\Goes F Y1 λo=>∃ Y2,(o=.nx Y2\/o=.ct Y2)/\I (i+1) Y2) (k:∀ Y',I n Y'->P (.nx Y')):Goes (cT m fi T F) Y P:=by
 refine ZQ I h h0 (λi d Y hd p=>?_) (by simpa using k)
 have br:i<n:=by
  have:=(cR.1 hd).1;simpa using this
 rw[gJ,List.getElem?_range br] at hd;have:bF (i:Int)=d:=by simpa using hd
 subst this;exact step i Y br p
theorem dC {np:Nat}{body:SF}{Q:aA->Prop}(hl:ds.length=np)(h:Goes body (ds.map (λd=>aa (0,d))++mL (n-np) ae) λo=>∃ d,o=.rt d/\Q d):∃ d,bx np n body ds=aa d/\Q d:=by
 obtain⟨o,e,d,rfl,q⟩:=h;exact⟨d,Fx hl e,q⟩
theorem Gf{t:BF}{Y:List (Option aA)}(R:aA->aA->Prop)(h1:fi Y=aa ds)(h2:ds.length<=100000)
  (h:∀ d∈ds,∃ Y1 y,T d (fK cap Y)=aa Y1/\t Y1=aa af/\f Y1=aa y/\R d y):∃ ys,bw cap fi T t f Y=aa (.list ys)/\dM R ds ys:=by
 obtain⟨ys,e,hp⟩:=QP R ds h;refine⟨ys,?_,hp⟩;unfold bw;rw[h1,bE,e,bE,if_pos (lB h2)]
theorem ZG{t:BF}{Y:List (Option aA)}(g:aA->aA)(h1:fi Y=aa ds)(h2:ds.length<=100000)
  (h:∀ d∈ds,∃ Y1,T d (fK cap Y)=aa Y1/\t Y1=aa af/\f Y1=aa (g d)):bw cap fi T t f Y=aa (.list (ds.map g)):=by
 unfold bw;rw[h1,bE,QB g ds h,bE,if_pos (lB h2)]
theorem Nd{t:BF}{Y:List (Option aA)}{β:Type}(g:β->aA)(R:β->Prop)(h1:fi Y=aa ((cQ n).map λ(k:Nat)=>bF k))(h2:n<=100000)
  (h:∀ k<n,∃ Y1 y,T (.int (k:Nat)) (fK cap Y)=aa Y1/\t Y1=aa af/\f Y1=aa (g y)/\R y):∃ ys:List β,bw cap fi T t f Y=aa (.list (ys.map g))/\ys.length=n/\∀ y∈ys,R y:=by
 obtain⟨ys,e,hp⟩:=Gf (λ_ y=>∃ x,y=g x/\R x) h1 (by simpa using h2) λd m=>by
  obtain⟨k,hk,rfl⟩:=cB.1 m;obtain⟨Y1,y,a1,a2,a3,a4⟩:=h k (by simpa using hk)
  exact⟨Y1,g y,a1,a2,a3,y,rfl,a4⟩
 obtain⟨xs,rfl,hx⟩:=Af ys λy m=>by
  obtain⟨_,_,x,e,hx⟩:=L2.Paired.mem_right hp y m;exact⟨x,e,hx⟩
 have:=Qd hp;exact⟨xs,e,by simpa using this,hx⟩
end L2
namespace L2
open PySem PySem.Spec PyProof.Rows
variable {f:EF}{ds:List aA}{d:aA}{kds:List (aA×aA)}
variable {F G:SF}{Y:aP}{P:Out->Prop}{m:Md}
theorem fA{Y:List (Option aA)}(h:f Y=aa (.list ds)):ax f Y=aa ds:=by
 unfold ax;rw[h]
 rfl
theorem jC{Y:List (Option aA)}(h:f Y=aa (.tuple ds)):ax f Y=aa ds:=by
 unfold ax;rw[h]
 rfl
theorem aY {fa:AF}{g:List aA->Option aA}{Y:List (Option aA)}(h:fa Y=aa ds)(h2:g ds=aa d):aM g fa Y=aa d:=by
 unfold aM;rw[h];exact h2
theorem aN {fa fb:EF}{g:aA->aA->Option aA}{Y:List (Option aA)}{a b:aA}(h:fa Y=aa a)(h2:fb Y=aa b)(h3:g a b=aa d):ah g fa fb Y=aa d:=by
 unfold ah;rw[h,h2];exact h3
theorem qA {i:Nat}(h:f (vS Y)=aa d)(hg:getL i Y=aa ds)(hl:ds.length<100000)(k:P (.nx (Y.set i (aa (1,.list (ds++[d])))))):Goes (gE i .s f) Y P:=⟨_,by
 unfold gE eV;simp only[h,bE,hg,if_pos (oK (nQ hl))],k⟩
theorem Bi {i:Nat}{g:EF}{kd:aA}{key:aG}(h:f (vS Y)=aa d)(hg:kT i Y=aa kds)(hk:g (vS Y)=aa kd)(ha:bK kd=aa key)(hl:kds.length<100000)(k:P (.nx (Y.set i (aa (1,.dict (putD kds key d)))))):Goes (rL i .s f .s g) Y P:=⟨_,by
 unfold rL eV;simp only[h,bE,hg,hk,ha,if_pos (oK (nQ hl))],k⟩
def Fg (d:aA):Prop:=(∃ z,d=.str z/\nameS z)\/∃ i,d=.int i
theorem AV:∀ {ts:List aA},(∀ t∈ts,bS t=af)->bY ts=af
 |[],_=>by simp[bY]
 |t::r,h=>by
  simp only[bY,CY];exact⟨h t bO,AV λx m=>h x (bM _ m)⟩
theorem sH {n:Nat}:∀ {ts:List aA},(∀ t∈ts,t.depth<=n)->cX ts<=n
 |[],_=>by simp[cX]
 |t::r,h=>by
  simp only[cX];exact Nat.max_le.2 ⟨h t bO,sH λx m=>h x (bM _ m)⟩
theorem uV:∀ {ts:List aA},(∀ t∈ts,noDict t=af)->noDicts ts=af
 |[],_=>by simp[noDicts]
 |t::r,h=>by
  simp only[noDicts,CY];exact⟨h t bO,uV λx m=>h x (bM _ m)⟩
structure Kn (kds:List (aA×aA)):Prop where
 fit:∀ kd∈kds,(∃ z,kd.1=.str z)/\Fg kd.2
 once:(kds.map (·.1)).Nodup
theorem Kn.nil:Kn []:=⟨λ_ m=>by simp at m,by simp⟩
theorem Kn.int(h:Kn kds)(i:Int):bQ kds (.inl i)=ae:=by
 have:(kds.find? λkd=>decide (bK kd.1=aa (.inl i)))=ae:=by
  rw[CT];intro kd m;obtain⟨⟨z,e⟩,_⟩:=h.fit kd m;simp[e,bK]
 unfold bQ;rw[this]
 rfl
theorem wQ(h:∀ kd∈kds,kd.1 ≠ .none):cv kds=af:=by
 cases kds with
 |nil=>rfl
 |cons p r=>
  obtain⟨k,d⟩:=p;have:=h (k,d) bO;cases k<;>first|rfl|exact absurd rfl this
theorem QC:∀ {kss:List (List aA)},(∀ k∈kss,bY k=af/\cX k<=6)->nC (kss.map dJ)=aa kss
 |[],_=>rfl
 |k::r,h=>by
  show(if bY k=af/\cX k<=6 then(nC (r.map dJ)).bind λkss=>aa (k::kss) else ae)=_
  rw[if_pos (h k bO),QC λx m=>h x (bM _ m)]
  rfl
end L2
namespace L2
open PySem PySem.Spec PyProof.Rows
variable {f:EF}{i n:Nat}{d:aA}
variable {F G:SF}{Y:aP}{P:Out->Prop}{m:Md}
theorem iN {α β:Type}{fi:AF}{T:aA->aP->Option aP}{xs:List α}{q:α->aA}(g:β->α->β)(I:Nat->β->aP->Prop){b0:β}(h:aV m fi Y=aa (xs.map q))(h0:I 0 b0 Y)
  (step:∀ i x b Y,xs[i]?=aa x->I i b Y->∃ Y1,T (q x) Y=aa Y1/\Goes F Y1 λo=>∃ Y2,(o=.nx Y2\/o=.ct Y2)/\I (i+1) (g b x) Y2) (k:∀ Y',I xs.length (xs.foldl g b0) Y'->P (.nx Y')):Goes (cT m fi T F) Y P:=by
 refine ZQ (λi Y=>I i ((xs.take i).foldl g b0) Y) h h0 (λi d Y hd p=>?_) (λY' p=>k Y' (by simpa using p))
 rw[gJ] at hd;obtain⟨x,hx,rfl⟩:=mJ.1 hd;obtain⟨Y1,e1,g1⟩:=step i x _ Y hx p;refine⟨Y1,e1,g1.mono λo ⟨Y2,e,q⟩=>⟨Y2,e,?_⟩⟩
 have:xs.take (i+1)=xs.take i++[x]:=by rw[LX,hx];rfl
 rw[this,MB];exact q
def xr (F:SF)(T:aA->aP->Option aP)(ds:List aA):Out->Option Out
 |.nx Y=>iC F T ds Y
 |.ct Y=>iC F T ds Y
 |.bk Y=>aa (.nx Y)
 |.rt d=>aa (.rt d)
theorem HS {T:aA->List (Option aA)->Option (List (Option aA))}{t:BF}{Y:List (Option aA)}{α:Type}{q:α->aA}(p:α->Bool)(g:α->aA):∀ (xs:List α),
  (∀ x∈xs,∃ Y1,T (q x) Y=aa Y1/\t Y1=aa (p x)/\(p x=af->f Y1=aa (g x)))->gg T t f Y (xs.map q)=aa ((xs.filter p).map g)
 |[],_=>rfl
 |x::xs,h=>by
  obtain⟨Y1,e1,e2,e3⟩:=h x bO;have ih:=HS p g xs λy m=>h y (bM _ m)
  show((T (q x) Y).bind λY1=>(t Y1).bind λc=>if c=af then(f Y1).bind λy=>(gg T t f Y (xs.map q)).bind λys=>aa (y::ys) else gg T t f Y (xs.map q))=_
  grind
theorem fZ {cap:List (Option Nat)}{fi:AF}{T:aA->List (Option aA)->Option (List (Option aA))}{t:BF}{Y:List (Option aA)}{α:Type}{xs:List α}{q:α->aA}(p:α->Bool)(g:α->aA)(h1:fi Y=aa (xs.map q))(h2:xs.length<=100000)
  (h:∀ x∈xs,∃ Y1,T (q x) (fK cap Y)=aa Y1/\t Y1=aa (p x)/\(p x=af->f Y1=aa (g x))):bw cap fi T t f Y=aa (.list ((xs.filter p).map g)):=by
 unfold bw;rw[h1,bE,HS p g xs h,bE,if_pos (lB (by simpa using h2))]
theorem ZM(h:eV n m f Y=aa d)(hl:i<Y.length):bC i n m f Y=aa (.nx (Y.set i (aa (n,d)))):=by
 obtain⟨o,e,q⟩:=zP (P:=λo=>o=.nx (Y.set i (aa (n,d)))) h hl rfl
 rw[e,q]
theorem cA(h:f (vS Y)=aa d)(hl:i<Y.length)(k:Goes G (Y.set i (aa (n,d))) P):Goes (aO (bC i n .s f) G) Y P:=eZ (ZM h hl) k
theorem QS(h:f (vA Y)=aa d)(hf:fO n d=af)(hl:i<Y.length)(k:Goes G (Y.set i (aa (n,d))) P):Goes (aO (bC i n .a f) G) Y P:=
 eZ (ZM (by show((f (vA Y)).bind λd=>if fO n d=af then aa d else ae)=_;rw[h,bE,if_pos hf]) hl) k
theorem tW {fa:EF}{g:aA->Option aA}{Y:List (Option aA)}{a:aA}(h:fa Y=aa a)(h3:g a=aa d):dz g fa Y=aa d:=by
 unfold dz;rw[h];exact h3
theorem aZ{g:AF}{Y:List (Option aA)}{ds:List aA}(h:f Y=aa d)(h2:g Y=aa ds):aD f g Y=aa (d::ds):=by
 unfold aD;rw[h,h2]
 rfl
end L2
namespace L2
def eW {α:Type}[DecidableEq α](am:List α)(z:α):List α:=if z∈am then am else am++[z]
def rG {α:Type}[DecidableEq α](zs:List α):List α:=zs.foldl eW []
section
variable {α:Type}[DecidableEq α]
theorem Auw {am:List α}{z x:α}:x∈eW am z↔x∈am\/x=z:=by
 unfold eW
 grind
theorem BB {x:α}:∀ (zs am:List α),x∈zs.foldl eW am↔x∈am\/x∈zs
 |[],am=>by simp
 |z::zs,am=>by
  rw[pI,BB zs,Auw]
  grind
theorem Od {x:α}{zs:List α}:x∈rG zs↔x∈zs:=by
 unfold rG;rw[BB];simp
theorem uT (am:List α)(z:α):(eW am z).length<=am.length+1:=by
 unfold eW;split<;>simp
theorem BH:∀ (zs am:List α),(zs.foldl eW am).length<=am.length+zs.length
 |[],am=>by simp
 |z::zs,am=>by
  have h1:=BH zs (eW am z);have h2:=uT am z
  grind
end
open PySem PySem.Spec PyProof.Rows
structure KnR (R:aA->Prop)(kds:List (aA×aA)):Prop where
 fit:∀ kd∈kds,(∃ z,kd.1=.str z)/\R kd.2
 once:(kds.map (·.1)).Nodup
variable {R:aA->Prop}{kds:List (aA×aA)}
theorem KnR.nil:KnR R []:=⟨λ_ m=>by simp at m,by simp⟩
theorem KnR.look (h:KnR R kds):∀ kd∈kds,∃ z,kd.1=.str z/\bQ kds (.inr z)=aa kd.2:=by
 obtain⟨hf,ho⟩:=h;induction kds with
 |nil=>intro _ m;simp at m
 |cons a r ih=>
  rw[cY,gC] at ho;intro kd m;obtain⟨z,ez⟩:=(hf kd m).1;refine⟨z,ez,?_⟩;rcases cV.1 m with rfl|m
  .simp[bQ,gD,ez,bK]
  .obtain⟨z',e1,e2⟩:=ih (λx m=>hf x (bM _ m)) ho.2 kd m
   obtain rfl:z'=z:=by
    have q:=e1.symm.trans ez;injection q
   have gu:¬ bK a.1=aa (.inr z'):=λq=>ho.1 (cB.2 ⟨kd,m,by rw[e1];exact(qI q).symm⟩)
   have e3:bQ (a::r) (.inr z')=bQ r (.inr z'):=by simp[bQ,gD,gu]
   rw[e3];exact e2
theorem KnR.hit (h:KnR R kds)(hs:∀ d,R d->bU d d=af):∀ {r:List (aA×aA)},(∀ kd∈r,kd∈kds)->qL kds r=af
 |[],_=>rfl
 |(k,d)::r,hr=>by
  have m:=hr (k,d) bO;obtain⟨z,e,q⟩:=h.look (k,d) m;have e':=e;have q':=q;subst e';simp only[qL,bK,bE,q',hs d (h.fit (dB z,d) m).2,yW];exact h.hit hs λkd mm=>hr kd (bM _ mm)
theorem KnR.pl (h:KnR R kds):cv kds=af:=wQ λkd m=>by
 obtain⟨⟨z,e⟩,_⟩:=h.fit kd m
 grind
theorem KnR.eqK (h:KnR R kds)(hs:∀ d,R d->bU d d=af)(ho:∀ d,R d->cS d=af)(neg:Bool):qZ neg (.dict kds) (.dict kds)=aa (.bool (neg != af)):=by
 have h1:valsOk kds=af:=fV.2 λkd m=>ho _ (h.fit kd m).2
 have h2:=h.hit hs λ_ m=>m
 simp[qZ,h1,zW,h2,h.pl]
def bL (r:List Int):aA:=.tuple (r.map bF)
def aW (rs:List (List Int)):aA:=.list (rs.map bL)
theorem HF (r:List Int):bS (bL r)=af:=by
 refine AV λt m=>?_
 obtain⟨i,_,rfl⟩:=cB.1 m
 rfl
theorem SR (rs:List (List Int)):bY (rs.map bL)=af:=AV λt m=>by
 obtain⟨r,_,rfl⟩:=cB.1 m;exact HF r
theorem UJ (rs:List (List Int)):bU (aW rs) (aW rs)=af:=by
 have:=xN _ _ (SR rs) (SR rs);simp[aW,bU,this]
theorem Kp {Y:aP}{P:Out->Prop}{i:Nat}{f g:EF}{d:aA}{j:Int}{jn:Nat}{ds:List aA}(h:f (vS Y)=aa d)(hg:getL i Y=aa ds)(hk:g (vS Y)=aa (.int j))(hj:gf ds.length j=aa jn)(k:P (.nx (Y.set i (aa (1,.list (ds.set jn d)))))):Goes (lW i .s f .s g) Y P:=by
 refine⟨_,?_,k⟩;have e1:eV 0 .s f Y=aa d:=h;have e2:eV 0 .s g Y=aa (.int j):=hk;unfold lW
 grind
theorem zN {n j:Nat}(h:j<n):gf n (j:Int)=aa j:=by
 unfold gf
 grind
theorem FJ {ds:List aA}{f:EF}{lo hi:OF}{Y:List (Option aA)}{l u:Option Int}(e1:f Y=aa (.list ds))(e2:lo Y=aa l)(e3:hi Y=aa u):qO f lo hi Y=aa (.list (cutD ds l u)):=by
 unfold qO
 grind
theorem pY {fd fk fx:EF}{Y:List (Option aA)}{kds:List (aA×aA)}{kd x:aA}{key:aG}(h1:fd Y=aa (.dict kds))(h2:fk Y=aa kd)(ha:bK kd=aa key)(h3:fx Y=aa x)(hp:cv kds=af:=by first|assumption|rfl|simp):eY fd fk fx Y=aa ((bQ kds key).getD x):=by
 unfold eY;rw[h1,bE,h2,bE,h3,bE];show(if cv kds=af then(bK kd).bind λk=>aa ((bQ kds k).getD x) else ae)=_
 rw[if_pos hp,ha]
 rfl
end L2
namespace L2
open PySem PySem.Spec PyProof.Rows
variable {F G:SF}{Y:aP}{P:Out->Prop}{m:Md}
def dR {α β:Type}(g:β->α->Option β):β->List α->Option β
 |b,[]=>aa b
 |b,x::xs=>(g b x).bind λb'=>dR g b' xs
def zI {β:Type}(I:β->aP->Prop)(r:aA)(t:Option β)(o:Out):Prop:=match t with
 |none=>o=.rt r
 |some b=>∃ Y2,o=.nx Y2/\I b Y2
def pQ {β:Type}(I:β->aP->Prop)(r:aA)(t:Option β)(o:Out):Prop:=match t with
 |none=>o=.rt r
 |some b=>∃ Y2,(o=.nx Y2\/o=.ct Y2)/\I b Y2
theorem WZ {α β:Type}(g:β->α->Option β)(x:α):∀ (xs:List α) (b:β),dR g b (xs++[x])=(dR g b xs).bind λb'=>g b' x
 |[],b=>by
  show((g b x).bind λb'=>aa b')=g b x
  cases g b x<;>rfl
 |y::ys,b=>by
  show((g b y).bind λb'=>dR g b' (ys++[x]))=((g b y).bind λb'=>dR g b' ys).bind _
  cases g b y with
  |none=>rfl
  |some b'=>exact WZ g x ys b'
theorem YU {T:aA->aP->Option aP}{α β:Type}{q:α->aA}(g:β->α->Option β)(I:β->aP->Prop)(r:aA){all:List α}{b0:β}
  (step:∀ pre x post b Y,all=pre++x::post->dR g b0 pre=aa b->I b Y->∃ Y1,T (q x) Y=aa Y1/\Goes F Y1 (pQ I r (g b x))):∀ {xs pre:List α} {b:β} {Y:aP},all=pre++xs->dR g b0 pre=aa b->I b Y->∃ o,iC F T (xs.map q) Y=aa o/\zI I r (dR g b xs) o
 |[],pre,b,Y,_,_,h0=>⟨_,rfl,Y,rfl,h0⟩
 |x::xs,pre,b,Y,ha,hb,h0=>by
  obtain⟨Y1,e1,o,e2,h⟩:=step pre x xs b Y ha hb h0;have e:iC F T ((x::xs).map q) Y=xr F T (xs.map q) o:=by
   show((T (q x) Y).bind λY1=>(F Y1).bind λo=>_)=_
   rw[e1,bE,e2,bE];cases o<;>rfl
  rw[e];show ∃ o',xr F T (xs.map q) o=aa o'/\zI I r ((g b x).bind λb'=>dR g b' xs) o'
  cases hg:g b x with
  |none=>
   rw[hg] at h;have h:=h;subst h;exact⟨_,rfl,rfl⟩
  |some b'=>
   rw[hg] at h;obtain⟨Y2,ho,i2⟩:=h;obtain⟨o',e',h'⟩:=YU g I r step (pre:=pre++[x]) (by simpa using ha) (by rw[WZ,hb];exact hg) i2
   rcases ho with rfl|rfl
   .exact⟨o',e',h'⟩
   .exact⟨o',e',h'⟩
theorem GS {α β:Type}{fi:AF}{T:aA->aP->Option aP}{xs:List α}{q:α->aA}{b0:β}(g:β->α->Option β)(I:β->aP->Prop)(r:aA)(h:aV m fi Y=aa (xs.map q))(h0:I b0 Y)
  (step:∀ pre x post b Y,xs=pre++x::post->dR g b0 pre=aa b->I b Y->∃ Y1,T (q x) Y=aa Y1/\Goes F Y1 (pQ I r (g b x))):Goes (cT m fi T F) Y (zI I r (dR g b0 xs)):=by
 obtain⟨o,e,h'⟩:=YU g I r step (xs:=xs) (pre:=[]) (by simp) rfl h0
 exact⟨o,FS h e,h'⟩
theorem GB {β:Type}(I:β->aP->Prop)(r:aA)(t:Option β)(h:Goes F Y (zI I r t))(k1:t=ae->P (.rt r))(k2:∀ b,t=aa b->∀ Y',I b Y'->Goes G Y' P):Goes (aO F G) Y P:=by
 obtain⟨o,e,h⟩:=h;cases t with
 |none=>
  have h:=h;subst h;exact AO e (k1 rfl)
 |some b=>
  obtain⟨Y2,rfl,i2⟩:=h;exact eZ e (k2 b rfl Y2 i2)
theorem IU {α:Type}(p:α->Bool):∀ xs:List α,dR (λ(_:Unit) x=>if p x=af then ae else aa Unit.unit) Unit.unit xs=if xs.any p=af then ae else aa Unit.unit
 |[]=>rfl
 |x::xs=>by
  show((if p x=af then ae else aa Unit.unit).bind λb'=>dR _ b' xs)=_
  cases hp:p x with
  |true=>simp[hp]
  |false=>
   rw[qS,hp];simpa using IU p xs
def dN (p:aE×Int):aA×aA:=(.str p.1,.int p.2)
def DN (kn:List (aE×Int)):List (aA×aA):=kn.map dN
def bB (kn:List (aE×Int))(z:aE):Option Int:=(kn.find? λp=>decide (p.1=z)).map (·.2)
theorem oJ (kn:List (aE×Int))(z:aE):bQ (DN kn) (.inr z)=(bB kn z).map bF:=by
 unfold bQ bB DN;induction kn with
 |nil=>rfl
 |cons p r ih=>
  rw[cY,gD,gD];have e:bK (dN p).1=aa (.inr p.1):=rfl;rw[e];by_cases h:p.1=z
  .simp[h,dN]
  .have h':¬ (aa (jH p.1:aG)=aa (jH z)):=λq=>h (by injection q with q;injection q)
   rw[decide_eq_false h',decide_eq_false h];exact ih
theorem HA (kn:List (aE×Int))(i:Int):bQ (DN kn) (.inl i)=ae:=by
 unfold bQ DN;have:((kn.map dN).find? λkd=>decide (bK kd.1=aa (.inl i)))=ae:=by
  rw[CT];intro kd m;obtain⟨p,_,rfl⟩:=cB.1 m;simp[dN,bK]
 rw[this]
 rfl
theorem FY {kn:List (aE×Int)}{z:aE}(h:bB kn z=ae)(v:Int):putD (DN kn) (.inr z) (.int v)=DN (kn++[(z,v)]):=by
 unfold putD DN;have hn:¬ ((kn.map dN).any λkd=>decide (bK kd.1=aa (.inr z)))=af:=λq=>by
  obtain⟨kd,m,e⟩:=vM.1 q;obtain⟨p,mp,rfl⟩:=cB.1 m;have e':p.1=z:=by
   have:=of_decide_eq_true e;have:=this;injection this with this;injection this
  unfold bB at h;have h2:=CN.1 h;have:=CT.1 h2 p mp;exact this (decide_eq_true e')
 rw[if_neg hn,iK]
 rfl
theorem xP {kn:List (aE×Int)}{z:aE}(h:bB kn z=ae)(v:Int)(y:aE):bB (kn++[(z,v)]) y=if y=z then aa v else bB kn y:=by
 unfold bB at *;rw[List.find?_append];by_cases e:y=z
 .subst e;rw[if_pos rfl,CN.1 h];simp
 .rw[if_neg e];have e':¬ z=y:=λq=>e q.symm
  cases q:kn.find? λp=>decide (p.1=y) with
  |none=>simp[e']
  |some p=>rfl
def eE (kn:List (aE×Int))(p:aG×Int):Option (List (aE×Int)):=match p.1 with
 |.inl i=>if p.2=i then aa kn else ae
 |.inr z=>match bB kn z with
  |some u=>if p.2=u then aa kn else ae
  |none=>aa (kn++[(z,p.2)])
theorem sG:∀ {ps:List (aG×Int)} {kn aw:List (aE×Int)},dR eE kn ps=aa aw ->
  (∀ z u,bB kn z=aa u->bB aw z=aa u)/\(∀ p∈ps,(∀ i,p.1=.inl i->p.2=i)/\∀ z,p.1=.inr z->bB aw z=aa p.2)/\(∀ z u,bB aw z=aa u->bB kn z=aa u\/∃ p∈ps,p.1=.inr z)
 |[],kn,aw,h=>by
  cases h;exact⟨λ_ _ e=>e,λ_ m=>by simp at m,λ_ _ e=>.inl e⟩
 |(.inl i,v)::ps,kn,aw,h=>by
  obtain⟨k1,e1,e2⟩:=aj (show((eE kn (.inl i,v)).bind λb'=>dR eE b' ps)=aa aw from h)
  have e1:=e1;obtain⟨hv,rfl⟩:=cH e1;obtain⟨a,b,c⟩:=sG e2;refine⟨a,λp m=>?_,λz u e=>(c z u e).imp id λ⟨p,m,q⟩=>⟨p,bM _ m,q⟩⟩
  rcases cV.1 m with rfl|m
  .exact⟨λi' q=>(by cases q;exact hv),λz q=>(by cases q)⟩
  .exact b p m
 |(.inr z,v)::ps,kn,aw,h=>by
  obtain⟨k1,e1,e2⟩:=aj (show((eE kn (.inr z,v)).bind λb'=>dR eE b' ps)=aa aw from h)
  obtain⟨a,b,c⟩:=sG e2;cases hl:bB kn z with
  |some u=>
   have e1:(match bB kn z with|some u=>if v=u then aa kn else ae|none=>aa (kn++[(z,v)]))=aa k1:=e1
   rw[hl] at e1;obtain⟨hv,rfl⟩:=cH e1;refine⟨a,λp m=>?_,λz' u' e=>(c z' u' e).imp id λ⟨p,m,q⟩=>⟨p,bM _ m,q⟩⟩
   rcases cV.1 m with rfl|m
   .exact⟨λi' q=>(by cases q),λz' q=>(by cases q;rw[a z u hl,hv])⟩
   .exact b p m
  |none=>
   have e1:(match bB kn z with|some u=>if v=u then aa kn else ae|none=>aa (kn++[(z,v)]))=aa k1:=e1
   rw[hl] at e1;cases e1;refine⟨λy u e=>a y u (by rw[xP hl,if_neg λq=>by rw[q,hl] at e;cases e];exact e),λp m=>?_,λy u e=>?_⟩
   .rcases cV.1 m with rfl|m
    .exact⟨λi' q=>(by cases q),λz' q=>(by cases q;exact a z v (by rw[xP hl,if_pos rfl]))⟩
    .exact b p m
   .rcases c y u e with q|⟨p,m,q⟩
    .rw[xP hl] at q;by_cases hy:y=z
     .exact .inr ⟨_,bO,by rw[hy]⟩
     .rw[if_neg hy] at q;exact .inl q
    .exact .inr ⟨p,bM _ m,q⟩
theorem xE:∀ {ps:List (aG×Int)} {kn:List (aE×Int)},(∀ p∈ps,∀ i,p.1=.inl i->p.2=i)->(∀ p∈ps,∀ z u,p.1=.inr z->bB kn z=aa u->p.2=u)->(∀ p∈ps,∀ p'∈ps,∀ z,p.1=.inr z->p'.1=.inr z->p.2=p'.2)->∃ aw,dR eE kn ps=aa aw
 |[],kn,_,_,_=>⟨kn,rfl⟩
 |(.inl i,v)::ps,kn,h1,h2,h3=>by
  have hv:=h1 _ bO i rfl;obtain⟨aw,e⟩:=xE (λp m=>h1 p (bM _ m)) (λp m=>h2 p (bM _ m)) (λp m p' m'=>h3 p (bM _ m) p' (bM _ m'))
  refine⟨aw,?_⟩;show((if v=i then aa kn else ae).bind λb'=>dR eE b' ps)=aa aw
  rw[if_pos hv];exact e
 |(.inr z,v)::ps,kn,h1,h2,h3=>by
  cases hl:bB kn z with
  |some u=>
   have hv:=h2 _ bO z u rfl hl;obtain⟨aw,e⟩:=xE (λp m=>h1 p (bM _ m)) (λp m=>h2 p (bM _ m)) (λp m p' m'=>h3 p (bM _ m) p' (bM _ m'))
   refine⟨aw,?_⟩;show((match bB kn z with|some u=>if v=u then aa kn else ae|none=>aa (kn++[(z,v)])).bind λb'=>dR eE b' ps)=aa aw
   rw[hl];show((if v=u then aa kn else ae).bind λb'=>dR eE b' ps)=aa aw
   rw[if_pos hv];exact e
  |none=>
   obtain⟨aw,e⟩:=xE (λp m=>h1 p (bM _ m)) (λp m y u q e=>by
    rw[xP hl] at e;by_cases hy:y=z
    .rw[if_pos hy] at e;cases e;exact h3 p (bM _ m) _ bO z (by rw[q,hy]) rfl
    .rw[if_neg hy] at e;exact h2 p (bM _ m) y u q e) (λp m p' m'=>h3 p (bM _ m) p' (bM _ m'))
   refine⟨aw,?_⟩;show((match bB kn z with|some u=>if v=u then aa kn else ae|none=>aa (kn++[(z,v)])).bind λb'=>dR eE b' ps)=aa aw
   rw[hl];exact e
end L2
namespace Aw
open PySem L2
variable {n i:Nat}{x:Bool}{R:List (List Int)}{Y:List (Option aA)}{f:EF}{d:aA}{F:SF}{T:aA->aP->Option aP}{fa:AF}
abbrev s0 (d:aA):L2.Slot:=aa (0,d)
abbrev lI (ms:List Int):aA:=.list (ms.map bF)
def Bas (n:Nat)(z:aE):Prop:=cF (.str z)=af/\z.length<=n
theorem Bas.mono {m:Nat}{z:aE}(h:Bas n z)(hm:n<=m):Bas m z:=⟨h.1,cM h.2 hm⟩
theorem uN (a b:Int):ck (.int a) (.int b)=aa (.bool (decide (a=b))):=by
 congr 2
theorem Ir (p q:aA)(x:Int):aq (.list [p,q]) (.int (x%2))=aa (if x%2=0 then p else q):=by
 have h:=uF x (show(0:Int)<2 by decide)
 rcases(show x%2=0\/x%2=1 by lia) with e|e<;>rw[e]<;>rfl
theorem AJ {α:Type}{q:α->aA}{xs:List α}{j:Nat}{x:α}(h:xs[j]?=aa x):aq (.list (xs.map q)) (.int j)=aa (q x):=AN (by rw[gJ,h];rfl)
theorem Lz {α:Type}{R:α->Prop}{xs:List α}{j:Nat}{x:α}(h:∀ y∈xs,R y)(hx:R x):∀ y∈xs.set j x,R y:=λy m=>by
 grind
theorem Ky {Y:aP}{P:Out->Prop}(h:f (vA Y)=aa d)(hf:fO n d=af)(hl:i<Y.length)(k:P (.nx (Y.set i (aa (n,d))))):Goes (bC i n .a f) Y P:=
 zP (by show((f (vA Y)).bind λd=>if fO n d=af then aa d else ae)=_;rw[h,bE,if_pos hf]) hl k
theorem PN {α:Type}(q:α->aA)(xs:List α)(l u:Option Int):∃ ys:List α,cutD (xs.map q) l u=ys.map q/\ys.length<=xs.length/\∀ y∈ys,y∈xs:=by
 refine⟨(xs.drop (HT.sIx (xs.map q).length 0 l)).take (HT.sIx (xs.map q).length (xs.map q).length u-HT.sIx (xs.map q).length 0 l),?_,?_,?_⟩
 .unfold cutD;rw[<-Cw,<-List.map_take]
 all_goals grind
abbrev tK (ks:List aG):aA:=.tuple (ks.map kD)
abbrev tI (row:List Int):aA:=.tuple (row.map bF)
def qP:Option (List (aE×Int))->aA
 |none=>.none
 |some kn=>.dict (DN kn)
def KC (p:aG×Int):aA:=pairD (kD p.1) (.int p.2)
theorem SG (ks:List aG)(row:List Int):yH pairD (ks.map kD) (row.map bF)=(ks.zip row).map KC:=by
 rw[List.zipWith_map,List.zip,List.map_zipWith]
 rfl
theorem uO (k:aG):fD "str" (kD k)=aa (.bool (match k with|.inr _=>af|.inl _=>ag)):=by
 cases k<;>simp[fD,kU,j5,kD]
theorem ne_int (a b:Int):cn (.int a) (.int b)=aa (.bool (decide (a≠b))):=by
 have:bU (.int a) (.int b)=decide (a=b):=by
  rw[show bU (.int a) (.int b)=(a==b) by simp[bU],iP]
  simp
 simp[cn,cS,noDict,mI,this]
def cO (ks:List aG)(row:List Int)(kn:List (aE×Int)):Option (List (aE×Int)):=if row.length=ks.length then dR eE kn (ks.zip row) else ae
theorem rW (ds:List aA):bR [.tuple ds]=aa (.int ds.length):=by simp[bR]
theorem Io {ks:List aG}{row:List Int}{g:EF}(h1:f Y=aa (tI row))(h2:g Y=aa (tK ks)) :
  ah cn (aM bR (aD f aH)) (aM bR (aD g aH)) Y=aa (.bool (decide (row.length≠ks.length))):=by
 refine aN (aY (aZ h1 rfl) (by rw[rW,cD])) (aY (aZ h2 rfl) (by rw[rW,cD])) ?_
 rw[ne_int]
 congr 2
 rw[iP];simp
 lia
theorem cL{b:Bool}(h:f Y=aa (.bool b)):ak f Y=aa b:=by
 unfold ak;rw[h]
 rfl
theorem Oz (L:L2.Slot)(R K:L2.Slot)(kn:List (aE×Int))(ky:kn.length<=1000)(p:aG×Int)(x6:L2.Slot) :
  Goes (aO (k8 6 3 .s (ak (dz (fD "str") (aB 4))) .s (aB 4) .s (aB 5) .s (aB 4)) (bp .s (ak (ah cn (aB 5) (aB 6))) (bT 1 .s (eC .none)) cK)) [L,R,K,aa (1,.dict (DN kn)),aa (0,kD p.1),aa (0,.int p.2),x6]
   (pQ (λaw Y'=>∃ x4 x5 x6:L2.Slot,Y'=[L,R,K,aa (1,.dict (DN aw)),x4,x5,x6]) .none (eE kn p)):=by
 have lz:(DN kn).length<sizeLine:=oK (by simp[DN];lia)
 obtain⟨t,v⟩:=p;cases t with
 |inl i=>
  have e1:k8 6 3 .s (ak (dz (fD "str") (aB 4))) .s (aB 4) .s (aB 5) .s (aB 4) [L,R,K,aa (1,.dict (DN kn)),aa (0,.int i),aa (0,.int v),x6]=aa (.nx [L,R,K,aa (1,.dict (DN kn)),aa (0,.int i),aa (0,.int v),aa (0,.int i)]):=by
   have b:bV .s (ak (dz (fD "str") (aB 4))) [L,R,K,aa (1,.dict (DN kn)),aa (0,.int i),aa (0,.int v),x6]=aa ag:=cL (tW (a:=.int i) rfl (uO (.inl i)));unfold k8;rw[b,bE,if_neg kE]
   rfl
  refine eZ e1 ?_;have e2:bV .s (ak (ah cn (aB 5) (aB 6))) [L,R,K,aa (1,.dict (DN kn)),aa (0,.int i),aa (0,.int v),aa (0,.int i)]=aa (decide (v≠i)):=cL (aN (a:=.int v) (b:=.int i) rfl rfl (ne_int v i));by_cases h:v=i
  .refine fP (e2.trans (by simp[h])) (gH ?_)
   show pQ _ _ (if v=i then aa kn else ae) _
   rw[if_pos h];exact⟨_,.inl rfl,_,_,_,rfl⟩
  .refine dZ (e2.trans (by simp[h])) (cW (d:=.none) rfl ?_)
   show pQ _ _ (if v=i then aa kn else ae) _
   rw[if_neg h]
   rfl
 |inr z=>
  have b:bV .s (ak (dz (fD "str") (aB 4))) [L,R,K,aa (1,.dict (DN kn)),aa (0,.str z),aa (0,.int v),x6]=aa af:=cL (tW (a:=.str z) rfl (uO (.inr z)));cases hl:bB kn z with
  |some u=>
   have e1:k8 6 3 .s (ak (dz (fD "str") (aB 4))) .s (aB 4) .s (aB 5) .s (aB 4) [L,R,K,aa (1,.dict (DN kn)),aa (0,.str z),aa (0,.int v),x6]=aa (.nx [L,R,K,aa (1,.dict (DN kn)),aa (0,.str z),aa (0,.int v),aa (0,.int u)]):=by
    unfold k8;rw[b,bE,if_pos rfl];show(if 6<7/\(DN kn).length<sizeLine then aa (Out.nx (match bQ (DN kn) (.inr z) with
     |some u=>[L,R,K,aa (1,.dict (DN kn)),aa (0,.str z),aa (0,.int v),aa (0,u)]
     | none=>[L,R,K,aa (1,.dict (putD (DN kn) (.inr z) (.int v))),aa (0,.str z),aa (0,.int v),aa (0,.int v)])) else ae)=_
    rw[if_pos ⟨(),lz⟩,oJ,hl]
    rfl
   refine eZ e1 ?_;have e2:bV .s (ak (ah cn (aB 5) (aB 6))) [L,R,K,aa (1,.dict (DN kn)),aa (0,.str z),aa (0,.int v),aa (0,.int u)]=aa (decide (v≠u)):=cL (aN (a:=.int v) (b:=.int u) rfl rfl (ne_int v u));have ef:eE kn (.inr z,v)=if v=u then aa kn else ae:=by
    show(match bB kn z with|some u=>if v=u then aa kn else ae|none=>aa (kn++[(z,v)]))=_
    rw[hl]
   rw[ef];by_cases h:v=u
   .refine fP (e2.trans (by simp[h])) (gH ?_)
    rw[if_pos h];exact⟨_,.inl rfl,_,_,_,rfl⟩
   .refine dZ (e2.trans (by simp[h])) (cW (d:=.none) rfl ?_)
    rw[if_neg h]
    rfl
  |none=>
   have e1:k8 6 3 .s (ak (dz (fD "str") (aB 4))) .s (aB 4) .s (aB 5) .s (aB 4) [L,R,K,aa (1,.dict (DN kn)),aa (0,.str z),aa (0,.int v),x6]=aa (.nx [L,R,K,aa (1,.dict (DN (kn++[(z,v)]))),aa (0,.str z),aa (0,.int v),aa (0,.int v)]):=by
    unfold k8;rw[b,bE,if_pos rfl];show(if 6<7/\(DN kn).length<sizeLine then aa (Out.nx (match bQ (DN kn) (.inr z) with
     |some u=>[L,R,K,aa (1,.dict (DN kn)),aa (0,.str z),aa (0,.int v),aa (0,u)]
     | none=>[L,R,K,aa (1,.dict (putD (DN kn) (.inr z) (.int v))),aa (0,.str z),aa (0,.int v),aa (0,.int v)])) else ae)=_
    rw[if_pos ⟨(),lz⟩,oJ,hl,FY hl]
    rfl
   refine eZ e1 ?_;have e2:bV .s (ak (ah cn (aB 5) (aB 6))) [L,R,K,aa (1,.dict (DN (kn++[(z,v)]))),aa (0,.str z),aa (0,.int v),aa (0,.int v)]=aa (decide (v≠v)):=cL (aN (a:=.int v) (b:=.int v) rfl rfl (ne_int v v));have ef:eE kn (.inr z,v)=aa (kn++[(z,v)]):=by
    show(match bB kn z with|some u=>if v=u then aa kn else ae|none=>aa (kn++[(z,v)]))=_
    rw[hl]
   rw[ef];exact fP (e2.trans (by simp)) (gH ⟨_,.inl rfl,_,_,_,rfl⟩)
theorem AW:∀ {ps:List (aG×Int)} {kn aw:List (aE×Int)},dR eE kn ps=aa aw->aw.length<=kn.length+ps.length
 |[],kn,aw,h=>by cases h;simp
 |p::ps,kn,aw,h=>by
  obtain⟨k1,e1,e2⟩:=aj (show((eE kn p).bind λb'=>dR eE b' ps)=aa aw from h)
  have h1:=AW e2;have h2:k1.length<=kn.length+1:=by
   unfold eE at e1
   grind
  rw[fJ]
  lia
def oX (kn:List (aE×Int)):Prop:=∀ p∈kn,cF (.str p.1)=af
theorem kj (kn:List (aE×Int)):cv (DN kn)=af:=wQ λkd m=>by
 obtain⟨p,_,rfl⟩:=cB.1 m;exact λq=>nomatch q
theorem Ll {kn:List (aE×Int)}(h:oX kn)(e:f Y=aa (.dict (DN kn))):u0 f Y=aa ((kn.map (·.1)).map dB):=by
 unfold u0;rw[e,bE];show(if (cv (DN kn)&&(DN kn).all λkd=>cF kd.1)=af then aa ((DN kn).map (·.1)) else ae)=_
 rw[kj,yW,if_pos (fV.2 λkd m=>by
  obtain⟨p,mp,rfl⟩:=cB.1 m;exact h p mp)]
 unfold DN;rw[dX,dX]
 rfl
theorem xC {c:Prop}[Decidable c]{α:Type}{a:Option α}{b:α}(h:(if c then a else ae)=aa b):c/\a=aa b:=by
 grind
def putN (kn:List (aE×Int))(z:aE)(v:Int):List (aE×Int):=if (bB kn z).isSome=af then kn.map λp=>if p.1=z then(p.1,v) else p else kn++[(z,v)]
theorem An (kn:List (aE×Int))(z:aE)(v:Int):putD (DN kn) (.inr z) (.int v)=DN (putN kn z v):=by
 unfold putN;cases h:bB kn z with
 |none=>exact FY h v
 |some u=>
  rw[if_pos (show(aa u).isSome=af from rfl)]
  unfold putD DN;have hy:((kn.map dN).any λkd=>decide (bK kd.1=aa (.inr z)))=af:=by
   unfold bB at h;obtain⟨p,e,_⟩:=mJ.1 h;refine vM.2 ⟨dN p,cB.2 ⟨p,Ct e,rfl⟩,?_⟩;have:p.1=z:=by simpa using List.find?_some e
   show decide (aa (jH p.1:aG)=aa (jH z))=af;rw[this];simp
  rw[if_pos hy,dX,dX];refine nV λp _=>?_
  show(if aa (jH p.1:aG)=aa (jH z) then((dN p).1,bF v) else dN p)=dN (if p.1=z then(p.1,v) else p)
  by_cases e:p.1=z
  .rw[if_pos (by rw[e]),if_pos e];rfl
  all_goals grind
theorem QZ (kn:List (aE×Int))(z:aE)(v:Int):(putN kn z v).length<=kn.length+1:=by
 unfold putN;split<;>simp
theorem IA (kn:List (aE×Int))(z y:aE)(v:Int):bB (putN kn z v) y=if y=z then aa v else bB kn y:=by
 unfold putN;cases h:bB kn z with
 |none=>rw[if_neg (by simp)];exact xP h v y
 |some u=>
  rw[if_pos (show(aa u).isSome=af from rfl)]
  induction kn with
  |nil=>cases h
  |cons p r ih=>
   unfold bB at h ⊢;rw[cY,gD,gD];rw[gD] at h;have key:((if p.1=z then(p.1,v) else p).1:aE)=p.1:=by split<;>rfl
   by_cases hp:p.1=z
   .rw[if_pos hp];by_cases hy:y=z
    .grind
    .have n1:¬ p.1=y:=λq=>hy (by rw[<-q,hp])
     rw[decide_eq_false n1,if_neg hy];have gen:∀ r:List (aE×Int),(((r.map λp=>if p.1=z then(p.1,v) else p).find? λp=>decide (p.1=y)).map (·.2))=(r.find? λp=>decide (p.1=y)).map (·.2):=λr=>by
      induction r with
      |nil=>rfl
      |cons q t ih=>
       grind
     exact gen r
   .rw[if_neg hp];rw[decide_eq_false hp] at h;by_cases hy:p.1=y
    .grind
    .rw[decide_eq_false hy];exact ih h
def Bde (I:aP->Prop)(t:Option aA)(o:Out):Prop:=match t with
 |some r=>o=.rt r
 |none=>∃ Y2,o=.nx Y2/\I Y2
def EN (I:aP->Prop)(t:Option aA)(o:Out):Prop:=match t with
 |some r=>o=.rt r
 |none=>∃ Y2,(o=.nx Y2\/o=.ct Y2)/\I Y2
theorem Bde.turn {I J:aP->Prop}{t:Option aA}{o:Out}(h:Bde I t o)(d9:∀ Y,I Y->J Y):EN J t o:=by
 cases t with
 |some r=>exact h
 |none=>
  obtain⟨Y2,e,i⟩:=h;exact⟨Y2,.inl e,d9 _ i⟩
theorem ZA{α:Type}{q:α->aA}(I:aP->Prop)(g:α->Option aA):∀ {xs:List α} {Y:aP},I Y ->
  (∀ x∈xs,∀ Y,I Y->∃ Y1,T (q x) Y=aa Y1/\Goes F Y1 (EN I (g x)))->∃ o,iC F T (xs.map q) Y=aa o/\Bde I (xs.findSome? g) o
 |[],Y,h0,_=>⟨_,rfl,Y,rfl,h0⟩
 |x::xs,Y,h0,step=>by
  obtain⟨Y1,e1,o,e2,h⟩:=step x bO Y h0;have e:iC F T ((x::xs).map q) Y=xr F T (xs.map q) o:=by
   show((T (q x) Y).bind λY1=>(F Y1).bind λo=>_)=_
   rw[e1,bE,e2,bE];cases o<;>rfl
  rw[e,yN];cases hg:g x with
  |some r=>
   rw[hg] at h;have h:=h;subst h;exact⟨_,rfl,rfl⟩
  |none=>
   rw[hg] at h;obtain⟨Y2,ho,i2⟩:=h;obtain⟨o',e',h'⟩:=ZA I g i2 λy m=>step y (bM _ m)
   rcases ho with rfl|rfl
   .exact⟨o',e',h'⟩
   .exact⟨o',e',h'⟩
theorem AS {m:Md}{Y:aP}{α:Type}{fi:AF}{xs:List α}{q:α->aA}(I:aP->Prop)(g:α->Option aA)(h:aV m fi Y=aa (xs.map q))(h0:I Y)
  (step:∀ x∈xs,∀ Y,I Y->∃ Y1,T (q x) Y=aa Y1/\Goes F Y1 (EN I (g x))):Goes (cT m fi T F) Y (Bde I (xs.findSome? g)):=by
 obtain⟨o,e,h'⟩:=ZA I g h0 step;exact⟨o,FS h e,h'⟩
theorem GH {G:SF}{Y:aP}{P:Out->Prop}(I:aP->Prop)(t:Option aA)(h:Goes F Y (Bde I t))(k1:∀ r,t=aa r->P (.rt r))(k2:t=ae->∀ Y',I Y'->Goes G Y' P):Goes (aO F G) Y P:=by
 obtain⟨o,e,h⟩:=h;cases t with
 |some r=>
  have h:=h;subst h;exact AO e (k1 r rfl)
 |none=>
  obtain⟨Y2,rfl,i2⟩:=h;exact eZ e (k2 rfl Y2 i2)
theorem JP {α β:Type}{f g:α->Option β}:∀ {xs:List α},(∀ x∈xs,f x=g x)->xs.findSome? f=xs.findSome? g
 |[],_=>rfl
 |x::xs,h=>by
  rw[yN,yN,h x bO,JP λy m=>h y (bM _ m)]
theorem Pj {α:Type}(q:α->aA)(d0:α)(xs:List α):(xs.map q).mapIdx qQ=(cQ xs.length).map λk=>qQ k (q (xs.getD k d0)):=by
 apply MD
 .simp
 .intro i h1 h2;have hi:i<xs.length:=by simpa using h1
  simp[hi]
theorem Xi {α:Type}(q:α->aA)(d0:α){xs:List α}(h:f Y=aa (.list (xs.map q))):u3 (aD f aH) Y=aa ((cQ xs.length).map λk=>qQ k (q (xs.getD k d0))):=by
 unfold u3;rw[aZ h rfl,<-Pj]
 rfl
theorem getD_some {α:Type}{xs:List α}(d0:α)(h:i<xs.length):xs[i]?=aa (xs.getD i d0):=by
 rw[nW,hX h]
 rfl
theorem getD_mem {α:Type}{xs:List α}(d0:α)(h:i<xs.length):xs.getD i d0∈xs:=fC (getD_some d0 h)
theorem Nb {a b:EF}{y:Bool}(h:a Y=aa (.bool x))(h2:x=af->b Y=aa (.bool y)):tM a b Y=aa (.bool (x&&y)):=by
 unfold tM;cases x with
 |true=>rw[h,bE,show i5 (.bool af)=aa af from rfl,bE,if_pos rfl,h2 rfl];rfl
 |false=>rw[h,bE,show i5 (.bool ag)=aa ag from rfl,bE,if_neg (by simp)];rfl
theorem mT{ds:List aA}(h:fa Y=aa ds)(hl:ds.length<=1000:=by simp):dD fa Y=aa (.tuple ds):=by
 unfold dD;rw[h,bE,if_pos (lB ())]
theorem wF{ds:List aA}(h:fa Y=aa ds)(hl:ds.length<=1000:=by simp):cU fa Y=aa (.list ds):=by
 unfold cU;rw[h,bE,if_pos (lB ())]
abbrev Ln:=aE×List aG
def bG (l:Ln):aA:=.tuple [.str l.1,.tuple (l.2.map kD)]
abbrev cu:Ln:=("",[])
theorem XM (xs:List aG):noDicts (xs.map kD)=af:=uV λt m=>by
 obtain⟨x,_,rfl⟩:=cB.1 m;cases x<;>rfl
def k3:aA->Int
 |.int i=>i
 |_=>0
theorem uH (r:List Int):(r.map bF).map k3=r:=by
 rw[dX];have:(k3∘bF)=id:=rfl;rw[this,List.map_id]
theorem xG (r:List Int):bY (r.map bF)=af:=AV λt m=>by
 obtain⟨i,_,rfl⟩:=cB.1 m
 rfl
theorem BJ (r:List Int):cX (r.map bF)<=1:=sH λt m=>by
 obtain⟨i,_,rfl⟩:=cB.1 m;simp[mI]
theorem RX (r:List Int):cS (bL r)=af:=by
 have h1:noDicts (r.map bF)=af:=uV λt m=>by
  obtain⟨i,_,rfl⟩:=cB.1 m
  rfl
 have h2:cX (r.map bF)<=1:=sH λt m=>by
  obtain⟨i,_,rfl⟩:=cB.1 m;simp[mI]
 simp[cS,bL,noDict,h1,mI]
 lia
theorem Ug {a b:List Int}(h:bL a=bL b):a=b:=by
 have h:=Cj h;exact(uH a).symm.trans ((congrArg (List.map k3) h).trans (uH b))
theorem Bj (a b:List Int):bU (bL a) (bL b)=decide (a=b):=by
 rw[HM _ _ (HF a) (HF b),decide_eq_decide];exact⟨Ug,λe=>by rw[e]⟩
def p8 (R:List (List Int)):List (List Int):=(oB (R.map λr=>r.map bF)).map λk=>k.map k3
theorem SA (R:List (List Int)):(p8 R).Perm R:=by
 have h:=(BM (R.map λr=>r.map bF)).map λk=>k.map k3
 rw[dX] at h;have e:(R.map ((λk=>k.map k3)∘λr=>r.map bF))=R:=by
  have:((λk=>k.map k3)∘λr=>r.map bF)=(id:List Int->List Int):=by funext r;exact uH r
  rw[this,List.map_id]
 rw[e] at h;exact h
theorem Kk{r:List Int}:r∈p8 R↔r∈R:=(SA R).mem_iff
theorem Tz (R:List (List Int)):(p8 R).length=R.length:=(SA R).length_eq
theorem Xu (R:List (List Int)):nC (R.map bL)=aa (R.map λr=>r.map bF):=by
 have:=QC (kss:=R.map λr=>r.map bF) λk m=>by
  obtain⟨r,_,rfl⟩:=cB.1 m;have:=BJ r;exact⟨xG r,()⟩
 rw[dX] at this;exact this
theorem UV:∀ (a b:List Int),a.length=b.length->iD (a.map bF) (b.map bF)=af
 |[],[],_=>rfl
 |x::a,y::b,h=>UV a b (by simpa using h)
 |[],_::_,h=>by simp at h
 |_::_,[],h=>by simp at h
theorem Bh(hn:1<=n)(hw:∀ r∈R,r.length=n)(hl:R.length<64):uG [aW R]=aa (aW (p8 R)):=by
 show((nC (R.map bL)).bind λkss=>if ki kss=af/\kss.length<64 then aa (vK ((oB kss).map dJ)) else ae)=_
 rw[Xu,bE];have ok:ki (R.map λr=>r.map bF)=af:=by
  unfold ki;rw[Bool.or_eq_true_iff];refine .inr (iM.2 ⟨fV.2 λk mk=>fV.2 λk' mk'=>?_,fV.2 λk mk=>?_⟩)
  .obtain⟨a,ma,rfl⟩:=cB.1 mk;obtain⟨b,mb,rfl⟩:=cB.1 mk';exact UV a b ((hw a ma).trans (hw b mb).symm)
  .obtain⟨a,ma,rfl⟩:=cB.1 mk;have:=hw a ma;cases a with
   |nil=>simp at this;lia
   |cons x r=>rfl
 rw[if_pos ⟨ok,by rw[cD];exact hl⟩]
 unfold aW p8;rw[dX]
 congr 2
 refine nV λk mk=>?_
 obtain⟨a,_,rfl⟩:=cB.1 ((BM _).mem_iff.1 mk);show _=dJ (((a.map bF).map k3).map bF);rw[uH]
structure Bk (kds:List (aA×aA))(B:aE->List (List Int))(wd:aE->Nat):Prop where
 pl:cv kds=af
 at_:∀ t,(bQ kds (.inr t)).getD (.list [])=aW (B t)
 few:∀ t,(B t).length<64
 pos:∀ t,1<=wd t
 wid:∀ t,∀ r∈B t,r.length=wd t
theorem Bk.get {kds:List (aA×aA)}{B:aE->List (List Int)}{wd:aE->Nat}(b:Bk kds B wd){fd fk:EF}{t:aE}(h1:fd Y=aa (.dict kds))(h2:fk Y=aa (.str t)):eY fd fk (cU aH) Y=aa (aW (B t)):=by
 rw[pY h1 h2 rfl rfl b.pl,b.at_]
theorem nY (c:Int)(n:Nat)(h:0<n):cJ (.int c) (.int n)=aa (.int (c%n)):=by
 show(if 0<(n:Int) then aa (bF (c%(n:Int))) else ae)=_
 rw[if_pos ()]
theorem kW (c:Int)(n:Nat)(h:0<n)(h2:n<1000:=by lia):dY (.int c) (.int n)=aa (.int (c/n)):=by
 show(if 0<(n:Int)/\(n:Int)<1073741824 then aa (bF (c/(n:Int))) else ae)=_
 rw[if_pos ()]
theorem oE {a b:Int}(h:a.natAbs<2^64):gF (.int a) (.int b)=aa (.int (a*b)):=by
 show(if (a.natAbs<2^64\/b.natAbs<2^64)\/(a.natAbs<2^1000/\b.natAbs<2^1000) then aa (bF (a*b)) else ae)=_
 rw[if_pos (.inl (.inl h))]
theorem mul_r {a b:Int}(h:b.natAbs<2^64):gF (.int a) (.int b)=aa (.int (a*b)):=by
 show(if (a.natAbs<2^64\/b.natAbs<2^64)\/(a.natAbs<2^1000/\b.natAbs<2^1000) then aa (bF (a*b)) else ae)=_
 rw[if_pos (.inl (.inr h))]
theorem Bd {k:Nat}(h:k<=100):tQ (.int 10) (.int k)=aa (.int (10^k)):=by
 show(if 0<=(k:Int)/\(k:Int)<=1000000/\(10:Int).natAbs<2^64 then aa (bF (10^(k:Int).toNat)) else ae)=_
 grind
theorem sC {a b:BF}{y:Bool}(h:a Y=aa x)(h2:x=af->b Y=aa y):fL a b Y=aa (x&&y):=by
 unfold fL
 grind
theorem Me(h:f Y=aa (.bool x)):qX (ak f) Y=aa (!x):=by
 unfold qX;rw[cL h]
 rfl
theorem SO (r:List Int):eD (bL r)=af:=by
 show oG (r.map bF)=af;rw[VY,fV];intro d m;obtain⟨i,_,rfl⟩:=cB.1 m
 rfl
theorem JC (R:List (List Int)):noDicts (R.map bL)=af:=uV λt m=>by
 obtain⟨r,_,rfl⟩:=cB.1 m;have:=RX r;unfold cS at this
 grind
theorem Gm{x y:aA}{xs ys:List aA}(h:fa Y=aa [x,y])(hx:oH x=aa xs)(hy:oH y=aa ys):iZ fa Y=aa (yH pairD xs ys):=by
 unfold iZ
 grind
abbrev Tb:=aE×List (List Int)
def av (L:List Tb):List (aA×aA):=L.map λp=>(dB p.1,aW p.2)
theorem wU {Y:aP}{P:Out->Prop}(h:Y[i]?=aa (aa (n,d)))(k:P (.rt d)):Goes (jA i n) Y P:=⟨_,by
 unfold jA;rw[h];show(if n=n then aa (Out.rt d) else ae)=_
 rw[if_pos rfl],k⟩
theorem SS (a:List Int):(bL a).depth<=2:=by
 have:=BJ a;show cX (a.map bF)+1<=2
 lia
theorem Lx (R:List (List Int)):cS (aW R)=af:=by
 have h2:cX (R.map bL)<=2:=sH λt m=>by
  obtain⟨r,_,rfl⟩:=cB.1 m;exact SS r
 unfold cS;show(noDicts (R.map bL)&&decide (cX (R.map bL)+1<=60))=af;rw[JC,decide_eq_true ()]
 rfl
def bu (L:List Tb)(t:aE):List (List Int):=((L.find? λp=>decide (p.1=t)).map (·.2)).getD []
theorem xH (t:aE):∀ L:List Tb,bQ (av L) (.inr t)=(L.find? λp=>decide (p.1=t)).map λp=>aW p.2
 |[]=>rfl
 |p::L=>by
  show bQ ((.str p.1,aW p.2)::av L) (.inr t)=_;rw[BL,gD];by_cases h:p.1=t
  .rw[if_pos (by rw[h];rfl),decide_eq_true h];rfl
  .rw[if_neg (λe=>h (by injection e with e;injection e)),decide_eq_false h,xH t L]
theorem Gx (L:List Tb)(t:aE):(bQ (av L) (.inr t)).getD (.list [])=aW (bu L t):=by
 rw[xH];unfold bu;cases L.find? λp=>decide (p.1=t)<;>rfl
theorem ZX (L:List Tb):cv (av L)=af:=wQ λkd m=>by
 obtain⟨p,_,rfl⟩:=cB.1 m;exact λq=>nomatch q
theorem FL {L:List Tb}{t:aE}{r:List Int}(h:r∈bu L t):∃ p∈L,p.1=t/\p.2=bu L t:=by
 unfold bu at h ⊢;cases e:L.find? λp=>decide (p.1=t) with
 |none=>rw[e] at h;simp at h
 |some p=>
  grind
theorem ZD {L:List Tb}{t:aE}(h:t∉L.map (·.1)):bu L t=[]:=by
 unfold bu;rw[CT.2 λp m=>by
  simp only[decide_eq_true_eq];exact λe=>h (cB.2 ⟨p,m,e⟩)]
 rfl
theorem K8 {L:List Tb}{wd:aE->Nat}(h1:∀ t,1<=wd t)(hL:∀ p∈L,p.2.length<64/\∀ r∈p.2,r.length=wd p.1):Bk (av L) (bu L) wd:=by
 refine⟨ZX L,Gx L,λt=>?_,h1,λt r m=>?_⟩
 .by_cases h:∃ r,r∈bu L t
  .obtain⟨r,m⟩:=h;obtain⟨p,mp,_,e⟩:=FL m;rw[<-e];exact(hL p mp).1
  .have:=List.eq_nil_iff_forall_not_mem.2 λr m=>h ⟨r,m⟩
   rw[this];simp
 .obtain⟨p,mp,e1,e2⟩:=FL m
  grind
theorem Ip {L:List Tb}(nd:(L.map (·.1)).Nodup):KnR (λd=>∃ T:List (List Int),d=aW T) (av L):=by
 refine⟨λkd m=>?_,?_⟩
 .obtain⟨p,_,rfl⟩:=cB.1 m
  grind
 .unfold av
  grind
theorem Kv {L:List Tb}(nd:(L.map (·.1)).Nodup):qZ af (.dict (av L)) (.dict (av L))=aa (.bool ag):=
 (Ip nd).eqK (λd ⟨T,e⟩=>by rw[e];exact UJ T) (λd ⟨T,e⟩=>by rw[e];exact Lx T) af
def iS:List Tb->aE->List (List Int)->List Tb
 |[],_,_=>[]
 |p::L,t,R=>if p.1=t then(p.1,R)::L else p::iS L t R
theorem AD (t:aE)(R:List (List Int)):∀ L:List Tb,iY (av L) (.inr t) (aW R)=av (iS L t R)
 |[]=>rfl
 |p::L=>by
  show(if bK (.str p.1)=aa (.inr t) then(dB p.1,aW R)::av L else(dB p.1,aW p.2)::iY (av L) (.inr t) (aW R))=av (if p.1=t then(p.1,R)::L else p::iS L t R)
  by_cases h:p.1=t
  .rw[if_pos (by rw[h];rfl),if_pos h];rfl
  .rw[if_neg (λe=>h (by injection e with e;injection e)),if_neg h,AD t R L];rfl
theorem HC (t:aE)(R:List (List Int)):∀ L:List Tb,(iS L t R).map (·.1)=L.map (·.1)
 |[]=>rfl
 |p::L=>by
  show(if p.1=t then(p.1,R)::L else p::iS L t R).map (·.1)=_
  by_cases h:p.1=t
  .rw[if_pos h];rfl
  .rw[if_neg h,cY,HC t R L];rfl
theorem GC {t:aE}:∀ {L:List Tb} {p:Tb},p∈iS L t R->p∈L\/(p.1=t/\p.2=R)
 |[],p,m=>by simp[iS] at m
 |q::L,p,m=>by
  have m:p∈(if q.1=t then(q.1,R)::L else q::iS L t R):=m
  by_cases h:q.1=t
  .grind
  .rw[if_neg h] at m;rcases cV.1 m with rfl|m
   .exact .inl bO
   .exact(GC m).imp (bM _) id
theorem PL {Y Y':aP}{P:Out->Prop}{G:SF}(h:f (vS Y)=aa d)(hT:T d Y=aa Y')(k:Goes G Y' P):Goes (aO (uA .s f T) G) Y P:=eZ (by
 have e:eV 0 .s f Y=aa d:=h;unfold uA;rw[e,bE,hT]
 rfl) k
theorem find_key {L:List Tb}{t:aE}(h:t∈L.map (·.1)):∃ p,(L.find? λp=>decide (p.1=t))=aa p:=by
 cases e:L.find? λp=>decide (p.1=t) with
 |some p=>exact⟨p,rfl⟩
 |none=>
  grind
theorem WE {L:List Tb}{t:aE}(h:t∉L.map (·.1)):(L.find? λp=>decide (p.1=t))=ae:=CT.2 λp m=>by
 grind
theorem uS {L:List Tb}{t:aE}(h:t∈L.map (·.1)):bQ (av L) (.inr t)=aa (aW (bu L t)):=by
 obtain⟨p,e⟩:=find_key h;rw[xH];unfold bu;rw[e]
 rfl
end Aw
namespace L2
open PySem PySem.Spec PyProof.Rows
variable {j e p:Nat}{l:List aG}{v u:aE->Int}{S:Nat->Prop}{r:List Int}{zs:List aE}
def tv (v:aE->Int):aG->Int
 |.inl i=>i
 |.inr z=>v z
section
variable {ls:Nat->List aG}
abbrev jS:=Nat->List Int->Prop
def qU (ls:Nat->List aG)(S:Nat->Prop)(T:jS)(v:aE->Int):Prop:=∀ k,S k->T k ((ls k).map (tv v))
def DB (a b:List aG)(U:List Int->Prop)(r:List Int):Prop:=∃ u u',r=a.map (tv u)/\U (b.map (tv u'))/\∀ z,(.inr z:aG)∈a->(.inr z:aG)∈b->u z=u' z
def wA (T:jS)(k:Nat)(U:List Int->Prop):jS:=λj=>if j=k then U else T j
theorem FE (T:jS)(k:Nat)(U:List Int->Prop):wA T k U k=U:=if_pos rfl
theorem Bc {T:jS}{k:Nat}{U:List Int->Prop}(h:j≠k):wA T k U j=T j:=if_neg h
def zJ (ls:Nat->List aG)(S:Nat->Prop)(e p:Nat):Prop:=S e/\S p/\e≠p/\∀ z,(.inr z:aG)∈ls e->∀ k,S k->k≠e->(.inr z:aG)∈ls k->(.inr z:aG)∈ls p
def less (S:Nat->Prop)(e:Nat):Nat->Prop:=λk=>S k/\k≠e
def kg (ls:Nat->List aG)(T:jS)(e p:Nat):jS:=wA T p λr=>T p r/\DB (ls p) (ls e) (T e) r
theorem SM(h:l.map (tv v)=l.map (tv u)){z:aE}(m:(.inr z:aG)∈l):v z=u z:=Cv.1 h _ m
theorem GI(h:∀ z,(.inr z:aG)∈l->v z=u z):l.map (tv v)=l.map (tv u):=nV λk m=>by
 cases k with
 |inl i=>rfl
 |inr z=>exact h z m
open Classical in
theorem glue(E:zJ ls S e p)(hp:∀ z,(.inr z:aG)∈ls e->(.inr z:aG)∈ls p->v z=u z):∃ v2:aE->Int,(∀ k,less S e k->(ls k).map (tv v2)=(ls k).map (tv v))/\(ls e).map (tv v2)=(ls e).map (tv u):=by
 refine⟨λz=>if (.inr z:aG)∈ls e then u z else v z,λk hk=>GI λz mz=>?_,GI λz mz=>if_pos mz⟩
 by_cases m:(.inr z:aG)∈ls e
 .rw[if_pos m];exact(hp z m (E.2.2.2 z m k hk.1 hk.2 mz)).symm
 .rw[if_neg m]
theorem Gw{T:jS}(E:zJ ls S e p)(h:qU ls S T v):qU ls (less S e) (kg ls T e p) v:=λk hk=>by
 by_cases q:k=p
 .subst q;unfold kg;rw[FE];exact⟨h k E.2.1,v,v,rfl,h e E.1,λ_ _ _=>rfl⟩
 .unfold kg;rw[Bc q];exact h k hk.1
theorem Jq {T:jS}{k:Nat}(h:kg ls T e p k r):T k r:=by
 unfold kg at h;by_cases q:k=p
 .subst q;rw[FE] at h;exact h.1
 .rwa [Bc q] at h
theorem Jt{T:jS}(E:zJ ls S e p)(h:qU ls (less S e) (kg ls T e p) v):∃ v2,qU ls S T v2/\∀ k,less S e k->(ls k).map (tv v2)=(ls k).map (tv v):=by
 have hp:=h p ⟨E.2.1,jI E.2.2.1⟩;unfold kg at hp;rw[FE] at hp;obtain⟨_,u,u',h1,h2,h3⟩:=hp;obtain⟨v2,a,b⟩:=glue E λz m1 m2=>(SM h1 m2).trans (h3 z m2 m1)
 refine⟨v2,λk hk=>?_,a⟩
 by_cases q:k=e
 .rw[q,b];exact h2
 .rw[a k ⟨hk,q⟩];exact Jq (h k ⟨hk,q⟩)
def wK (ls:Nat->List aG):(Nat->Prop)->List (Nat×Nat)->(Nat->Prop)->Prop
 |S,[],R=>∀ k,S k↔R k
 |S,q::es,R=>zJ ls S q.1 q.2/\wK ls (less S q.1) es R
def xt (ls:Nat->List aG)(T:jS)(es:List (Nat×Nat)):jS:=es.foldl (λT q=>kg ls T q.1 q.2) T
theorem xJ {R:Nat->Prop}:∀ {es:List (Nat×Nat)} {S:Nat->Prop},wK ls S es R->(∀ k,R k->S k)/\∀ q∈es,S q.1/\S q.2
 |[],S,h=>⟨λk r=>(h k).2 r,λq m=>by simp at m⟩
 |q::es,S,h=>by
  obtain⟨a,b⟩:=xJ h.2;refine⟨λk r=>(a k r).1,λx m=>?_⟩
  rcases cV.1 m with rfl|m
  .exact⟨h.1.1,h.1.2.1⟩
  .exact⟨(b x m).1.1,(b x m).2.1⟩
end
open PySem PySem.Spec PyProof.Rows Aw
theorem qH{p:aG×Int}(m:p∈l.zip (l.map (tv v))):p.1∈l/\p.2=tv v p.1:=by
 obtain⟨j,hj,rfl⟩:=sY m
 grind
theorem Rt{k:aG}(m:k∈l):(k,tv v k)∈l.zip (l.map (tv v)):=by
 obtain⟨j,hj,rfl⟩:=sY m;have h:j<(l.zip (l.map (tv v))).length:=by rw[yI,cD,Nat.min_self];exact hj
 have:=lG h
 grind
theorem zQ (l:List aG)(v:aE->Int):∃ kn,cO l (l.map (tv v)) []=aa kn/\∀ z,(.inr z:aG)∈l->bB kn z=aa (v z):=by
 obtain⟨kn,e⟩:=xE (ps:=l.zip (l.map (tv v))) (kn:=[]) (λp m i q=>by rw[(qH m).2,q];rfl) (λp _ z u _ e=>by cases e) (λp m p' m' z q q'=>by rw[(qH m).2,(qH m').2,q,q'])
 refine⟨kn,?_,λz m=>?_⟩
 .unfold cO
  grind
 .exact((sG e).2.1 _ (Rt m)).2 z rfl
theorem To:(∃ kn,cO l r []=aa kn) ↔ ∃ v,r=l.map (tv v):=by
 constructor
 .rintro⟨kn,h⟩;unfold cO at h;by_cases hl:r.length=l.length
  .rw[if_pos hl] at h;obtain⟨_,b,_⟩:=sG h;refine⟨λz=>(bB kn z).getD 0,MD (by rw[cD];exact hl) λj h1 h2=>?_⟩
   rw[List.getElem_map];have hj:j<l.length:=()
   have hz:j<(l.zip r).length:=by rw[yI];lia
   have:=b (l.zip r)[j] (lG hz);rw[List.getElem_zip] at this;cases hk:l[j] with
   |inl i=>exact this.1 i hk
   |inr z=>
    have e:=this.2 z hk;show r[j]=(bB kn z).getD 0;rw[e]
    rfl
  all_goals grind
 .rintro⟨v,rfl⟩;obtain⟨kn,e,_⟩:=zQ l v;exact⟨kn,e⟩
def iX (l:List aG)(zs:List aE)(r:List Int):List Int:=zs.map λz=>((cO l r []).bind λkn=>bB kn z).getD 0
theorem rY(h:∀ z∈zs,(.inr z:aG)∈l)(v:aE->Int):iX l zs (l.map (tv v))=zs.map v:=nV λz m=>by
 obtain⟨kn,e,hl⟩:=zQ l v
 grind
def mQ (a b:List aG)(zs:List aE)(R U:List (List Int)):List (List Int):=R.filter λr=>(U.map (iX b zs)).contains (iX a zs r)
theorem Yq {a b:List aG}{R U:List (List Int)}(hz:∀ z,z∈zs↔(.inr z:aG)∈a/\(.inr z:aG)∈b)(hR:∀ r∈R,∃ v,r=a.map (tv v))(hU:∀ r∈U,∃ v,r=b.map (tv v)) :
  r∈mQ a b zs R U↔r∈R/\DB a b (· ∈ U) r:=by
 unfold mQ;rw[jR];refine and_congr_right λmr=>?_
 obtain⟨v,rfl⟩:=hR r mr;rw[Df,rY λz m=>((hz z).1 m).1]
 constructor
 .intro m;obtain⟨r',m',e⟩:=cB.1 m;obtain⟨v',rfl⟩:=hU r' m';rw[rY λz m=>((hz z).1 m).2] at e
  exact⟨v,v',rfl,m',λz m1 m2=>(Cv.1 e z ((hz z).2 ⟨m1,m2⟩)).symm⟩
 .rintro⟨u,u',e,m',h⟩;refine cB.2 ⟨_,m',?_⟩;rw[rY λz m=>((hz z).1 m).2]
  refine nV λz m=>?_
  obtain⟨m1,m2⟩:=(hz z).1 m;rw[<-h z m1 m2];exact(SM e m1).symm
theorem Apj {a b:List aG}{R U:List (List Int)}:(mQ a b zs R U).Sublist R:=List.filter_sublist
abbrev eI:=List (List (List Int))
def tb (t:eI):jS:=λk r=>r∈t.getD k []
def lV (ls:Nat->List aG)(t:eI):Prop:=∀ k r,r∈t.getD k []->∃ v,r=(ls k).map (tv v)
theorem HN {t:eI}(hp:p<t.length)(R:List (List Int))(j:Nat):(t.set p R).getD j []=if j=p then R else t.getD j []:=by
 grind
section
variable {ls:Nat->List aG}{cm:Nat->Nat->List aE}
def Cm (ls:Nat->List aG)(cm:Nat->Nat->List aE):Prop:=∀ a b z,z∈cm a b↔(.inr z:aG)∈ls a/\(.inr z:aG)∈ls b
def ir (ls:Nat->List aG)(cm:Nat->Nat->List aE)(t:eI)(k j:Nat):eI:=t.set k (mQ (ls k) (ls j) (cm k j) (t.getD k []) (t.getD j []))
theorem wX (t:eI)(k j:Nat):(ir ls cm t k j).length=t.length:=MA
theorem Hk (hc:Cm ls cm){t:eI}(hf:lV ls t){k:Nat}(hk:k<t.length):tb (ir ls cm t k j)=wA (tb t) k λr=>tb t k r/\DB (ls k) (ls j) (tb t j) r:=by
 funext i r;unfold tb ir wA;rw[HN hk];by_cases h:i=k
 .subst h;rw[if_pos rfl,if_pos rfl];exact propext (Yq (hc i j) (hf i) (hf j))
 .rw[if_neg h,if_neg h]
theorem GP {t:eI}(hf:lV ls t){k:Nat}(hk:k<t.length):lV ls (ir ls cm t k j):=λi r m=>by
 unfold ir at m;rw[HN hk] at m;by_cases h:i=k
 .subst h;rw[if_pos rfl] at m;exact hf i r (Apj.mem m)
 .rw[if_neg h] at m;exact hf i r m
def k5 (ls:Nat->List aG)(cm:Nat->Nat->List aE)(t:eI)(es:List (Nat×Nat)):eI:=es.foldl (λt q=>ir ls cm t q.2 q.1) t
theorem FA (hc:Cm ls cm):∀ {es:List (Nat×Nat)} {t:eI},lV ls t->(∀ q∈es,q.2<t.length)->tb (k5 ls cm t es)=xt ls (tb t) es/\lV ls (k5 ls cm t es)/\(k5 ls cm t es).length=t.length
 |[],t,hf,_=>⟨rfl,hf,rfl⟩
 |q::es,t,hf,h=>by
  have hq:=h q bO;obtain⟨a,b,c⟩:=FA hc (es:=es) (t:=ir ls cm t q.2 q.1) (GP hf hq) λx m=>by rw[wX];exact h x (bM _ m)
  refine⟨?_,b,c.trans (wX _ _ _)⟩;show tb (k5 ls cm (ir ls cm t q.2 q.1) es)=xt ls (kg ls (tb t) q.1 q.2) es;rw[a,Hk hc hf hq]
  rfl
theorem GE {t:eI}{k:Nat}(hk:k<t.length)(i:Nat):((ir ls cm t k j).getD i []).Sublist (t.getD i []):=by
 unfold ir;rw[HN hk];by_cases h:i=k
 .subst h;rw[if_pos rfl];exact Apj
 all_goals grind
end
end L2
namespace J2
variable {Z:Type}(N:Nat->Z->Prop)
def Co (S:Nat->Prop)(k j:Nat):Prop:=∀ z,N k z->N j z\/∀ o,S o->o≠k->¬ N o z
def rm (S:Nat->Prop)(k:Nat):Nat->Prop:=λo=>S o/\o≠k
def P:Nat->(Nat->Prop)->Prop
 |0,S=>∀ a b,S a->S b->a=b
 |n+1,S=>(∀ a b,S a->S b->a=b)\/∃ k p,S k/\S p/\p≠k/\Co N S k p/\P n (rm S k)
end J2
namespace Aw
open PySem L2
variable {n i j m c:Nat}{f g:EF}{Y:aP}{d:aA}{zs:List aE}{ls:List Ln}{ds:List aA}{l a b:Ln}{z:aE}{L:List Nat}{p:Nat×Nat}{ks:List aG}{kds:List (aA×aA)}{wd:aE->Nat}{β:Type}{r ns:List Int}{R:List (List Int)}{v:aE->Int}{F:SF}{C:Nat->Int}
theorem sv(h:f (vA Y)=aa d)(hf:fO n d=af):eV n .a f Y=aa d:=by
 show((f (vA Y)).bind λd=>if fO n d=af then aa d else ae)=_
 rw[h,bE,if_pos hf]
def fX (l:Ln):Prop:=l.2.length<=6/\∀ k∈l.2,cF (kD k)=af
abbrev lN (cs:List Nat):aA:=.list (cs.map λ(c:Nat)=>bF c)
abbrev ay (ls:List Ln):aA:=.tuple (ls.map bG)
abbrev lK (ks:List aG):aA:=.list (ks.map kD)
abbrev lZ (zs:List aE):aA:=.list (zs.map dB)
theorem FB (cs:List Nat):bR [lN cs]=aa (.int cs.length):=by simp[bR]
theorem Ef(h:i<zs.length):∃ z∈zs,aq (lZ zs) (.int i)=aa (.str z):=⟨zs[i],lG h,AJ (q:=dB) (hX h)⟩
theorem NN {cs:List Nat}(h:i<cs.length):∃ c∈cs,aq (lN cs) (.int i)=aa (.int c):=⟨cs[i],lG h,AJ (q:=λ(c:Nat)=>bF c) (hX h)⟩
theorem oy (a b:Nat):ck (.int a) (.int b)=aa (.bool (decide (a=b))):=by
 rw[uN]
 congr 2
 rw[iP];simp
 lia
def Ec:aG->Option aE
 |.inr z=>aa z
 |.inl _=>ae
def gM (ks:List aG):List aE:=ks.filterMap Ec
def eK (ls:List (aE×List aG)):List aE:=rG (ls.flatMap λl=>gM l.2)
def kt (z:aE):aA×aA:=(.str z,.bool af)
theorem Hj (am:List aE)(z:aE):((am.map kt).any λkd=>decide (bK kd.1=aa (.inr z)))=decide (z∈am):=by
 induction am with
 |nil=>rfl
 |cons y r ih=>
  rw[cY,qS,ih];have:bK (kt y).1=aa (.inr y):=rfl;rw[this];by_cases h:z=y
  .subst h;simp
  .have h':¬ y=z:=λe=>h e.symm
   simp[h,h']
theorem Ld (am:List aE)(z:aE):putD (am.map kt) (.inr z) (.bool af)=(eW am z).map kt:=by
 unfold putD eW;rw[Hj];by_cases h:z∈am
 .rw[if_pos (by simpa using h),if_pos h,dX]
  refine nV λy _=>?_
  show(if bK (kt y).1=aa (.inr z) then((kt y).1,hV af) else kt y)=kt y
  split<;>rfl
 .rw[if_neg (by simpa using h),if_neg h,iK]
  rfl
def gN (am:List aE)(k:aG):List aE:=match k with
 |.inr z=>eW am z
 |.inl _=>am
theorem JZ:∀ (ks:List aG) (am:List aE),ks.foldl gN am=(gM ks).foldl eW am
 |[],_=>rfl
 |.inl i::ks,am=>JZ ks am
 |.inr z::ks,am=>JZ ks (eW am z)
theorem Jm (am:List aE)(k:aG):(gN am k).length<=am.length+1:=by
 cases k with
 |inl i=>exact yG _
 |inr z=>exact uT am z
theorem Hf {am:List aE}{k:aG}(h:∀ z∈am,cF (.str z)=af)(hk:cF (kD k)=af):∀ z∈gN am k,cF (.str z)=af:=by
 cases k with
 |inl i=>exact h
 |inr z=>exact λy m=>(Auw.1 m).elim (h y) λe=>e ▸ hk
theorem GX {ls:List (aE×List aG)}(h:∀ l∈ls,fX l)(hn:ls.length<=100):xQ [.tuple (ls.map bG)]=aa (.list ((eK ls).map dB)):=by
 have:∃ d,xQ [.tuple (ls.map bG)]=aa d/\d=.list ((eK ls).map dB):=by
  rw[7];refine cA rfl (by simp) ?_
  refine dH (λY'=>∃ x2 x3:L2.Slot,(∀ z∈eK ls,cF (.str z)=af)/\Y'=[s0 (.tuple (ls.map bG)),aa (1,.dict ((eK ls).map kt)),x2,x3]) ?_ ?_
  .refine iN (b0:=[]) (λam l=>l.2.foldl gN am) (λi am Y'=>∃ x2 x3:L2.Slot,am.length<=6*i/\(∀ z∈am,cF (.str z)=af)/\Y'=[s0 (.tuple (ls.map bG)),aa (1,.dict (am.map kt)),x2,x3]) (c9 (jC rfl)) ⟨ae,ae,bJ _,λ_ m=>by simp at m,rfl⟩ ?_ ?_
   .rintro i l am _ hx ⟨x2,x3,ha,hy,rfl⟩;have hl:=h l (fC hx);have hi:=(cR.1 hx).1;refine⟨[s0 (.tuple (ls.map bG)),aa (1,.dict (am.map kt)),s0 (bG l),x3],rfl,?_⟩;refine iN (xs:=l.2) (q:=kD) gN (λj cg Y'=>∃ x3:L2.Slot,cg.length<=6*i+j/\(∀ z∈cg,cF (.str z)=af)/\Y'=[s0 (.tuple (ls.map bG)),aa (1,.dict (cg.map kt)),s0 (bG l),x3]) (c9 (jC (by simp[vS,ah,aB,eC,bG,aq,e8,gf]))) ⟨x3,ha,hy,rfl⟩ ?_ ?_
    .rintro j k cg _ hk ⟨x3,on,j7,rfl⟩;have hj:=(cR.1 hk).1;have h6:=hl.1;refine⟨[s0 (.tuple (ls.map bG)),aa (1,.dict (cg.map kt)),s0 (bG l),s0 (kD k)],rfl,?_⟩;have g1:=Jm cg k;have g2:=Hf j7 (hl.2 k (fC hk));cases k with
     |inl v=>exact fP (by simp[bV,vS,dz,aB,ak,i5,fD,kU,j5,kD]) (gH ⟨_,.inl rfl,_,(),g2,rfl⟩)
     |inr z=>
      refine dZ (by simp[bV,vS,dz,aB,ak,i5,fD,kU,j5,kD]) (Bi rfl rfl rfl rfl (by simp;lia) ⟨_,.inl rfl,s0 (.str z),(),g2,?_⟩)
      rw[Ld]
      rfl
    .rintro _ ⟨x3,on,j7,rfl⟩;have h6:=hl.1;exact⟨_,.inl rfl,_,_,(),j7,rfl⟩
   .rintro _ ⟨x2,x3,ha,hy,rfl⟩;have e:ls.foldl (λam l=>l.2.foldl gN am) []=eK ls:=by
     unfold eK rG;rw[List.foldl_flatMap]
     congr 1
     funext am l;exact JZ l.2 am
    rw[e] at hy ⊢;exact⟨_,rfl,x2,x3,hy,rfl⟩
  rintro _ ⟨x2,x3,hy,rfl⟩;refine kJ (cW (aY rfl ?_) ⟨_,rfl,rfl⟩);have hp:cv ((eK ls).map kt)=af:=wQ λkd m=>by
   obtain⟨z,_,rfl⟩:=cB.1 m;exact λq=>nomatch q
  show(if (cv ((eK ls).map kt)&&((eK ls).map kt).all (λkd=>cF kd.1))=af then aa (vK (((eK ls).map kt).map (·.1))) else ae)=_
  rw[hp,yW,if_pos (fV.2 λkd m=>by
   obtain⟨z,mz,rfl⟩:=cB.1 m;exact hy z mz),dX]
  rfl
 rw[2]
theorem GL (y z:aE):bU (.str y) (.str z)=decide (y=z):=by
 rw[show bU (.str y) (.str z)=(y==z) by simp[bU],iP]
 simp
theorem Lv (zs:List aE)(z:aE):((zs.map dB).any λd=>bU d (.str z))=decide (z∈zs):=by
 rw[List.any_map,iP];simp[GL]
theorem Qv (zs:List aE):noDicts (zs.map dB)=af:=uV λt m=>by
 obtain⟨z,_,rfl⟩:=cB.1 m
 rfl
theorem Lg (neg:Bool)(zs:List aE)(z:aE):fz neg (.str z) (.list (zs.map dB))=aa (.bool (neg != decide (z∈zs))):=by
 show(if (cS (.str z)&&noDicts (zs.map dB))=af then aa (hV (neg != (zs.map dB).any λd=>bU d (.str z))) else ae)=_
 rw[Qv,Lv,show cS (.str z)=af from rfl,yX,if_pos rfl]
theorem any_keys (ks:List aG)(z:aE):((ks.map kD).any λd=>bU d (.str z))=decide (z∈gM ks):=by
 induction ks with
 |nil=>rfl
 |cons k r ih=>
  rw[cY,qS,ih];cases k with
  |inl i=>
   have:bU (kD (.inl i)) (.str z)=ag:=by simp[kD,bU]
   rw[this]
   rfl
  |inr y=>
   have:bU (kD (.inr y)) (.str z)=decide (y=z):=GL y z;rw[this];show(decide (y=z)||decide (z∈gM r))=decide (z∈y::gM r);by_cases e:y=z
   .subst e;simp
   .have e':¬ z=y:=λq=>e q.symm
    simp[e,e']
theorem QM (z:aE)(ks:List aG):fz ag (.str z) (.tuple (ks.map kD))=aa (.bool (decide (z∈gM ks))):=by
 show(if (cS (.str z)&&noDicts (ks.map kD))=af then aa (hV (ag != (ks.map kD).any λd=>bU d (.str z))) else ae)=_
 rw[XM,any_keys,show cS (.str z)=af from rfl,yX,if_pos rfl]
 simp
def oD (ls:List (aE×List aG))(k:Nat):List (aE×List aG):=ls.take k++ls.drop (k+1)
def FU (ls:List (aE×List aG))(k:Nat)(l:aE×List aG):List aE:=(eK [l]).filter λz=>decide (z∈eK (oD ls k))
theorem GG{lo hi:OF}{Y:List (Option aA)}{l u:Option Int}(e1:f Y=aa (.tuple ds))(e2:lo Y=aa l)(e3:hi Y=aa u):tN f lo hi Y=aa (.tuple (cutD ds l u)):=by
 unfold tN;rw[e1,bE,e2,bE,e3,bE]
theorem RS(k:Nat)(h:k<=ds.length):cutD ds (aa (k:Int)) ae=ds.drop k:=by
 unfold cutD;rw[HT.Ax0,HT.As5,Nat.min_eq_left h];exact List.take_of_length_le (by simp)
theorem Oe {ls:List (aE×List aG)}(h:∀ l∈ls,fX l)(hn:ls.length<=50){k:Nat}{l:aE×List aG}(hk:ls[k]?=aa l):HX [.tuple (ls.map bG),.int k]=aa (.list ((FU ls k l).map dB)):=by
 have br:=(cR.1 hk).1;have ur:(oD ls k).length<=100:=by
  unfold oD;rw[pH,yJ,List.length_drop]
  lia
 have:∃ d,HX [.tuple (ls.map bG),.int k]=aa d/\d=.list ((FU ls k l).map dB):=by
  rw[7];have er:=GX (λx m=>h x (by
   rcases eM.1 m with m|m
   .exact List.mem_of_mem_take m
   .exact Cs m)) ur
  have el:=GX (λx m=>by rw[cP.1 m];exact h l (fC hk)) (by simp)
  refine cA (aY (aZ (aN (a:=.tuple ((ls.take k).map bG)) (b:=.tuple ((ls.drop (k+1)).map bG)) ?_ ?_ ?_) rfl) er) (by simp) ?_
  .have:=GG (f:=aB 0) (lo:=oN) (hi:=oS (aB 1)) (Y:=vS [s0 (.tuple (ls.map bG)),s0 (.int k),ae]) rfl rfl rfl;rw[Il (by simpa using nQ br),<-List.map_take] at this
   exact this
  .have:=GG (f:=aB 0) (lo:=oS (ah dE (aB 1) (eC (.int 1)))) (hi:=oN) (Y:=vS [s0 (.tuple (ls.map bG)),s0 (.int k),ae]) (l:=aa ((k+1:Nat):Int)) rfl rfl rfl;rw[RS _ (by simp;lia),<-Cw] at this
   exact this
  .show(if ((ls.take k).map bG).length+((ls.drop (k+1)).map bG).length<=sizeLine then aa (dJ ((ls.take k).map bG++(ls.drop (k+1)).map bG)) else ae)=_
   rw[if_pos (lB (by simp;lia)),<-iK]
   rfl
  refine cW ?_ ⟨_,rfl,rfl⟩;refine fZ (λz=>decide (z∈eK (oD ls k))) dB (fA (aY ?_ el)) ?_ λz _=>?_
  .have:aq (.tuple (ls.map bG)) (.int k)=aa (bG l):=AN (by rw[gJ,hk];rfl)
   refine aZ ?_ rfl;have h2:(1:Nat)<=sizeLine:=lB ()
   unfold dD;rw[aZ (aN rfl rfl this) rfl];simp[h2]
  .have:(eK [l]).length<=6:=by
    have h1:=BH (gM l.2) [];have h2:(gM l.2).length<=l.2.length:=yL _ _;have h3:=(h l (fC hk)).1;have e:eK [l]=(gM l.2).foldl eW []:=by
     unfold eK rG;simp
    rw[e];simp at h1
    lia
   lia
  .refine⟨[aa (.str z),aa (.list ((eK (oD ls k)).map dB))],rfl,?_,λ_=>rfl⟩
   have:=Lg ag (eK (oD ls k)) z;simp[eV,bV,aV,vS,ah,dz,aB,eC,aM,cU,aD,aH,ak,i5,ax,itemsOf,dE,mS,gF,cJ,dY,m4,kh,je,fy,bR,fD,kU,j5,ck,cS,noDict,noDicts,mI,cX,bU,this]
 rw[2]
theorem Ahi {ls:List (aE×List aG)}:z∈eK ls ↔ ∃ l∈ls,z∈gM l.2:=by
 unfold eK;rw[Od,vL]
theorem Auk {ls:List (aE×List aG)}{k:Nat}{l:aE×List aG}:l∈oD ls k ↔ ∃ j,j≠k/\ls[j]?=aa l:=by
 unfold oD;rw[eM,Cu,Cu];constructor
 .rintro(⟨j,hj⟩|⟨j,hj⟩)
  .rw[List.getElem?_take] at hj;by_cases h:j<k
   .rw[if_pos h] at hj;exact⟨j,(),hj⟩
   .rw[if_neg h] at hj;cases hj
  .rw[List.getElem?_drop] at hj;exact⟨_,(),hj⟩
 .rintro⟨j,gu,hj⟩;by_cases h:j<k
  .exact .inl ⟨j,by rw[List.getElem?_take,if_pos h];exact hj⟩
  .exact .inr ⟨j-(k+1),by rw[List.getElem?_drop,show k+1+(j-(k+1))=j by lia];exact hj⟩
theorem pZ(h:i<ls.length):aq (ay ls) (.int i)=aa (bG (ls.getD i cu)):=AN (by rw[gJ,getD_some cu h];rfl)
def k7 (ls:List Ln)(i:Nat):List aE:=gM (ls.getD i cu).2
def qW (ls:List Ln)(L:List Nat)(k j:Nat):Prop:=∀ z∈k7 ls k,z∈k7 ls j\/∀ o∈L,o≠k->z∉k7 ls o
instance (ls:List Ln)(L:List Nat)(k j:Nat):Decidable (qW ls L k j):=by unfold qW;infer_instance
def eX (ls:List Ln)(L:List Nat)(k j:Nat):Bool:=decide (j≠k)&&decide (qW ls L k j)
def eT (p:Nat×Nat):aA:=.tuple [.int p.1,.int p.2]
def lY:Option (Nat×Nat)->aA
 |none=>.none
 |some p=>eT p
def fN (ls:List Ln)(L:List Nat):Option (Nat×Nat):=L.findSome? λk=>(L.find? (eX ls L k)).map λj=>(k,j)
theorem xv (a b:Nat):cn (.int a) (.int b)=aa (.bool (decide (a≠b))):=by
 rw[ne_int]
 congr 2
 rw[iP];simp
 lia
theorem Jw{k:Nat}(h:k∈L):∃ i:Nat,L[i]?=aa k/\FO (lN L) (.int k)=aa (.int i):=by
 have e1:∀ xs:List Nat,mB (xs.map λ(c:Nat)=>bF c)=aa (xs.map λ(c:Nat)=>(.inl (c:Int):aG)):=λxs=>by
  induction xs with
  |nil=>rfl
  |cons x xs ih=>
   show((bK (.int (x:Int))).bind λk=>(mB (xs.map λ(c:Nat)=>bF c)).bind λks=>aa (k::ks))=_
   rw[ih]
   rfl
 obtain⟨i,hi⟩:∃ i,ik (L.map λ(c:Nat)=>(.inl (c:Int):aG)) (.inl (k:Int))=aa i:=by
  unfold ik;cases e:(L.map λ(c:Nat)=>(.inl (c:Int):aG)).findIdx? λy=>decide (y=.inl (k:Int)) with
  |some i=>exact⟨i,rfl⟩
  |none=>
   have:=List.findIdx?_eq_none_iff.1 e (.inl (k:Int)) (cB.2 ⟨k,h,rfl⟩);simp at this
 refine⟨i,?_,?_⟩
 .have:=(QT hi).1;rw[gJ] at this;obtain⟨x,ex,e⟩:=mJ.1 this;have:x=k:=by
   have:(x:Int)=k:=by injection e
   lia
  rw[ex,this]
 .show((mB (L.map λ(c:Nat)=>bF c)).bind λks=>(bK (.int (k:Int))).bind λk=>(ik ks k).bind λj=>aa (bF j))=_
  rw[e1,bE];show((ik _ (.inl (k:Int))).bind λj=>aa (bF j))=_
  rw[hi]
  rfl
theorem Nl(nd:L.Nodup){k:Nat}(h1:L[i]?=aa k)(h2:L[j]?=aa k):i=j:=by
 obtain⟨a1,a2⟩:=cR.1 h1;obtain⟨b1,b2⟩:=cR.1 h2;have pw:=Yy.1 nd;rcases Nat.lt_trichotomy i j with h|h|h
 .exact absurd (a2.trans b2.symm) (pw i j a1 b1 h)
 .exact h
 .exact absurd (b2.trans a2.symm) (pw j i b1 a1 h)
theorem QL {α:Type}(g:α->Bool):∀ xs:List α,rA (xs.map λx=>hV (g x))=aa (xs.map g)
 |[]=>rfl
 |x::xs=>by
  show((rA (xs.map λx=>hV (g x))).bind λbs=>aa (g x::bs))=_
  rw[QL g xs]
  rfl
theorem Pb(ho:∀ l∈ls,fX l)(hL:∀ o∈L,o<ls.length)(nd:L.Nodup)(hl:L.length<=50){k:Nat}(hk:k∈L):JF [ay ls,lN L,.int k]=aa (match L.find? (eX ls L k) with|some j=>.int j|none=>.none):=by
 have:∃ d,JF [ay ls,lN L,.int k]=aa d/\d=(match L.find? (eX ls L k) with|some j=>.int j|none=>.none):=by
  rw[7]
  let sub:List Ln:=L.map λj=>ls.getD j cu
  obtain⟨i,hi,ei⟩:=Jw hk;have cf:∀ l∈sub,fX l:=λl m=>by
   obtain⟨j,mj,rfl⟩:=cB.1 m;exact ho _ (getD_mem cu (hL j mj))
  have J6:sub[i]?=aa (ls.getD k cu):=by
   rw[gJ,hi]
   rfl
  have es:=Oe cf (by show(L.map _).length<=50;simpa using hl) J6
  let W:List aE:=FU sub i (ls.getD k cu)
  have lc:bw [ae,aa 0] (ax (aB 1)) (gB 0) cI (ah aq (aB 1) (aB 0)) (vS [s0 (ay ls),s0 (lN L),s0 (.int k),ae,ae])=aa (.list (sub.map bG)):=by
   have:=fZ (cap:=[ae,aa 0]) (fi:=ax (aB 1)) (T:=gB 0) (t:=cI) (f:=ah aq (aB 1) (aB 0)) (Y:=vS [s0 (ay ls),s0 (lN L),s0 (.int k),ae,ae]) (λ_=>af) (λj=>bG (ls.getD j cu)) (fA rfl) () λj mj=>⟨[aa (.int j),aa (ay ls)],rfl,rfl,λ_=>aN rfl rfl (pZ (hL j mj))⟩
   rw[this,kR.2 (by simp)]
   rw[dX]
   rfl
  refine cA (aY (aZ (aY (aZ lc rfl) rfl) (aZ (aN rfl rfl ei) rfl)) es) (by simp) ?_
  have sq:∀ z,z∈W↔z∈k7 ls k/\∃ o∈L,o≠k/\z∈k7 ls o:=λz=>by
   show z∈(eK [ls.getD k cu]).filter (λz=>decide (z∈eK (oD sub i)))↔_
   rw[jR,Ahi];constructor
   .rintro⟨⟨l,ml,hz⟩,h2⟩;rw[cP.1 ml] at hz;refine⟨hz,?_⟩;obtain⟨l',J7,pj⟩:=Ahi.1 (of_decide_eq_true h2);obtain⟨j,hj,ej⟩:=Auk.1 J7;have ej:=ej;rw[gJ] at ej;obtain⟨o,eo,rfl⟩:=mJ.1 ej;refine⟨o,fC eo,λq=>hj ?_,pj⟩
    exact Nl nd (by rw[<-q];exact eo) hi
   .rintro⟨hz,o,mo,ne,pj⟩;refine⟨⟨_,cP.2 rfl,hz⟩,decide_eq_true (Ahi.2 ⟨ls.getD o cu,Auk.2 ?_,pj⟩)⟩;obtain⟨j,hj,ej⟩:=sY mo;refine⟨j,λq=>ne ?_,?_⟩
    .obtain⟨b1,b2⟩:=cR.1 hi;subst q;rw[<-ej,b2]
    .rw[gJ,hX hj,ej]
     rfl
  have hWl:W.length<=100:=by
   have h1:W.length<=(eK [ls.getD k cu]).length:=sX _ _;have h2:=BH (gM (ls.getD k cu).2) [];have h3:(gM (ls.getD k cu).2).length<=(ls.getD k cu).2.length:=yL _ _;have h4:=(ho _ (getD_mem cu (hL k hk))).1;have e:eK [ls.getD k cu]=(gM (ls.getD k cu).2).foldl eW []:=by
    unfold eK rG;simp
   rw[e] at h1;simp only[List.length_nil,Nat.zero_add] at h2
   lia
  let A:L2.Slot:=s0 (ay ls)
  let B:L2.Slot:=s0 (lN L)
  let C:L2.Slot:=s0 (.int k)
  let E:L2.Slot:=s0 (lZ W)
  refine GH (λY'=>∃ x4:L2.Slot,Y'=[A,B,C,E,x4]) (L.findSome? λj=>if eX ls L k j=af then aa (.int j) else ae) (AS (λY'=>∃ x4:L2.Slot,Y'=[A,B,C,E,x4]) _ (c9 (fA rfl)) ⟨ae,rfl⟩ ?_) ?_ ?_
  .rintro j mj _ ⟨x4,rfl⟩;refine⟨[A,B,C,E,s0 (.int j)],rfl,?_⟩;have f1:ah cn (aB 4) (aB 2) (vS [A,B,C,E,s0 (.int j)])=aa (.bool (decide (j≠k))):=aN rfl rfl (xv j k);have zy:=fZ (cap:=[ae,aa 0,aa 4]) (fi:=ax (aB 3)) (T:=gB 0) (t:=cI) (f:=ah (fz ag) (aB 0) (ah aq (ah aq (aB 1) (aB 2)) (eC (.int 1)))) (Y:=vS [A,B,C,E,s0 (.int j)]) (λ_=>af) (λz=>.bool (decide (z∈k7 ls j))) (fA rfl) () λz mz=>⟨[aa (.str z),aa (ay ls),aa (.int j)],rfl,rfl,λ_=>aN rfl (aN (aN rfl rfl (pZ (hL j mj))) rfl rfl) (QM z _)⟩
   rw[kR.2 (by simp)] at zy
   have f2:aM vU (aD (bw [ae,aa 0,aa 4] (ax (aB 3)) (gB 0) cI (ah (fz ag) (aB 0) (ah aq (ah aq (aB 1) (aB 2)) (eC (.int 1))))) aH) (vS [A,B,C,E,s0 (.int j)])=aa (.bool (decide (qW ls L k j))):=by
    refine aY (aZ zy rfl) ?_;show((rA (W.map λz=>hV (decide (z∈k7 ls j)))).bind λbs=>aa (hV (bs.all id)))=_
    rw[QL,bE,List.all_map]
    congr 2
    rw[iP,fV,decide_eq_true_eq];constructor
    .intro h z mz;by_cases q:∃ o∈L,o≠k/\z∈k7 ls o
     .exact .inl (of_decide_eq_true (h z ((sq z).2 ⟨mz,q⟩)))
     .exact .inr λo mo ne hz=>q ⟨o,mo,ne,hz⟩
    .intro h z mz;obtain⟨h1,o,mo,ne,hz⟩:=(sq z).1 mz;rcases h z h1 with q|q
     .exact decide_eq_true q
     .exact absurd hz (q o mo ne)
   have tb:bV .s (fL (ak (ah cn (aB 4) (aB 2))) (ak (aM vU (aD (bw [ae,aa 0,aa 4] (ax (aB 3)) (gB 0) cI (ah (fz ag) (aB 0) (ah aq (ah aq (aB 1) (aB 2)) (eC (.int 1))))) aH)))) [A,B,C,E,s0 (.int j)]=aa (eX ls L k j):=by
    simp only[bV,fL,ak,f1,f2,bE,i5];unfold eX;cases decide (j≠k)<;>rfl
   cases hb:eX ls L k j with
   |true=>exact dZ (tb.trans (by rw[hb])) (cW rfl rfl)
   |false=>exact fP (tb.trans (by rw[hb])) (gH ⟨_,.inl rfl,_,rfl⟩)
  .intro r hr;refine⟨_,rfl,?_⟩;have:∀ xs:List Nat,(xs.findSome? λj=>if eX ls L k j=af then aa (bF j) else ae)=(xs.find? (eX ls L k)).map λ(j:Nat)=>bF j:=λxs=>by
    induction xs with
    |nil=>rfl
    |cons x xs ih=>
     rw[gD,yN];cases eX ls L k x with
     |true=>rfl
     |false=>exact ih
   rw[this] at hr;obtain⟨j,e,rfl⟩:=mJ.1 hr;rw[e]
  .rintro hz _ ⟨x4,rfl⟩;refine cW rfl ⟨_,rfl,?_⟩;have:∀ xs:List Nat,(xs.findSome? λj=>if eX ls L k j=af then aa (bF j) else ae)=(xs.find? (eX ls L k)).map λ(j:Nat)=>bF j:=λxs=>by
    induction xs with
    |nil=>rfl
    |cons x xs ih=>
     rw[gD,yN];cases eX ls L k x with
     |true=>rfl
     |false=>exact ih
   rw[this] at hz;rw[CN.1 hz]
 rw[2]
theorem YC(ho:∀ l∈ls,fX l)(hL:∀ o∈L,o<ls.length)(nd:L.Nodup)(hl:L.length<=50):oQ [ay ls,lN L]=aa (lY (fN ls L)):=by
 have:∃ d,oQ [ay ls,lN L]=aa d/\d=lY (fN ls L):=by
  rw[7]
  let A:L2.Slot:=s0 (ay ls)
  let B:L2.Slot:=s0 (lN L)
  have key:(L.findSome? λk=>((L.find? (eX ls L k)).map λj=>eT (k,j)))=(fN ls L).map eT:=by
   unfold fN;rw[List.map_findSome?];refine JP λk _=>?_
   show _=Option.map eT ((L.find? (eX ls L k)).map λj=>(k,j))
   rw[Option.map_map]
   rfl
  refine GH (λY'=>∃ x2 x3:L2.Slot,Y'=[A,B,x2,x3]) (L.findSome? λk=>((L.find? (eX ls L k)).map λj=>eT (k,j))) (AS (λY'=>∃ x2 x3:L2.Slot,Y'=[A,B,x2,x3]) _ (c9 (fA rfl)) ⟨ae,ae,rfl⟩ ?_) ?_ ?_
  .rintro k mk _ ⟨x2,x3,rfl⟩;refine⟨[A,B,s0 (.int k),x3],rfl,?_⟩;have ep:=Pb ho hL nd hl mk;cases hf:L.find? (eX ls L k) with
   |none=>
    rw[hf] at ep;exact cA (aY rfl ep) (by simp) (fP rfl (gH ⟨_,.inl rfl,_,_,rfl⟩))
   |some j=>
    rw[hf] at ep;exact cA (aY rfl ep) (by simp) (dZ rfl (cW rfl rfl))
  .intro r hr;rw[key] at hr;obtain⟨p,e,rfl⟩:=mJ.1 hr;exact⟨_,rfl,by rw[e];rfl⟩
  .rintro hz _ ⟨x2,x3,rfl⟩;rw[key] at hz;exact cW rfl ⟨_,rfl,by rw[CN.1 hz];rfl⟩
 rw[2]
def dy (ls:List Ln):Nat->List Nat->List (Nat×Nat)×List Nat
 |0,L=>([],L)
 |n+1,L=>match fN ls L with
  |none=>([],L)
  |some p=>(p::(dy ls n (L.erase p.1)).1,(dy ls n (L.erase p.1)).2)
theorem IE(h:fN ls L=aa p):p.1∈L/\p.2∈L:=by
 unfold fN at h;obtain⟨k,mk,h⟩:=Za h;obtain⟨j,hj,rfl⟩:=mJ.1 h;exact⟨mk,Ct hj⟩
theorem PM:∀ {n:Nat} {L:List Nat},(dy ls n L).1.length<=n/\(dy ls n L).2.length<=L.length
 |0,L=>⟨by simp[dy],bJ _⟩
 |n+1,L=>by
  unfold dy;cases hf:fN ls L with
  |none=>exact⟨by simp,bJ _⟩
  |some p=>
   obtain⟨h1,h2⟩:=PM;have:=Cz (a:=p.1) (l:=L);exact⟨by simp;omega,by show(dy ls n (L.erase p.1)).2.length<=L.length;lia⟩
theorem Ng{k:Nat}(h:k∈L):∃ i,ik (L.map λ(c:Nat)=>(.inl (c:Int):aG)) (.inl (k:Int))=aa i/\L.eraseIdx i=L.erase k:=by
 induction L with
 |nil=>simp at h
 |cons x xs ih=>
  by_cases q:x=k
  .subst q;exact⟨0,by simp[ik,List.findIdx?_cons],by simp⟩
  .have hm:k∈xs:=by
    rcases cV.1 h with e|m
    .exact absurd e.symm q
    .exact m
   obtain⟨i,e1,e2⟩:=ih hm;refine⟨i+1,?_,?_⟩
   .unfold ik at e1 ⊢;rw[cY,List.findIdx?_cons];have:decide ((.inl (x:Int):aG)=.inl (k:Int))=ag:=decide_eq_false λe=>q (by
     have:(x:Int)=k:=by injection e
     lia)
    rw[this];simp only[tH,if_false];rw[e1]
    rfl
   .rw[sZ,e2,List.erase_cons_tail (by simpa using q)]
theorem OG:∀ xs:List Nat,mB (xs.map λ(c:Nat)=>bF c)=aa (xs.map λ(c:Nat)=>(.inl (c:Int):aG))
 |[]=>rfl
 |x::xs=>by
  show((bK (.int (x:Int))).bind λk=>(mB (xs.map λ(c:Nat)=>bF c)).bind λks=>aa (k::ks))=_
  rw[OG xs]
  rfl
theorem Ap{P:Out->Prop}{k:Nat}(h:f (vS Y)=aa (.int k))(hg:getL i Y=aa (L.map λ(c:Nat)=>bF c))(hk:k∈L)(kk:P (.nx (Y.set i (aa (1,lN (L.erase k)))))):Goes (lJ i .s f) Y P:=by
 obtain⟨j,e1,e2⟩:=Ng hk;refine⟨_,?_,kk⟩;have e0:eV 0 .s f Y=aa (.int k):=h;unfold lJ;rw[e0,bE,hg,bE,OG,bE];show((ik _ (.inl (k:Int))).bind λj=>aa (Out.nx (Y.set i (aa (1,.list ((L.map λ(c:Nat)=>bF c).eraseIdx j))))))=_
 rw[e1,bE];have:(L.map λ(c:Nat)=>bF c).eraseIdx j=(L.erase k).map λ(c:Nat)=>bF c:=by
  rw[<-e2];have go:∀ (xs:List Nat) (n:Nat),(xs.map λ(c:Nat)=>bF c).eraseIdx n=(xs.eraseIdx n).map λ(c:Nat)=>bF c:=by
   intro xs;induction xs with
   |nil=>intro n;simp
   |cons x xs ih=>
    intro n;cases n with
    |zero=>rfl
    |succ n=>rw[cY,sZ,sZ,cY,ih]
  exact go L j
 rw[this]
abbrev lP (ps:List (Nat×Nat)):aA:=.list (ps.map eT)
theorem BC (t:Option (Nat×Nat)):fO 0 (lY t)=af:=by cases t<;>rfl
theorem OT {ls:List Ln}(ho:∀ l∈ls,fX l):∀ (n cz:Nat) {L:List Nat} {ps:List (Nat×Nat)},L.length<=n->n<cz->(∀ o∈L,o<ls.length)->L.Nodup->L.length<=50->ps.length+n<=100 ->
  ∃ x3,iu .s (ak (ah gW (aB 3) (eC .none))) (aO (gE 1 .s (aB 3)) (aO (lJ 2 .s (ah aq (aB 3) (eC (.int 0)))) (bC 3 0 .a (aM oQ (aD (aB 0) (aD (aB 2) aH)))))) cz [s0 (ay ls),aa (1,lP ps),aa (1,lN L),s0 (lY (fN ls L))]
   = aa (.nx [s0 (ay ls),aa (1,lP (ps++(dy ls n L).1)),aa (1,lN (dy ls n L).2),x3])
 |n,0,L,ps,_,hf,_,_,_,_=>()
 |0,cz+1,L,ps,h0,_,_,_,_,_=>by
  have:L=[]:=yM.1 ()
  subst this;refine⟨s0 (lY (fN ls [])),?_⟩;rw[show(dy ls 0 []).1=[] from rfl,jJ]
  rfl
 |n+1,cz+1,L,ps,hn,hf,hL,nd,hl,hp=>by
  unfold dy;cases xl:fN ls L with
  |none=>
   refine⟨s0 (lY ae),?_⟩;rw[jJ]
   rfl
  |some p=>
   obtain⟨m1,m2⟩:=IE xl;have zz:=nd.erase p.1;have z0:∀ o∈L.erase p.1,o<ls.length:=λo m=>hL o (Cr m)
   have bh:(L.erase p.1).length<=n:=by rw[Cy m1];lia
   have me:(L.erase p.1).length<=50:=by rw[Cy m1];lia
   obtain⟨x3,ih⟩:=OT ho n cz (ps:=ps++[p]) bh () z0 zz me (by simp;lia)
   have body:Goes (aO (gE 1 .s (aB 3)) (aO (lJ 2 .s (ah aq (aB 3) (eC (.int 0)))) (bC 3 0 .a (aM oQ (aD (aB 0) (aD (aB 2) aH)))))) [s0 (ay ls),aa (1,lP ps),aa (1,lN L),s0 (eT p)]
     λo=>o=.nx [s0 (ay ls),aa (1,lP (ps++[p])),aa (1,lN (L.erase p.1)),s0 (lY (fN ls (L.erase p.1)))]:=by
    refine dH (λY'=>Y'=[s0 (ay ls),aa (1,lP (ps++[p])),aa (1,lN L),s0 (eT p)]) (qA rfl rfl (by simp;lia) ⟨_,rfl,by simp⟩) ?_
    rintro _ rfl;refine dH (λY'=>Y'=[s0 (ay ls),aa (1,lP (ps++[p])),aa (1,lN (L.erase p.1)),s0 (eT p)]) (Ap rfl rfl m1 ⟨_,rfl,rfl⟩) ?_
    rintro _ rfl;refine zP ?_ (by simp) rfl
    exact sv (aY rfl (YC ho z0 zz me)) (BC _)
   obtain⟨o,eo,rfl⟩:=body;refine⟨x3,?_⟩;show((aO (gE 1 .s (aB 3)) (aO (lJ 2 .s (ah aq (aB 3) (eC (.int 0)))) (bC 3 0 .a (aM oQ (aD (aB 0) (aD (aB 2) aH))))) [s0 (ay ls),aa (1,lP ps),aa (1,lN L),s0 (eT p)]).bind λo=>match o with
    |.nx Y'=>iu .s (ak (ah gW (aB 3) (eC .none))) (aO (gE 1 .s (aB 3)) (aO (lJ 2 .s (ah aq (aB 3) (eC (.int 0)))) (bC 3 0 .a (aM oQ (aD (aB 0) (aD (aB 2) aH)))))) cz Y'
    |.ct Y'=>iu .s (ak (ah gW (aB 3) (eC .none))) (aO (gE 1 .s (aB 3)) (aO (lJ 2 .s (ah aq (aB 3) (eC (.int 0)))) (bC 3 0 .a (aM oQ (aD (aB 0) (aD (aB 2) aH)))))) cz Y'
    |.bk Y'=>aa (.nx Y')
    | .rt d=>aa (.rt d))=_
   rw[eo,bE];show iu .s _ _ cz _=_;rw[ih,MH]
   rfl
def dQ (ls:List Ln):List (Nat×Nat)×List Nat:=dy ls ls.length (cQ ls.length)
theorem Bp(ho:∀ l∈ls,fX l)(hn:ls.length<=50):rU [ay ls]=aa (.tuple [lP (dQ ls).1,lN (dQ ls).2]):=by
 have:∃ d,rU [ay ls]=aa d/\d=.tuple [lP (dQ ls).1,lN (dQ ls).2]:=by
  rw[7];refine cA rfl (by simp) ?_
  refine cA (d:=lN (cQ ls.length)) (aY (aZ (aY rfl (by rw[rW,cD])) rfl) ?_) (by simp) ?_
  .show(if -4096<=(ls.length:Int)/\(ls.length:Int)<=4096 then aa (vK (L2.upTo (ls.length:Int).toNat)) else ae)=_
   rw[if_pos ⟨(),()⟩]
   rfl
  have hL:∀ o∈cQ ls.length,o<ls.length:=λo m=>nU.1 m
  have nd:(cQ ls.length).Nodup:=List.nodup_range;have hl:(cQ ls.length).length<=50:=by simpa using hn
  refine QS (aY rfl (YC ho hL nd hl)) (BC _) (by simp) ?_
  obtain⟨x3,e⟩:=OT ho ls.length 100 (ps:=[]) (by simp) () hL nd hl (by simp;lia)
  refine eZ e ?_;exact⟨_,rfl,_,rfl,rfl⟩
 rw[2]
theorem Yc(h:fN ls L=aa p):p.2≠p.1/\qW ls L p.1 p.2:=by
 unfold fN at h;obtain⟨k,mk,h⟩:=Za h;obtain⟨j,hj,rfl⟩:=mJ.1 h;have:=List.find?_some hj;unfold eX at this;obtain⟨h1,h2⟩:=iM.1 this;exact⟨of_decide_eq_true h1,of_decide_eq_true h2⟩
theorem Ac9:z∈gM ks↔(.inr z:aG)∈ks:=by
 unfold gM;rw[qR];constructor
 .rintro⟨k,m,e⟩;cases k with
  |inl i=>cases e
  |inr y=>cases e;exact m
 .exact λm=>⟨_,m,rfl⟩
def bf (ls:List Ln):Nat->List aG:=λk=>(ls.getD k cu).2
theorem PK:∀ {n:Nat} {L:List Nat},L.Nodup->wK (bf ls) (λk=>k∈L) (dy ls n L).1 (λk=>k∈(dy ls n L).2)
 |0,L,_=>λk=>Iff.rfl
 |n+1,L,nd=>by
  cases h:fN ls L with
  |none=>
   have e:dy ls (n+1) L=([],L):=by
    show(match fN ls L with|none=>([],L)|some p=>(p::(dy ls n (L.erase p.1)).1,(dy ls n (L.erase p.1)).2))=_
    rw[h]
   rw[e];exact λk=>Iff.rfl
  |some p=>
   have e:dy ls (n+1) L=(p::(dy ls n (L.erase p.1)).1,(dy ls n (L.erase p.1)).2):=by
    show(match fN ls L with|none=>([],L)|some p=>(p::(dy ls n (L.erase p.1)).1,(dy ls n (L.erase p.1)).2))=_
    rw[h]
   rw[e];obtain⟨m1,m2⟩:=IE h;obtain⟨ne,J8⟩:=Yc h;refine⟨⟨m1,m2,jI ne,λz mz k hk gu J9=>?_⟩,?_⟩
   .rcases J8 z (Ac9.2 mz) with c|c
    .exact Ac9.1 c
    .exact absurd (Ac9.2 J9) (c k hk gu)
   .have e2:less (λk=>k∈L) p.1=λk=>k∈L.erase p.1:=funext λk=>propext (by rw[nd.mem_erase_iff];exact And.comm)
    rw[e2];exact PK (nd.erase _)
theorem xK (ls:List Ln):wK (bf ls) (λk=>k<ls.length) (dQ ls).1 (λk=>k∈(dQ ls).2):=by
 have:=PK (ls:=ls) (n:=ls.length) (L:=cQ ls.length) List.nodup_range;have e:(λk=>k∈cQ ls.length)=λk=>k<ls.length:=funext λk=>propext nU
 rw[e] at this;exact this
theorem AI (T:aA)(ks:List aG)(row:List Int)(kn:List (aE×Int))(hk:ks.length<=100)(hn:kn.length<=100):rS [.tuple [T,tK ks],tI row,.dict (DN kn)]=aa (qP (cO ks row kn)):=by
 have:∃ d,rS [.tuple [T,tK ks],tI row,.dict (DN kn)]=aa d/\d=qP (cO ks row kn):=by
  rw[7];have e1:bV .s (ak (ah cn (aM bR (aD (aB 1) aH)) (aM bR (aD (ah aq (aB 0) (eC (.int 1))) aH)))) [aa (0,.tuple [T,tK ks]),aa (0,tI row),aa (0,.dict (DN kn)),ae,ae,ae,ae]=aa (decide (row.length≠ks.length)):=cL (Io rfl rfl);by_cases hl:row.length=ks.length
  .refine eZ (pT (e1.trans (by simp[hl]))) ?_
   refine cA (aY rfl (by show(if cv (DN kn)=af then aa (PyData.dict (DN kn)) else ae)=_;rw[kj];rfl)) (by simp) ?_
   have lz:(ks.zip row).length<=100:=by rw[yI];lia
   refine GB (λaw Y'=>∃ x4 x5 x6:L2.Slot,Y'=[aa (0,.tuple [T,tK ks]),aa (0,tI row),aa (0,.dict (DN kn)),aa (1,.dict (DN aw)),x4,x5,x6]) .none (dR eE kn (ks.zip row)) (GS (q:=KC) eE _ .none (c9 ?_) ⟨ae,ae,ae,rfl⟩ ?_) ?_ ?_
   .show iZ (aD (ah aq (aB 0) (eC (.int 1))) (aD (aB 1) aH)) (vS [aa (0,.tuple [T,tK ks]),aa (0,tI row),aa (0,.dict (DN kn)),aa (1,.dict (DN kn)),ae,ae,ae])=_;unfold iZ;rw[show aD (ah aq (aB 0) (eC (.int 1))) (aD (aB 1) aH) (vS [aa (0,.tuple [T,tK ks]),aa (0,tI row),aa (0,.dict (DN kn)),aa (1,.dict (DN kn)),ae,ae,ae])=aa [tK ks,tI row] from rfl,<-SG]
    rfl
   .rintro pre p post aw _ ff hf ⟨x4,x5,x6,rfl⟩;have sr:aw.length<=1000:=by
     have h1:=AW hf;have h2:pre.length<=(ks.zip row).length:=by rw[ff];simp
     lia
    exact⟨[aa (0,.tuple [T,tK ks]),aa (0,tI row),aa (0,.dict (DN kn)),aa (1,.dict (DN aw)),aa (0,kD p.1),aa (0,.int p.2),x6],rfl,Oz _ _ _ aw sr p x6⟩
   .intro hf;refine⟨_,rfl,?_⟩;unfold cO;rw[if_pos hl,hf]
    rfl
   .rintro aw hf _ ⟨x4,x5,x6,rfl⟩;refine⟨_,rfl,_,rfl,?_⟩;unfold cO;rw[if_pos hl,hf]
    rfl
  .refine uK (dZ (e1.trans (by simp[hl])) (cW rfl ⟨_,rfl,_,rfl,?_⟩))
   unfold cO;rw[if_neg hl]
   rfl
 rw[2]
theorem UZ{B:aE->List (List Int)}(b:Bk kds B wd)(t:aE)(K:aA):qC [.dict kds,.tuple [.str t,K]]=aa (aW (B t)):=by
 have:∃ d,qC [.dict kds,.tuple [.str t,K]]=aa d/\d=aW (B t):=by
  refine dC rfl (cW (b.get rfl rfl) ⟨_,rfl,rfl⟩)
 rw[2]
abbrev Kn:=List (aE×Int)
def ar (kn:Kn):aA:=.dict (DN kn)
def oY (bj:List Kn)(ks:List aG)(cb:List (List Int)):List Kn:=bj.flatMap λkn=>cb.filterMap λr=>cO ks r kn
theorem HQ {α:Type}(f:α->Option β):∀ (xs:List α) (am:List β),xs.foldl (λa x=>a++(f x).toList) am=am++xs.filterMap f
 |[],am=>by simp
 |x::xs,am=>by
  rw[pI,HQ f xs,MC];cases f x<;>simp
theorem TK {α:Type}(f:α->List β):∀ (xs:List α) (am:List β),xs.foldl (λa x=>a++f x) am=am++xs.flatMap f
 |[],am=>by simp
 |x::xs,am=>by
  rw[pI,TK f xs,Dd,MH]
theorem Qw (t:aE)(ks:List aG)(cb:List (List Int))(bj:List Kn)(hk:ks.length<=100)(hn:∀ kn∈bj,kn.length<=100)(hm:bj.length*cb.length<=90000) :
  IW [.list (bj.map ar),bG (t,ks),aW cb]=aa (.list ((oY bj ks cb).map ar)):=by
 have:∃ d,IW [.list (bj.map ar),bG (t,ks),aW cb]=aa d/\d=.list ((oY bj ks cb).map ar):=by
  rw[7];refine cA rfl (by simp) ?_
  let A:List L2.Slot:=[s0 (.list (bj.map ar)),s0 (bG (t,ks)),s0 (aW cb)]
  refine dH (λY'=>∃ x4 x5 x6:L2.Slot,Y'=A++[aa (1,.list ((oY bj ks cb).map ar)),x4,x5,x6]) ?_ ?_
  .refine iN (b0:=[]) (λam kn=>am++cb.filterMap λr=>cO ks r kn) (λi am Y'=>∃ x4 x5 x6:L2.Slot,am.length<=i*cb.length/\Y'=A++[aa (1,.list (am.map ar)),x4,x5,x6]) (c9 (fA rfl)) ⟨ae,ae,ae,eA _,rfl⟩ ?_ ?_
   .rintro i kn am _ hx ⟨x4,x5,x6,ha,rfl⟩;have hi:=(cR.1 hx).1;have ky:=hn kn (fC hx);have sr:(i+1)*cb.length<=90000:=cM (Nat.mul_le_mul_right _ hi) hm;have hs:(i+1)*cb.length=i*cb.length+cb.length:=Nat.succ_mul _ _;refine⟨A++[aa (1,.list (am.map ar)),s0 (ar kn),x5,x6],rfl,?_⟩;refine iN (λam r=>am++(cO ks r kn).toList) (λj cg Y'=>∃ x5 x6:L2.Slot,cg.length<=am.length+j/\Y'=A++[aa (1,.list (cg.map ar)),s0 (ar kn),x5,x6]) (c9 (fA rfl)) ⟨x5,x6,bJ _,rfl⟩ ?_ ?_
    .rintro j r cg _ hr ⟨x5,x6,on,rfl⟩;have hj:=(cR.1 hr).1;refine⟨A++[aa (1,.list (cg.map ar)),s0 (ar kn),s0 (bL r),x6],rfl,?_⟩;have hf:=AI (.str t) ks r kn hk ky;refine cA (aY rfl hf) (by simp[A]) ?_
     cases z3:cO ks r kn with
     |none=>exact fP (cL (aN rfl rfl rfl)) (gH ⟨_,.inl rfl,_,_,by simpa using(by lia:cg.length<=am.length+(j+1)),by rw[Option.toList_none,jJ];rfl⟩)
     |some aw=>
      refine dZ (cL (aN rfl rfl rfl)) (qA rfl rfl (by simp;lia) ⟨_,.inl rfl,_,_,by simp;lia,by rw[Option.toList_some,iK];rfl⟩)
    .rintro _ ⟨x5,x6,on,rfl⟩;refine⟨_,.inl rfl,_,_,_,?_,by rw[HQ]⟩
     rw[HQ] at on
     lia
   .rintro _ ⟨x4,x5,x6,ha,rfl⟩;rw[TK];exact⟨_,rfl,_,_,_,rfl⟩
  rintro _ ⟨x4,x5,x6,rfl⟩;exact wU rfl ⟨_,rfl,rfl⟩
 rw[2]
def nG (B:aE->List (List Int)):List Ln->Nat
 |[]=>1
 |l::r=>max 1 (B l.1).length*nG B r
theorem SV (B:aE->List (List Int)):∀ (ls:List Ln) (a:Int),ls.foldl (λa l=>a*((max 1 (B l.1).length:Nat):Int)) a=a*(nG B ls:Int)
 |[],a=>by simp[nG]
 |l::r,a=>by
  rw[pI,SV B r];show _=a*((max 1 (B l.1).length*nG B r:Nat):Int);rw[MK,Int.mul_assoc]
theorem pU (ds:List aA):bR [.list ds]=aa (.int ds.length):=by simp[bR]
theorem Pk {B:aE->List (List Int)}(hB:∀ t,(B t).length<64)(ls:List Ln):BD [.list (ls.map λl=>aW (B l.1))]=aa (.int (nG B ls)):=by
 have:∃ d,BD [.list (ls.map λl=>aW (B l.1))]=aa d/\d=.int (nG B ls):=by
  rw[7];refine cA rfl (by simp) ?_
  refine dH (λY'=>∃ x3:L2.Slot,Y'=[s0 (.list (ls.map λl=>aW (B l.1))),s0 (.int (nG B ls)),x3]) ?_ ?_
  .refine iN (λa l=>a*((max 1 (B l.1).length:Nat):Int)) (λi a Y'=>∃ x3:L2.Slot,Y'=[s0 (.list (ls.map λl=>aW (B l.1))),s0 (.int a),x3]) (c9 (fA rfl)) ⟨ae,rfl⟩ ?_ ?_
   .rintro i l a _ hx ⟨x3,rfl⟩;refine⟨[s0 (.list (ls.map λl=>aW (B l.1))),s0 (.int a),s0 (aW (B l.1))],rfl,?_⟩
    have kw:=hB l.1;generalize hr:B l.1=R at kw ⊢;have em:tT [.int 1,.int (R.map bL).length]=aa (.int ((max 1 R.length:Nat):Int)):=by
     show aa (bF (if ((R.map bL).length:Int) > 1 then((R.map bL).length:Int) else 1))=_
     rw[cD]
     congr 2
     split<;>lia
    have hf:(((max 1 R.length:Nat):Int)).natAbs<2^64:=()
    exact qB (aN rfl (aY (aZ rfl (aZ (aY rfl (pU _)) rfl)) em) (mul_r hf)) (by simp) ⟨_,.inl rfl,_,rfl⟩
   .rintro _ ⟨x3,rfl⟩;rw[SV,Int.one_mul];exact⟨_,rfl,x3,rfl⟩
  rintro _ ⟨x3,rfl⟩;exact cW rfl ⟨_,rfl,rfl⟩
 rw[2]
theorem Li{B:aE->List (List Int)}(b:Bk kds B wd)(ls:List Ln)(hl:ls.length<=1000){Y:List (Option aA)}(e1:Y[0]?.join=aa (.dict kds))(e2:Y[1]?.join=aa (.tuple (ls.map bG))) :
  bw [ae,aa 0] (ax (aB 1)) (gB 0) cI (aM qC (aD (aB 1) (aD (aB 0) aH))) Y=aa (.list (ls.map λl=>aW (B l.1))):=by
 have e:=ZG (cap:=[ae,aa 0]) (fi:=ax (aB 1)) (T:=gB 0) (t:=cI) (f:=aM qC (aD (aB 1) (aD (aB 0) aH))) (λd=>match d with|.tuple [.str t,_]=>aW (B t)|d=>d) (jC e2) (by rw[cD];lia) (λd m=>by
  obtain⟨l,_,rfl⟩:=cB.1 m;refine⟨[aa (bG l),aa (.dict kds)],?_,rfl,aY rfl (UZ b l.1 _)⟩;show aa ((fK [ae,aa 0] Y).set 0 (aa (bG l)))=_;simp[fK,e1])
 rw[e,dX]
 rfl
theorem Yo{B:aE->List (List Int)}(b:Bk kds B wd)(ls:List Ln)(hl:ls.length<=1000)(hw:nG B ls<=4096):JS [.dict kds,.tuple (ls.map bG)]=aa .none:=by
 have e1:JL [.list (ls.map λl=>aW (B l.1))]=aa .none:=by
  have c:bV .s (ak (ah fy (aM BD (aD (aB 0) aH)) (eC (.int 4096)))) [s0 (.list (ls.map λl=>aW (B l.1)))]=aa ag:=cL (aN (aY rfl (Pk b.few ls)) rfl (by
   show aa (hV (decide ((nG B ls:Int) > 4096)))=_;rw[decide_eq_false ()]))
  show outD (BS [s0 (.list (ls.map λl=>aW (B l.1)))])=_
  unfold BS;rw[pT c]
  rfl
 show outD (BV [s0 (.dict kds),s0 (.tuple (ls.map bG))])=_;have e2:eV 0 .s (aM JL (aD (bw [ae,aa 0] (ax (aB 1)) (gB 0) cI (aM qC (aD (aB 1) (aD (aB 0) aH)))) aH)) [s0 (.dict kds),s0 (.tuple (ls.map bG))]=aa .none:=
  aY (aZ (Li b ls hl rfl rfl) rfl) e1
 unfold BV pV;rw[e2]
 rfl
theorem Ue (bj:List Kn)(ks:List aG)(cb:List (List Int)):(oY bj ks cb).length<=bj.length*cb.length:=by
 unfold oY;induction bj with
 |nil=>simp
 |cons kn r ih=>
  rw[Dd,pH,fJ,Nat.succ_mul];have:=yL (λr=>cO ks r kn) cb
  lia
theorem FZ{kn aw:Kn}(h:cO ks r kn=aa aw):aw.length<=kn.length+ks.length:=by
 unfold cO at h;obtain⟨h1,h2⟩:=xC h;have:=AW h2;rw[yI] at this
 lia
def rowOf (zs:List aE)(kn:Kn):List Int:=zs.map λz=>(bB kn z).getD 0
theorem Nq{kn:Kn}(hl:zs.length<=1000)(h:∀ z∈zs,∃ v,bB kn z=aa v):sE [.list (zs.map dB),ar kn]=aa (bL (rowOf zs kn)):=by
 have:∃ d,sE [.list (zs.map dB),ar kn]=aa d/\d=bL (rowOf zs kn):=by
  rw[7];have e:=ZG (cap:=[ae,aa 1]) (fi:=ax (aB 0)) (T:=gB 0) (t:=cI) (f:=eY (aB 1) (aB 0) (aB 0)) (Y:=vS [s0 (.list (zs.map dB)),s0 (ar kn)]) (λd=>match d with|.str z=>.int ((bB kn z).getD 0)|d=>d) (fA rfl) (by rw[cD];lia) (λd m=>by
   obtain⟨z,mz,rfl⟩:=cB.1 m;obtain⟨v,hv⟩:=h z mz;refine⟨[aa (.str z),aa (ar kn)],rfl,rfl,?_⟩;have:=pY (fd:=aB 1) (fk:=aB 0) (fx:=aB 0) (Y:=[aa (.str z),aa (ar kn)]) rfl rfl rfl rfl (kj kn);rw[this,oJ];show _=aa (bF ((bB kn z).getD 0));rw[hv]
   rfl)
  rw[dX] at e;have e':zs.map ((λd=>match d with|.str z=>bF ((bB kn z).getD 0)|d=>d)∘dB)=(rowOf zs kn).map bF:=by
   unfold rowOf;rw[dX]
   rfl
  rw[e'] at e;exact cW (aY (aZ e rfl) rfl) ⟨_,rfl,rfl⟩
 rw[2]
def jd (a b:Ln):List aE:=(eK [a]).filter λz=>decide (z∈gM b.2)
theorem Ax5:z∈jd a b↔(.inr z:aG)∈a.2/\(.inr z:aG)∈b.2:=by
 unfold jd;rw[jR,Ahi,decide_eq_true_eq,Ac9];refine and_congr_left λ_=>?_
 constructor
 .rintro⟨l,m,h⟩;rw[cP.1 m] at h;exact Ac9.1 h
 .exact λh=>⟨a,cP.2 rfl,Ac9.2 h⟩
theorem VX(h:fX l):(eK [l]).length<=6:=by
 have h1:=BH (gM l.2) [];have h2:(gM l.2).length<=l.2.length:=yL _ _;have h3:=h.1;have e:eK [l]=(gM l.2).foldl eW []:=by
  unfold eK rG;simp
 rw[e];simp at h1
 lia
theorem Hv(h:fX a):(jd a b).length<=6:=cM (sX _ _) (VX h)
theorem Ow(ha:fX a):HL [bG a,bG b]=aa (.list ((jd a b).map dB)):=by
 have el:=GX (λx m=>by rw[cP.1 m];exact ha) (by simp)
 have:∃ d,HL [bG a,bG b]=aa d/\d=.list ((jd a b).map dB):=by
  rw[7];refine cW ?_ ⟨_,rfl,rfl⟩;refine fZ (λz=>decide (z∈gM b.2)) dB (fA (aY (aZ (mT rfl) rfl) el)) (cM (VX ha) nofun) λz _=>?_
  refine⟨[aa (.str z),aa (bG b)],rfl,?_,λ_=>rfl⟩
  exact cL (aN rfl rfl (QM z b.2))
 rw[2]
theorem ZJ(h6:l.2.length<=6)(hz:∀ z∈zs,(.inr z:aG)∈l.2)(hl:zs.length<=1000)(hr:∃ v,r=l.2.map (tv v)):sF [bG l,tI r,.list (zs.map dB)]=aa (bL (iX l.2 zs r)):=by
 obtain⟨v,rfl⟩:=hr;obtain⟨kn,ef,hk⟩:=zQ l.2 v;have e1:=AI (.str l.1) l.2 (l.2.map (tv v)) [] () (by simp)
 rw[ef] at e1;have e2:=Nq hl λz m=>⟨_,hk z (hz z m)⟩
 have e3:rowOf zs kn=iX l.2 zs (l.2.map (tv v)):=by
  rw[rY hz];exact nV λz m=>by rw[hk z (hz z m)];rfl
 have:∃ d,sF [bG l,tI (l.2.map (tv v)),.list (zs.map dB)]=aa d/\d=bL (iX l.2 zs (l.2.map (tv v))):=by
  rw[7];refine cW (aY (aZ rfl (aZ (aY rfl e1) rfl)) (by rw[<-e3];exact e2)) ⟨_,rfl,rfl⟩
 rw[2]
def oz (r:List Int):List aA×aA:=(r.map bF,.bool af)
theorem UK:∀ (U:List (List Int)),sL (U.map λr=>dJ [bL r,.bool af])=aa (U.map oz)
 |[]=>rfl
 |r::U=>by
  show(if (bY (r.map bF)&&decide (cX (r.map bF)<=6))=af then(sL (U.map λr=>dJ [bL r,.bool af])).bind λps=>aa ((r.map bF,hV af)::ps) else ae)=_
  rw[xG,yW,if_pos (decide_eq_true (cM (BJ r) nofun)),UK U]
  rfl
theorem Vp {a b:List Int}(h:a.map bF=b.map bF):a=b:=by
 have:=congrArg (List.map k3) h
 rwa [uH,uH] at this
theorem Tu (K:List (List Int))(k:List Int):fz ag (bL k) (.dict ((.none,.none)::kY (K.map oz) []))=aa (.bool (K.contains k)):=by
 show(if (bY (k.map bF)&&decide (cX (k.map bF)<=6))=af then aa (hV (ag != (kG (kY (K.map oz) []) (k.map bF)).isSome)) else ae)=_
 have hk:∀ p∈K.map oz,bY p.1=af:=λp m=>by
  obtain⟨r,_,rfl⟩:=cB.1 m;exact xG r
 rw[xG,yW,if_pos (decide_eq_true (cM (BJ k) nofun)),Re hk (xG k)]
 have e:decide (k.map bF∈(K.map oz).map (·.1))=K.contains k:=by
  rw[iP,decide_eq_true_eq,Df,dX,cB];constructor
  .rintro⟨r,m,e⟩;exact Vp e ▸ m
  .exact λm=>⟨k,m,rfl⟩
 rw[e];cases K.contains k<;>rfl
theorem Po(ha:fX a)(hb:fX b){U:List (List Int)}(hR:∀ r∈R,∃ v,r=a.2.map (tv v))(hU:∀ r∈U,∃ v,r=b.2.map (tv v))(lR:R.length<=1000)(lU:U.length<=1000) :
  JQ [bG a,aW R,bG b,aW U]=aa (aW (mQ a.2 b.2 (jd a b) R U)):=by
 have hl:(jd a b).length<=1000:=cM (Hv ha) nofun
 have ka:∀ r∈R,sF [bG a,tI r,.list ((jd a b).map dB)]=aa (bL (iX a.2 (jd a b) r)):=λr m=>ZJ ha.1 (λz mz=>(Ax5.1 mz).1) hl (hR r m)
 have kb:∀ r∈U,sF [bG b,tI r,.list ((jd a b).map dB)]=aa (bL (iX b.2 (jd a b) r)):=λr m=>ZJ hb.1 (λz mz=>(Ax5.1 mz).2) hl (hU r m)
 have ec:=Ow (b:=b) ha;unfold mQ;generalize jd a b=zs at ka kb ec;have:∃ d,JQ [bG a,aW R,bG b,aW U]=aa d/\d=aW (R.filter λr=>(U.map (iX b.2 zs)).contains (iX a.2 zs r)):=by
  rw[7];refine cA (aY rfl ec) (by simp) ?_
  refine cA (d:=.dict ((.none,.none)::kY ((U.map (iX b.2 zs)).map oz) [])) (aY (ds:=[.list ((U.map (iX b.2 zs)).map λr=>dJ [bL r,.bool af])]) (aZ ?_ rfl) ?_) (by simp) ?_
  .have:=fZ (cap:=[ae,aa 2,aa 4]) (fi:=ax (aB 3)) (T:=gB 0) (t:=cI) (f:=dD (aD (aM sF (aD (aB 1) (aD (aB 0) (aD (aB 2) aH)))) (aD (eC (.bool af)) aH)))
    (Y:=vS [s0 (bG a),s0 (aW R),s0 (bG b),s0 (aW U),s0 (.list (zs.map dB)),ae]) (λ_=>af) (λr=>dJ [bL (iX b.2 zs r),.bool af]) (fA rfl) () λr m=>⟨[aa (bL r),aa (bG b),aa (.list (zs.map dB))],rfl,rfl,λ_=>mT (aZ (aY rfl (kb r m)) rfl)⟩
   rw[kR.2 λ_ _=>rfl] at this
   rw[dX];exact this
  .show(sL _).bind _=_;rw[UK]
   rfl
  refine cW ?_ ⟨_,rfl,rfl⟩;refine fZ (λr=>(U.map (iX b.2 zs)).contains (iX a.2 zs r)) bL (fA rfl) () λr m=>⟨[aa (bL r),aa (.dict ((.none,.none)::kY ((U.map (iX b.2 zs)).map oz) [])),aa (bG a),aa (.list (zs.map dB))],rfl,?_,λ_=>rfl⟩
  exact cL (aN (aY rfl (ka r m)) rfl (Tu _ _))
 rw[2]
theorem Kc{body:SF}{d0 d1:aA}{Q:aA->Prop}(h:Goes body (aa (0,d0)::aa (2,d1)::mL (n-2) ae) λo=>∃ d,o=.rt d/\Q d):∃ d,uy n body [d0,d1]=aa d/\Q d:=by
 obtain⟨o,e,d,rfl,q⟩:=h;exact⟨d,by show outD (body _)=_;rw[e];rfl,q⟩
theorem Wj{P:Out->Prop}{j:Int}{jn:Nat}(h:f (vA Y)=aa d)(hf:fO 1 d=af)(hg:tU i Y=aa ds)(hk:g (vS Y)=aa (.int j))(hj:gf ds.length j=aa jn)(k:P (.nx (Y.set i (aa (2,.list (ds.set jn d)))))):Goes (zY i .a f .s g) Y P:=by
 refine⟨_,?_,k⟩;unfold zY;rw[sv h hf,bE,hg,bE];show((g (vS Y)).bind _)=_;rw[hk,bE];show((gf ds.length j).bind _)=_;rw[hj]
 rfl
def cw (t:eI):aA:=.list (t.map aW)
def jo (ls:List Ln)(a b:Nat):List aE:=jd (ls.getD a cu) (ls.getD b cu)
theorem ER (ls:List Ln):Cm (bf ls) (jo ls):=λa b z=>Ax5
theorem BX {t:eI}{k:Nat}(h:k<t.length):aq (cw t) (.int k)=aa (aW (t.getD k [])):=by
 refine AN ?_;rw[gJ,hX h];simp[nW,h]
theorem Ak {t:eI}{k:Nat}(R:List (List Int)):(t.map aW).set k (aW R)=(t.set k R).map aW:=by rw[List.map_set]
theorem OR (R:List (List Int)):fO 1 (aW R)=af:=by
 exact fV.2 λd m=>by
  obtain⟨r,_,rfl⟩:=cB.1 m;exact SO r
theorem Pw(ho:∀ l∈ls,fX l)(hn:ls.length<=50){t:eI}(hl:t.length=ls.length)(hf:lV (bf ls) t)(hs:∀ k,(t.getD k []).length<=1000) :
  JO [ay ls,cw t]=aa (cw (k5 (bf ls) (jo ls) t (dQ ls).1)):=by
 obtain⟨_,s2⟩:=xJ (xK ls);have ok:∀ k,k<ls.length->fX (ls.getD k cu):=λk h=>by
  have:ls.getD k cu=ls[k]:=by simp[nW,h]
  rw[this];exact ho _ (lG h)
 have:∃ d,JO [ay ls,cw t]=aa d/\d=cw (k5 (bf ls) (jo ls) t (dQ ls).1):=by
  refine Kc ?_;refine eZ (Y':=[s0 (ay ls),ae,aa (2,cw t),ae,ae]) rfl ?_;refine dH (λY'=>∃ x3 x4:L2.Slot,Y'=[s0 (ay ls),ae,aa (2,cw (k5 (bf ls) (jo ls) t (dQ ls).1)),x3,x4]) ?_ ?_
  .refine iN (xs:=(dQ ls).1) (q:=eT) (λt q=>ir (bf ls) (jo ls) t q.2 q.1) (λ_ t' Y'=>(lV (bf ls) t'/\t'.length=ls.length/\∀ k,(t'.getD k []).length<=1000)/\∃ x3 x4:L2.Slot,Y'=[s0 (ay ls),ae,aa (2,cw t'),x3,x4]) (c9 (fA ?_)) ⟨⟨hf,hl,hs⟩,ae,ae,rfl⟩ ?_ ?_
   .show((aM rU (aD (aB 0) aH)) (vS [s0 (ay ls),ae,aa (2,cw t),ae,ae])).bind (xu 0)=_;rw[aY rfl (Bp ho hn)]
    rfl
   .rintro i q t' _ hq ⟨⟨g1,g2,g3⟩,x3,x4,rfl⟩;obtain⟨m1,m2⟩:=s2 q (fC hq);have k1:q.1<t'.length:=by rw[g2];exact m1
    have k2:q.2<t'.length:=by rw[g2];exact m2
    refine⟨[s0 (ay ls),ae,aa (2,cw t'),s0 (.int q.1),s0 (.int q.2)],rfl,?_⟩;have ep:=Po (ok _ m2) (ok _ m1) (g1 q.2) (g1 q.1) (g3 _) (g3 _);refine Wj (aY (aZ (aN rfl rfl (pZ m2)) (aZ (aN rfl rfl (BX k2)) (aZ (aN rfl rfl (pZ m1)) (aZ (aN rfl rfl (BX k1)) rfl)))) ep) (OR _) rfl rfl (zN (by rw[cD];exact k2)) ⟨_,.inl rfl,⟨GP g1 k2,(wX _ _ _).trans g2,λk=>cM (GE k2 k).length_le (g3 k)⟩,s0 (.int q.1),s0 (.int q.2),?_⟩
    rw[Ak]
    rfl
   .rintro _ ⟨_,x3,x4,rfl⟩;exact⟨_,rfl,x3,x4,rfl⟩
  rintro _ ⟨x3,x4,rfl⟩;exact wU rfl ⟨_,rfl,rfl⟩
 rw[2]
def du (B:aE->List (List Int))(l:Ln):List (List Int):=p8 ((B l.1).filter λr=>(cO l.2 r []).isSome)
theorem Asm {B:aE->List (List Int)}:r∈du B l↔r∈B l.1/\∃ v,r=l.2.map (tv v):=by
 unfold du;rw[Kk,jR];refine and_congr_right λ_=>?_
 rw[CO];exact To
theorem GQ (B:aE->List (List Int))(l:Ln):(du B l).length<=(B l.1).length:=by
 unfold du;rw[Tz];exact sX _ _
section
variable {B:aE->List (List Int)}
theorem Qa (b:Bk kds B wd)(h6:l.2.length<=6):BG [.dict kds,bG l]=aa (aW (du B l)):=by
 have es:uG [aW ((B l.1).filter λr=>(cO l.2 r []).isSome)]=aa (aW (du B l)):=Bh (b.pos l.1) (λr m=>b.wid l.1 r (jR.1 m).1) (CQ (sX _ _) (b.few l.1))
 have:∃ d,BG [.dict kds,bG l]=aa d/\d=aW (du B l):=by
  have e:=fZ (cap:=[ae,aa 1]) (fi:=ax (aM qC (aD (aB 0) (aD (aB 1) aH)))) (T:=gB 0) (t:=ak (ah gW (aM rS (aD (aB 1) (aD (aB 0) (aD (eC (.dict [])) aH)))) (eC .none))) (f:=aB 0)
   (Y:=vS [s0 (.dict kds),s0 (bG l)]) (λr=>(cO l.2 r []).isSome) bL (fA (aY rfl (UZ b l.1 _))) (by have:=b.few l.1;lia) (λr m=>by
    refine⟨[aa (bL r),aa (bG l)],rfl,?_,λ_=>rfl⟩
    have hf:=AI (.str l.1) l.2 r [] () (by simp)
    refine cL (aN (aY rfl hf) rfl ?_);cases cO l.2 r []<;>rfl)
  refine dC rfl (cW (aY (aZ e rfl) es) ⟨_,rfl,rfl⟩)
 rw[2]
theorem Sm (b:Bk kds B wd)(h6:∀ l∈ls,l.2.length<=6)(hn:ls.length<=50):JM [.dict kds,ay ls]=aa (cw (ls.map (du B))):=by
 have:∃ d,JM [.dict kds,ay ls]=aa d/\d=cw (ls.map (du B)):=by
  have e:=fZ (cap:=[ae,aa 0]) (fi:=ax (aB 1)) (T:=gB 0) (t:=cI) (f:=aM BG (aD (aB 1) (aD (aB 0) aH)))
   (Y:=vS [s0 (.dict kds),s0 (ay ls)]) (λ_=>af) (λl=>aW (du B l)) rfl () λl m=>⟨[aa (bG l),aa (.dict kds)],rfl,rfl,λ_=>aY rfl (Qa b (h6 l m))⟩
  rw[kR.2 λ_ _=>rfl] at e
  refine dC rfl (cW ?_ ⟨_,rfl,rfl⟩);unfold cw;rw[dX];exact e
 rw[2]
theorem AB (ls:List Ln):lV (bf ls) (ls.map (du B)):=λk r m=>by
 rw[nW,gJ] at m;unfold bf;rw[nW];cases h:ls[k]? with
 |none=>rw[h] at m;simp at m
 |some l=>
  rw[h] at m;exact(Asm.1 m).2
end
abbrev LR:=Ln×List (List Int)
def fW:List LR->Nat
 |[]=>1
 |p::r=>max 1 p.2.length*fW r
theorem RV:∀ ps,1<=fW ps
 |[]=>bJ _
 |p::r=>CP (Nat.le_max_left 1 p.2.length) (RV r)
theorem HR:∀ xs ys,fW (xs++ys)=fW xs*fW ys
 |[],ys=>(Nat.one_mul _).symm
 |p::r,ys=>by
  show max 1 p.2.length*fW (r++ys)=max 1 p.2.length*fW r*fW ys;rw[HR r ys,Nat.mul_assoc]
theorem Np (ps:List LR)(i:Nat):fW (ps.take i)<=fW ps:=by
 have e:fW ps=fW (ps.take i)*fW (ps.drop i):=by rw[<-HR,List.take_append_drop]
 rw[e];exact Nat.le_mul_of_pos_right _ (RV _)
def gL (ps:List LR):List Kn:=ps.foldl (λbj p=>oY bj p.1.2 p.2) [[]]
theorem QV (f g:LR->aA):∀ ps:List LR,yH pairD (ps.map f) (ps.map g)=ps.map λp=>pairD (f p) (g p)
 |[]=>rfl
 |p::r=>by
  rw[cY,cY,List.zipWith_cons_cons,QV f g r,cY]
theorem Px (ps:List LR)(hl:ps.length<=16)(h6:∀ p∈ps,p.1.2.length<=6)(hw:fW ps<=4096) :
  GV [.tuple (ps.map λp=>bG p.1),.list (ps.map λp=>aW p.2)]=aa (.list ((gL ps).map ar))/\(gL ps).length<=fW ps/\∀ kn∈gL ps,kn.length<=96:=by
 have:∃ d,GV [.tuple (ps.map λp=>bG p.1),.list (ps.map λp=>aW p.2)]=aa d/\d=.list ((gL ps).map ar)/\(gL ps).length<=fW ps/\∀ kn∈gL ps,kn.length<=96:=by
  rw[7];refine cA (wF rfl) (by simp) ?_
  let A:List L2.Slot:=[s0 (.tuple (ps.map λp=>bG p.1)),s0 (.list (ps.map λp=>aW p.2))]
  refine dH (λY'=>∃ x3 x4:L2.Slot,(gL ps).length<=fW ps/\(∀ kn∈gL ps,kn.length<=96)/\Y'=A++[s0 (.list ((gL ps).map ar)),x3,x4]) ?_ ?_
  .refine iN (xs:=ps) (q:=λp=>pairD (bG p.1) (aW p.2)) (b0:=[[]]) (λbj p=>oY bj p.1.2 p.2) (λi bj Y'=>∃ x3 x4:L2.Slot,bj.length<=fW (ps.take i)/\(∀ kn∈bj,kn.length<=6*i)/\Y'=A++[s0 (.list (bj.map ar)),x3,x4]) (c9 ?_) ⟨ae,ae,bJ _,λkn m=>by rw[cP.1 m];simp,rfl⟩ ?_ ?_
   .rw[<-QV];exact Gm rfl rfl rfl
   .rintro i p bj _ hx ⟨x3,x4,hk,ky,rfl⟩;have hi:=(cR.1 hx).1;have h6':=h6 p (fC hx);have ht:ps.take (i+1)=ps.take i++[p]:=by rw[LX,hx];rfl
    have xm:fW (ps.take (i+1))=fW (ps.take i)*max 1 p.2.length:=by
     rw[ht,HR];show _*(max 1 p.2.length*1)=_;rw[Nat.mul_one]
    have hm:bj.length*p.2.length<=fW (ps.take (i+1)):=by
     rw[xm];exact CP hk (Nat.le_max_right _ _)
    have sr:=Np ps (i+1);refine⟨A++[s0 (.list (bj.map ar)),s0 (bG p.1),s0 (aW p.2)],rfl,?_⟩;refine qB (aY rfl (Qw p.1.1 p.1.2 p.2 bj () (λkn m=>by have:=ky kn m;lia) ())) (by simp[A]) ⟨_,.inl rfl,_,_,cM (Ue _ _ _) hm,λaw m=>?_,rfl⟩
    obtain⟨kn,mk,m⟩:=vL.1 m;obtain⟨r,_,e⟩:=qR.1 m;have:=FZ e;have:=ky kn mk
    lia
   .rintro _ ⟨x3,x4,h1,h2,rfl⟩;rw[pG] at h1;exact⟨_,rfl,_,_,h1,λkn m=>by have:=h2 kn m;lia,rfl⟩
  rintro _ ⟨x3,x4,h1,h2,rfl⟩;exact cW rfl ⟨_,rfl,rfl,h1,h2⟩
 obtain⟨d,e,rfl,h1,h2⟩:=this;exact⟨e,h1,h2⟩
def eJ (kn:Kn):aE->Int:=λz=>(bB kn z).getD 0
def pO (kn:Kn)(v:aE->Int)(ks:List aG):Prop:=∀ z,(.inr z:aG)∈ks->bB kn z=aa (v z)
theorem XU{kn aw:Kn}(h:cO ks r kn=aa aw):r.length=ks.length/\(∀ z u,bB kn z=aa u->bB aw z=aa u)/\∀ p∈ks.zip r,(∀ i,p.1=.inl i->p.2=i)/\∀ z,p.1=.inr z->bB aw z=aa p.2:=by
 unfold cO at h;obtain⟨h1,h2⟩:=xC h;obtain⟨a,b,_⟩:=sG h2;exact⟨h1,a,b⟩
theorem SN{kn aw:Kn}(h:cO ks r kn=aa aw):r=ks.map (tv (eJ aw))/\pO aw (eJ aw) ks:=by
 obtain⟨hl,_,b⟩:=XU h;have key:∀ j (hj:j<ks.length) (hr:j<r.length),(∀ i,ks[j]=.inl i->r[j]=i)/\∀ z,ks[j]=.inr z->bB aw z=aa r[j]:=λj hj hr=>by
  have hz:j<(ks.zip r).length:=by rw[yI];lia
  have:=b (ks.zip r)[j] (lG hz);rw[List.getElem_zip] at this;exact this
 refine⟨MD (by rw[cD];exact hl) λj h1 h2=>?_,λz mz=>?_⟩
 .rw[List.getElem_map];have hj:j<ks.length:=()
  obtain⟨k1,k2⟩:=key j hj h1;cases hk:ks[j] with
  |inl i=>exact k1 i hk
  |inr z=>
   show r[j]=(bB aw z).getD 0;rw[k2 z hk]
   rfl
 .obtain⟨j,hj,e⟩:=sY mz;have:=(key j hj ()).2 z e
  unfold eJ;rw[this]
  rfl
theorem KF {kn aw:Kn}(h:pO kn (eJ kn) ks)(k:∀ z u,bB kn z=aa u->bB aw z=aa u):pO aw (eJ aw) ks/\ks.map (tv (eJ aw))=ks.map (tv (eJ kn)):=by
 have e:∀ z,(.inr z:aG)∈ks->bB aw z=aa (eJ kn z):=λz m=>k z _ (h z m)
 have e2:∀ z,(.inr z:aG)∈ks->eJ aw z=eJ kn z:=λz m=>by
  show(bB aw z).getD 0=_;rw[e z m]
  rfl
 exact⟨λz m=>by rw[e2 z m];exact e z m,GI e2⟩
def DM (ps:List LR)(kn:Kn):Prop:=∀ p∈ps,pO kn (eJ kn) p.1.2/\p.1.2.map (tv (eJ kn))∈p.2
theorem UY:∀ (rest jb:List LR) (bj:List Kn),(∀ kn∈bj,DM jb kn)->∀ kn∈rest.foldl (λbj p=>oY bj p.1.2 p.2) bj,DM (jb++rest) kn
 |[],jb,bj,h=>by rw[jJ];exact h
 |q::rest,jb,bj,h=>by
  have e:jb++q::rest=(jb++[q])++rest:=by simp
  rw[e,pI];refine UY rest (jb++[q]) _ λkn m=>?_
  obtain⟨k0,mk,m⟩:=vL.1 m;obtain⟨r,mr,ef⟩:=qR.1 m;intro p mp;rcases eM.1 mp with mp|mp
  .obtain⟨a,b⟩:=h k0 mk p mp;obtain⟨c,d⟩:=KF a (XU ef).2.1;exact⟨c,d ▸ b⟩
  .rw[cP.1 mp];obtain⟨a,b⟩:=SN ef;exact⟨b,a ▸ mr⟩
theorem Nx (ps:List LR):∀ kn∈gL ps,DM ps kn:=by
 have:=UY ps [] [[]] λkn _ p m=>by simp at m
 rwa [List.nil_append] at this
def rZ (kn:Kn)(v:aE->Int):Prop:=∀ z u,bB kn z=aa u->u=v z
theorem Vz{kn:Kn}(h:rZ kn v):∃ aw,cO ks (ks.map (tv v)) kn=aa aw/\rZ aw v:=by
 obtain⟨aw,e⟩:=xE (ps:=ks.zip (ks.map (tv v))) (λp m i q=>by rw[(qH m).2,q];rfl) (λp m z u q e=>by rw[(qH m).2,q,h z u e];rfl) (λp m p' m' z q q'=>by rw[(qH m).2,(qH m').2,q,q'])
 refine⟨aw,?_,λz u eu=>?_⟩
 .unfold cO;rw[if_pos (by rw[cD])]
  exact e
 .obtain⟨_,b,c⟩:=sG e;rcases c z u eu with c|⟨p,mp,q⟩
  .exact h z u c
  .have e1:=(b p mp).2 z q;rw[eu] at e1;rw[fH e1,(qH mp).2,q]
   rfl
theorem WJ:∀ (rest:List LR) (bj:List Kn),(∃ kn∈bj,rZ kn v)->(∀ p∈rest,p.1.2.map (tv v)∈p.2)->∃ kn∈rest.foldl (λbj p=>oY bj p.1.2 p.2) bj,rZ kn v
 |[],bj,h,_=>h
 |q::rest,bj,⟨k0,m0,h0⟩,h=>by
  rw[pI];refine WJ rest _ ?_ λp m=>h p (bM _ m)
  obtain⟨k1,e1,h1⟩:=Vz h0;exact⟨k1,vL.2 ⟨k0,m0,qR.2 ⟨_,h q bO,e1⟩⟩,h1⟩
theorem Tc {kn:Kn}(h:pO kn v ks){k:aG}(mk:k∈ks):eY (aB 1) (aB 0) (aB 0) [aa (kD k),aa (ar kn)]=aa (.int (tv v k)):=by
 cases k with
 |inl i=>
  rw[pY rfl rfl rfl rfl (kj kn),HA]
  rfl
 |inr z=>
  rw[pY rfl rfl rfl rfl (kj kn),oJ,h z mk]
  rfl
def gV (ls:List Ln)(t:eI):List LR:=(dQ ls).2.map λk=>(ls.getD k cu,t.getD k [])
theorem AC{k:Nat}(h:k∈(dQ ls).2):k<ls.length:=(xJ (xK ls)).1 k h
theorem SE (ls:List Ln):(dQ ls).2.length<=ls.length:=by
 have:=(PM (ls:=ls) (n:=ls.length) (L:=cQ ls.length)).2;rw[yK] at this;exact this
theorem As(ho:∀ l∈ls,fX l)(hn:ls.length<=50){Y:List (Option aA)}(h:Y[0]?.join=aa (ay ls)):tO 1 (aM rU (aD (aB 0) aH)) Y=aa (lN (dQ ls).2):=by
 unfold tO;rw[aY (aZ h rfl) (Bp ho hn)]
 rfl
theorem Ba(hm:1<=m):∀ {ps:List LR},(∀ p∈ps,p.2.length<=m)->fW ps<=m^ps.length
 |[],_=>bJ _
 |p::ps,h=>by
  rw[fJ,Nat.pow_succ,Nat.mul_comm];exact CP (Nat.max_le.2 ⟨hm,h p bO⟩) (Ba hm λq mq=>h q (bM _ mq))
theorem QQ {B:aE->List (List Int)}(hm:1<=m)(h:∀ t,(B t).length<=m):∀ ls:List Ln,nG B ls<=m^ls.length
 |[]=>bJ _
 |l::ls=>by
  rw[fJ,Nat.pow_succ,Nat.mul_comm];exact CP (Nat.max_le.2 ⟨hm,h l.1⟩) (QQ hm h ls)
structure Lok (ls:List Ln):Prop where
 ok:∀ l∈ls,fX l
 w1:∀ l∈ls,1<=l.2.length
 n4:ls.length<=5
theorem Lok.atR(h:Lok ls){k:Nat}(hk:k<ls.length):fX (ls.getD k cu)/\1<=(ls.getD k cu).2.length:=by
 have e:ls.getD k cu=ls[k]:=by simp[nW,hk]
 rw[e];exact⟨h.ok _ (lG hk),h.w1 _ (lG hk)⟩
theorem Rz(L:Lok ls){t:eI}(hl:t.length=ls.length)(m1:1<=m)(hm:m^ls.length<=4096)(hs:∀ k,(t.getD k []).length<=m) :
  BP [ay ls,cw t]=aa (.list ((gL (gV ls t)).map ar))/\(gL (gV ls t)).length<=4096:=by
 have hr:=SE ls;have n4:=L.n4;have hw:fW (gV ls t)<=4096:=cM (Ba m1 λp m=>by
  obtain⟨k,_,rfl⟩:=cB.1 m;exact hs k) (cM (LQ m1 (by unfold gV;rw[cD];lia)) hm)
 obtain⟨e,h1,_⟩:=Px (gV ls t) (by unfold gV;rw[cD];lia) (λp m=>by
  obtain⟨k,mk,rfl⟩:=cB.1 m;exact(L.atR (AC mk)).1.1) hw
 refine⟨?_,()⟩
 have:∃ d,BP [ay ls,cw t]=aa d/\d=.list ((gL (gV ls t)).map ar):=by
  rw[7];refine cA (As L.ok () rfl) (by simp) ?_
  have e1:=fZ (cap:=[ae,aa 0]) (fi:=ax (aB 2)) (T:=gB 0) (t:=cI) (f:=ah aq (aB 1) (aB 0)) (Y:=vS [s0 (ay ls),s0 (cw t),s0 (lN (dQ ls).2)]) (λ_=>af) (λk=>bG (ls.getD k cu)) (fA rfl) () λk mk=>⟨[aa (.int k),aa (ay ls)],rfl,rfl,λ_=>aN rfl rfl (pZ (AC mk))⟩
  have e2:=fZ (cap:=[ae,aa 1]) (fi:=ax (aB 2)) (T:=gB 0) (t:=cI) (f:=ah aq (aB 1) (aB 0)) (Y:=vS [s0 (ay ls),s0 (cw t),s0 (lN (dQ ls).2)]) (λ_=>af) (λk=>aW (t.getD k [])) (fA rfl) () λk mk=>⟨[aa (.int k),aa (cw t)],rfl,rfl,λ_=>aN rfl rfl (BX (by rw[hl];exact AC mk))⟩
  rw[kR.2 λ_ _=>rfl] at e1 e2
  have q1:((gV ls t).map λp=>bG p.1)=(dQ ls).2.map λk=>bG (ls.getD k cu):=by unfold gV;rw[dX];rfl
  have q2:((gV ls t).map λp=>aW p.2)=(dQ ls).2.map λk=>aW (t.getD k []):=by unfold gV;rw[dX];rfl
  rw[q1,q2] at e;exact cW (aY (aZ (aY (aZ e1 rfl) rfl) (aZ e2 rfl)) e) ⟨_,rfl,rfl⟩
 rw[2]
def rJ (ls:List Ln):List Nat:=if 1<(dQ ls).2.length then(dQ ls).2 else []
theorem Ti(L:Lok ls):wR [ay ls]=aa (lN (rJ ls)):=by
 have n4:=L.n4;have:∃ d,wR [ay ls]=aa d/\d=lN (rJ ls):=by
  rw[7];refine cA (As L.ok () rfl) (by simp) ?_
  have c:bV .a (ak (ah fy (aM bR (aD (aB 1) aH)) (eC (.int 1)))) [s0 (ay ls),aa (1,lN (dQ ls).2)]=aa (decide (1<(dQ ls).2.length)):=cL (aN (aY rfl (FB _)) rfl (by
   show aa (hV (decide (((dQ ls).2.length:Int) > 1)))=_
   congr 2
   rw[iP,decide_eq_true_eq,decide_eq_true_eq]
   lia))
  unfold rJ;by_cases h:1<(dQ ls).2.length
  .rw[if_pos h];rw[decide_eq_true h] at c;refine⟨.rt (lN (dQ ls).2),?_,_,rfl,rfl⟩;show(bV .a _ [s0 (ay ls),aa (1,lN (dQ ls).2)]).bind _=_;rw[c]
   rfl
  .rw[if_neg h];rw[decide_eq_false h] at c;refine⟨.rt (lN []),?_,_,rfl,rfl⟩;show(bV .a _ [s0 (ay ls),aa (1,lN (dQ ls).2)]).bind _=_;rw[c]
   rfl
 rw[2]
section
variable {B:aE->List (List Int)}
theorem Sq (b:Bk kds B wd)(L:Lok ls)(m1:1<=m)(hm:m^ls.length<=4096)(h6:∀ t,(B t).length<=m):YJ [.dict kds,ay ls]=aa .none:=by
 have n4:=L.n4;have hr:=SE ls;have ur:(rJ ls).length<=ls.length/\∀ k∈rJ ls,k<ls.length:=by
  unfold rJ;split
  .exact⟨(),λk m=>AC m⟩
  .exact⟨by simp,λk m=>by simp at m⟩
 have e1:=fZ (cap:=[ae,aa 1]) (fi:=ax (aM wR (aD (aB 1) aH))) (T:=gB 0) (t:=cI) (f:=ah aq (aB 1) (aB 0)) (Y:=vS [s0 (.dict kds),s0 (ay ls)]) (λ_=>af) (λk=>bG (ls.getD k cu)) (fA (aY rfl (Ti L))) () λk mk=>⟨[aa (.int k),aa (ay ls)],rfl,rfl,λ_=>aN rfl rfl (pZ (ur.2 k mk))⟩
 rw[kR.2 λ_ _=>rfl] at e1
 have e2:=Yo b ((rJ ls).map λk=>ls.getD k cu) (by rw[cD];lia) (cM (QQ m1 h6 _) (cM (LQ m1 (by rw[cD];exact ur.1)) hm))
 rw[dX] at e2;show outD (BU [s0 (.dict kds),s0 (ay ls)])=_;have e3:eV 0 .s (aM JS (aD (aB 0) (aD (aM gG (aD (bw [ae,aa 1] (ax (aM wR (aD (aB 1) aH))) (gB 0) cI (ah aq (aB 1) (aB 0))) aH)) aH))) [s0 (.dict kds),s0 (ay ls)]=aa .none:=
  aY (aZ rfl (aZ (aY (aZ e1 rfl) rfl) rfl)) e2
 unfold BU pV;rw[e3]
 rfl
end
def zH (B:aE->List (List Int))(ls:List Ln)(v:aE->Int):Prop:=∀ l∈ls,l.2.map (tv v)∈B l.1
abbrev uD:=List aG×List Ln
def iB (a:uD):aA:=.tuple [tK a.1,ay a.2]
def oC (kn:Kn):aG->aG
 |.inl i=>.inl i
 |.inr z=>match bB kn z with
  |some u=>.inl u
  |none=>.inr z
def gX (kn:Kn)(l:Ln):Ln:=(l.1,l.2.map (oC kn))
theorem OO(L:Lok ls)(kn:Kn):Lok (ls.map (gX kn)):=by
 refine⟨λl m=>?_,λl m=>?_,by rw[cD];exact L.n4⟩<;>obtain⟨l,ml,rfl⟩:=cB.1 m
 .refine⟨by unfold gX;rw[cD];exact(L.ok l ml).1,λk mk=>?_⟩
  obtain⟨k,m2,rfl⟩:=cB.1 mk;have:=(L.ok l ml).2 k m2;cases k with
  |inl i=>exact this
  |inr z=>
   unfold oC;dsimp only;cases bB kn z with
   |none=>exact this
   |some u=>rfl
 .unfold gX;rw[cD];exact L.w1 l ml
theorem Wg (h:List aG)(row:List Int)(hl:h.length<=6):GT [tK h,tI row]=aa (qP (cO h row [])):=by
 have:∃ d,GT [tK h,tI row]=aa d/\d=qP (cO h row []):=by
  rw[7];exact cW (aY rfl (AI (.str "head") h row [] () (by simp))) ⟨_,rfl,rfl⟩
 rw[2]
theorem Rr{kn:Kn}(hl:ks.length<=6):sE [tK ks,ar kn]=aa (tK (ks.map (oC kn))):=by
 have:∃ d,sE [tK ks,ar kn]=aa d/\d=tK (ks.map (oC kn)):=by
  rw[7];have e:=fZ (cap:=[ae,aa 1]) (fi:=ax (aB 0)) (T:=gB 0) (t:=cI) (f:=eY (aB 1) (aB 0) (aB 0)) (Y:=vS [s0 (tK ks),s0 (ar kn)]) (λ_=>af) (λk=>kD (oC kn k)) (jC rfl) () λk mk=>⟨[aa (kD k),aa (ar kn)],rfl,rfl,λ_=>by
   cases k with
   |inl i=>
    rw[pY rfl rfl rfl rfl (kj kn),HA]
    rfl
   |inr z=>
    rw[pY rfl rfl rfl rfl (kj kn),oJ];unfold oC;dsimp only;cases bB kn z<;>rfl⟩
  rw[kR.2 λ_ _=>rfl] at e
  refine cW (aY (aZ e rfl) ?_) ⟨_,rfl,rfl⟩;show aa (dJ _)=aa (dJ ((ks.map (oC kn)).map kD));rw[dX]
  rfl
 rw[2]
theorem Ru(L:Lok ls)(kn:Kn):JN [ay ls,ar kn]=aa (ay (ls.map (gX kn))):=by
 have n4:=L.n4;have:∃ d,JN [ay ls,ar kn]=aa d/\d=ay (ls.map (gX kn)):=by
  rw[7];have e:=fZ (cap:=[ae,aa 1]) (fi:=ax (aB 0)) (T:=gB 0) (t:=cI) (f:=dD (aD (ah aq (aB 0) (eC (.int 0))) (aD (aM sE (aD (ah aq (aB 0) (eC (.int 1))) (aD (aB 1) aH))) aH))) (Y:=vS [s0 (ay ls),s0 (ar kn)]) (λ_=>af) (λl=>bG (gX kn l)) (jC rfl) () λl ml=>⟨[aa (bG l),aa (ar kn)],rfl,rfl,λ_=>mT (aZ (aN rfl rfl rfl) (aZ (aY (aZ (aN rfl rfl rfl) rfl) (Rr (L.ok l ml).1)) rfl))⟩
  rw[kR.2 λ_ _=>rfl] at e
  refine cW (aY (aZ e rfl) ?_) ⟨_,rfl,rfl⟩;show aa (dJ _)=aa (dJ ((ls.map (gX kn)).map bG));rw[dX]
  rfl
 rw[2]
theorem Tj{P:Out->Prop}(h:f (vS Y)=aa d)(k:P (.nx Y)):Goes (pV .s f) Y P:=⟨_,by
 unfold pV eV;simp only[h,bE],k⟩
theorem PY{P:Out->Prop}(h:f (vS Y)=aa d)(ho:xw d=af)(k:P (.rt d)):Goes (vX .s f) Y P:=⟨_,by
 unfold vX eV;simp only[h,bE,ho,if_true],k⟩
theorem zK {G:SF}{P:Out->Prop}(h:Goes F Y λo=>∃ d,o=.rt d/\P (.rt d)):Goes (aO F G) Y P:=by
 obtain⟨o,e,d,rfl,p⟩:=h;exact AO e p
theorem CA {G:SF}{P:Out->Prop}{m:Md}{t:BF}(h:bV m t Y=aa ag)(k:Goes G Y P):Goes (aO (bp m t F cK) G) Y P:=eZ (pT h) k
theorem RI {α:Type}{ls:Nat->List aG}{cm:Nat->Nat->List aE}(a b:α->Nat):∀ (xs:List α) (t:eI),(∀ x∈xs,a x<t.length)->∀ i,((xs.foldl (λt x=>ir ls cm t (a x) (b x)) t).getD i []).Sublist (t.getD i [])
 |[],t,_,i=>MI _
 |x::xs,t,h,i=>by
  rw[pI];exact(RI a b xs _ (λy m=>by rw[wX];exact h y (bM _ m)) i).trans (GE (h x bO) i)
def f7 (B:aE->List (List Int))(ls:List Ln):eI:=k5 (bf ls) (jo ls) (ls.map (du B)) (dQ ls).1
def tJ (B:aE->List (List Int))(ls:List Ln):aA:=if gL (gV ls (f7 B ls))=[] then .tuple [.str "rows",cw (f7 B ls)] else .none
def lM (B:aE->List (List Int))(a:uD)(row:List Int):aA:=match cO a.1 row [] with
 |none=>.tuple [.str "head"]
 |some kn=>tJ B (a.2.map (gX kn))
section
variable {B:aE->List (List Int)}
theorem Bo(h:∀ t,(B t).length<=m)(k:Nat):((ls.map (du B)).getD k []).length<=m:=by
 rw[nW,gJ];cases ls[k]? with
 |none=>exact eA _
 |some l=>exact cM (GQ B l) (h l.1)
theorem ZC:lV (bf ls) (f7 B ls)/\(f7 B ls).length=ls.length/\∀ k,((f7 B ls).getD k []).Sublist ((ls.map (du B)).getD k []):=by
 have s2:=(xJ (xK ls)).2;have b2:∀ q∈(dQ ls).1,q.2<(ls.map (du B)).length:=λq m=>by rw[cD];exact(s2 q m).2
 obtain⟨_,f1,l1⟩:=FA (ER ls) (AB (B:=B) ls) b2;exact⟨f1,by rw[f7,l1,cD],λi=>RI (λq:Nat×Nat=>q.2) (λq=>q.1) (dQ ls).1 _ b2 i⟩
theorem Xm (b:Bk kds B wd)(m1:1<=m)(h6:∀ t,(B t).length<=m){a:uD}(ha:a.1.length<=6)(L:Lok a.2)(hm:m^a.2.length<=4096)(row:List Int):FN [.dict kds,iB a,tI row]=aa (lM B a row):=by
 have n5:=L.n4;have mm:m<=4096\/a.2=[]:=by
  cases e:a.2 with
  |nil=>exact .inr rfl
  |cons l ls=>
   left;rw[e,fJ] at hm;exact cM (Nat.le_self_pow () m) hm
 have:∃ d,FN [.dict kds,iB a,tI row]=aa d/\d=lM B a row:=by
  rw[7];refine cA (aY (aZ (aN rfl rfl rfl) rfl) (Wg a.1 row ha)) (by simp) ?_
  unfold lM;cases hf:cO a.1 row [] with
  |none=>exact zK (dZ rfl (PY rfl rfl ⟨_,rfl,_,rfl,rfl⟩))
  |some kn=>
   refine CA rfl ?_;show Goes _ _ λo=>∃ d,o=.rt d/\d=tJ B (a.2.map (gX kn))
   have L':=OO L kn;have n':(a.2.map (gX kn)).length=a.2.length:=cD _;refine cA (aY (aZ (aN rfl rfl rfl) rfl) (Ru L kn)) (by simp) ?_
   generalize a.2.map (gX kn)=ls at L' n';rw[<-n'] at hm;refine dH (λY'=>Y'=[s0 (.dict kds),s0 (iB a),s0 (tI row),s0 (ar kn),s0 (ay ls),ae]) (Tj (aY rfl (Sq b L' m1 hm h6)) ⟨_,rfl,rfl⟩) ?_
   rintro _ rfl;have mk:∀ k,((ls.map (du B)).getD k []).length<=1000:=λk=>by
    rw[nW,gJ];cases ls[k]? with
    |none=>exact eA _
    |some l=>exact cM (GQ B l) (nQ (iV (b.few l.1) nofun))
   refine cA (aY (aZ rfl (aZ (aY rfl (Sm b (λl ml=>(L'.ok l ml).1) ())) rfl)) (Pw L'.ok () (cD _) (AB ls) mk)) (by simp) ?_
   obtain⟨f1,l1,v1⟩:=ZC (B:=B) (ls:=ls);obtain⟨ew,_⟩:=Rz L' l1 m1 hm λk=>cM (v1 k).length_le (Bo h6 k)
   unfold tJ;show Goes _ [s0 (.dict kds),s0 (iB a),s0 (tI row),s0 (ar kn),s0 (ay ls),aa (2,cw (f7 B ls))] _;have c:bV .a (ak (ah fy (aM bR (aD (aM BP (aD (aB 4) (aD (aB 5) aH))) aH)) (eC (.int 0)))) [s0 (.dict kds),s0 (iB a),s0 (tI row),s0 (ar kn),s0 (ay ls),aa (2,cw (f7 B ls))]=aa (decide (gL (gV ls (f7 B ls))≠[])):=cL (aN (aY (aZ (aY rfl ew) rfl) (pU _)) rfl (by
    show aa (hV (decide ((((gL (gV ls (f7 B ls))).map ar).length:Int) > 0)))=_;rw[cD]
    congr 2
    rw[iP,decide_eq_true_eq,decide_eq_true_eq,ne_eq,<-yM]
    lia))
   by_cases hw:gL (gV ls (f7 B ls))=[]
   .rw[if_pos hw];rw[decide_eq_false (λz=>z hw)] at c
    exact CA c ⟨_,rfl,_,rfl,rfl⟩
   .rw[if_neg hw];rw[decide_eq_true hw] at c;exact zK (dZ c (PY rfl rfl ⟨_,rfl,_,rfl,rfl⟩))
 rw[2]
end
abbrev fS (ks:List aG)(row:List Int)(kn:Kn)(x y:L2.Slot):aP:=[s0 (tK ks),s0 (tI row),aa (1,.dict (DN kn)),x,y]
theorem Yr (ks:List aG)(row:List Int)(kn:Kn)(hl:kn.length<=1000)(p:aG×Int):Goes (bp .s (ak (dz (fD "str") (aB 3))) (tP 2 .s (aB 3) .s (aB 4) .s (aB 4) (bT 1 .s (eC .none))) (bp .s (ak (ah cn (aB 3) (aB 4))) (bT 1 .s (eC .none)) cK))
  (fS ks row kn (s0 (kD p.1)) (s0 (.int p.2))) (pQ (λaw Y'=>∃ x y:L2.Slot,Y'=fS ks row aw x y) .none (eE kn p)):=by
 have lz:(DN kn).length<sizeLine:=oK (by simp[DN];lia)
 obtain⟨k,v⟩:=p;cases k with
 |inl i=>
  refine fP (cL (tW rfl (uO (.inl i)))) ?_;have c:bV .s (ak (ah cn (aB 3) (aB 4))) (fS ks row kn (s0 (.int i)) (s0 (.int v)))=aa (decide (i≠v)):=cL (aN rfl rfl (ne_int i v));show Goes _ _ (pQ _ _ (if v=i then aa kn else ae))
  by_cases h:v=i
  .rw[if_pos h];rw[show decide (i≠v)=ag by simp[h]] at c
   exact fP c (gH ⟨_,.inl rfl,_,_,rfl⟩)
  .rw[if_neg h];rw[show decide (i≠v)=af by simpa using λq=>h q.symm] at c
   exact dZ c (cW rfl rfl)
 |inr z=>
  refine dZ (cL (tW rfl (uO (.inr z)))) ?_;have e1:tP 2 .s (aB 3) .s (aB 4) .s (aB 4) (bT 1 .s (eC .none)) (fS ks row kn (s0 (.str z)) (s0 (.int v)))=if (DN kn).length<sizeLine then match bQ (DN kn) (.inr z) with
    |some (.int u)=>vP .s (aB 4) (bT 1 .s (eC .none)) u (fS ks row kn (s0 (.str z)) (s0 (.int v)))
    |some _=>ae
    |none=>vP .s (aB 4) (bT 1 .s (eC .none)) v ((fS ks row kn (s0 (.str z)) (s0 (.int v))).set 2 (aa (1,.dict (putD (DN kn) (.inr z) (.int v))))) else ae:=rfl
  rw[if_pos lz,oJ] at e1;show Goes _ _ (pQ _ _ (match bB kn z with|some u=>if v=u then aa kn else ae|none=>aa (kn++[(z,v)])))
  cases hl:bB kn z with
  |some u=>
   rw[hl] at e1;have e1:tP 2 .s (aB 3) .s (aB 4) .s (aB 4) (bT 1 .s (eC .none)) (fS ks row kn (s0 (.str z)) (s0 (.int v)))=if u≠v then aa (.rt .none) else aa (.nx (fS ks row kn (s0 (.str z)) (s0 (.int v)))):=e1
   dsimp only;by_cases h:v=u
   .rw[if_pos h];rw[if_neg (λq=>q h.symm)] at e1
    exact⟨_,e1,_,.inl rfl,_,_,rfl⟩
   .rw[if_neg h];rw[if_pos (λq=>h q.symm)] at e1
    exact⟨_,e1,rfl⟩
  |none=>
   rw[hl] at e1;have e1:=e1;rw[FY hl] at e1;have e1:tP 2 .s (aB 3) .s (aB 4) .s (aB 4) (bT 1 .s (eC .none)) (fS ks row kn (s0 (.str z)) (s0 (.int v)))=if v≠v then aa (.rt .none) else aa (.nx (fS ks row (kn++[(z,v)]) (s0 (.str z)) (s0 (.int v)))):=e1
   rw[if_neg (λq=>q rfl)] at e1
   exact⟨_,e1,_,.inl rfl,_,_,rfl⟩
theorem Th (ks:List aG)(row:List Int)(hk:ks.length<=100):jP [tK ks,tI row]=aa (qP (dR eE [] (ks.zip row))):=by
 have:∃ d,jP [tK ks,tI row]=aa d/\d=qP (dR eE [] (ks.zip row)):=by
  rw[7];refine cA rfl (by simp) ?_
  have lz:(ks.zip row).length<=100:=by rw[yI];lia
  refine GB (λaw Y'=>∃ x y:L2.Slot,Y'=fS ks row aw x y) .none (dR eE [] (ks.zip row)) (GS (q:=KC) eE _ .none (c9 ?_) ⟨ae,ae,rfl⟩ ?_) ?_ ?_
  .show iZ (aD (aB 0) (aD (aB 1) aH)) (vS (fS ks row [] ae ae))=_;unfold iZ;rw[show aD (aB 0) (aD (aB 1) aH) (vS (fS ks row [] ae ae))=aa [tK ks,tI row] from rfl,<-SG]
   rfl
  .rintro pre p post aw _ ff hf ⟨x,y,rfl⟩;have sr:aw.length<=1000:=by
    have h1:=AW hf;have h2:pre.length<=(ks.zip row).length:=by rw[ff];simp
    simp at h1
    lia
   exact⟨fS ks row aw (s0 (kD p.1)) (s0 (.int p.2)),rfl,Yr ks row aw sr p⟩
  .intro hf;exact⟨_,rfl,by rw[hf];rfl⟩
  .rintro aw hf _ ⟨x,y,rfl⟩;exact⟨_,rfl,_,rfl,by rw[hf];rfl⟩
 rw[2]
theorem BA{row:List Int}(hk:ks.length<=100)(h:row.length=ks.length):jP [tK ks,tI row]=aa (qP (cO ks row [])):=by
 rw[Th ks row hk,cO,if_pos h]
def rB (a b:Kn)(z:aE):Bool:=match bB b z with
 |some u=>decide (aa u≠bB a z)
 |none=>ag
def gj (a b:Kn):Bool:=!(a.map (·.1)).any (rB a b)
theorem Ae5 {a:Kn}:z∈a.map (·.1) ↔ ∃ w,bB a z=aa w:=by
 induction a with
 |nil=>simp[bB]
 |cons p r ih=>
  have e:bB (p::r) z=if p.1=z then aa p.2 else bB r z:=by
   unfold bB;rw[gD];by_cases h:p.1=z<;>simp[h]
  rw[e,cY,cV,ih];by_cases h:p.1=z
  .rw[if_pos h];exact⟨λ_=>⟨_,rfl⟩,λ_=>.inl h.symm⟩
  .rw[if_neg h];exact⟨λq=>q.elim (λq=>absurd q.symm h) id,.inr⟩
theorem Ar3 {a b:Kn}:gj a b=af ↔ ∀ z u w,bB a z=aa w->bB b z=aa u->u=w:=by
 unfold gj;rw[Bool.not_eq_true',Dg];constructor
 .intro h z u w ha hb;have:=h z (Ae5.2 ⟨w,ha⟩);unfold rB at this;rw[hb,ha] at this;simpa using this
 .intro h z m;obtain⟨w,ha⟩:=Ae5.1 m;unfold rB;cases hb:bB b z with
  |none=>simp
  |some u=>simp[ha,h z u w ha hb]
theorem NX {kn:Kn}{u:Int}(h:bB kn z=aa u):aq (ar kn) (.str z)=aa (.int u):=by
 show bQ (DN kn) (.inr z)=_;rw[oJ,h]
 rfl
theorem Am {a b:Kn}(la:oX a):qK [ar a,ar b]=aa (.bool (gj a b)):=by
 have:∃ d,qK [ar a,ar b]=aa d/\d=.bool (gj a b):=by
  rw[7];refine GB (λ(_:Unit) Y'=>∃ x:L2.Slot,Y'=[s0 (ar a),s0 (ar b),x]) (.bool ag) (dR (λ(_:Unit) z=>if rB a b z=af then ae else aa Unit.unit) Unit.unit (a.map (·.1))) (GS (q:=dB) _ _ (.bool ag) (c9 (Ll la rfl)) ⟨ae,rfl⟩ ?_) ?_ ?_
  .rintro pre z post _ _ ff _ ⟨x,rfl⟩;refine⟨[s0 (ar a),s0 (ar b),s0 (.str z)],rfl,?_⟩;obtain⟨w,ha⟩:=Ae5.1 (show z∈a.map (·.1) by rw[ff];simp)
   have c:bV .s (ak (ah cn (eY (aB 1) (aB 2) (ah aq (aB 0) (aB 2))) (ah aq (aB 0) (aB 2)))) [s0 (ar a),s0 (ar b),s0 (.str z)]=aa (rB a b z):=by
    refine cL (aN (pY rfl rfl rfl (aN rfl rfl (NX ha)) (kj b)) (aN rfl rfl (NX ha)) ?_);rw[oJ];unfold rB;cases hb:bB b z with
    |none=>
     show cn (.int w) (.int w)=_;rw[ne_int];simp
    |some u=>
     show cn (.int u) (.int w)=_;rw[ne_int,ha];simp
   cases hz:rB a b z with
   |true=>
    rw[hz] at c;exact dZ c (cW rfl rfl)
   |false=>
    rw[hz] at c;exact fP c (gH ⟨_,.inl rfl,_,rfl⟩)
  .intro h;rw[IU] at h;refine⟨_,rfl,?_⟩;unfold gj;split at h
   .rename_i q;rw[q];rfl
   .cases h
  .rintro _ h _ ⟨x,rfl⟩;rw[IU] at h;refine⟨_,rfl,_,rfl,?_⟩;unfold gj;split at h
   .cases h
   .rename_i q;rw[Bool.not_eq_true] at q;rw[q];rfl
 rw[2]
def kK (k:aG):aA×aA:=(kD k,.bool af)
theorem Ad (E:List aG)(k:aG):((E.map kK).any λkd=>decide (bK kd.1=aa k))=decide (k∈E):=by
 induction E with
 |nil=>rfl
 |cons y r ih=>
  rw[cY,qS,ih,show bK (kK y).1=aa y from iF y]
  by_cases h:k=y
  .subst h;simp
  .have h':¬ y=k:=λe=>h e.symm
   simp[h,h']
theorem Sz (E:List aG)(k:aG):putD (E.map kK) k (.bool af)=(eW E k).map kK:=by
 unfold putD eW;rw[Ad];by_cases h:k∈E
 .rw[if_pos (by simpa using h),if_pos h,dX]
  refine nV λy _=>?_
  show(if bK (kK y).1=aa k then((kK y).1,hV af) else kK y)=kK y
  split<;>rfl
 .rw[if_neg (by simpa using h),if_neg h,iK]
  rfl
theorem HD:∀ (ks E:List aG),jB (ks.map λk=>(k,.bool af)) (E.map kK)=(ks.foldl eW E).map kK
 |[],_=>rfl
 |k::ks,E=>by
  show jB (ks.map λk=>(k,.bool af)) (putD (E.map kK) k (.bool af))=_
  rw[Sz];exact HD ks _
theorem OS:∀ ks:List aG,nE (ks.map λk=>dJ [kD k,.bool af])=aa (ks.map λk=>(k,.bool af))
 |[]=>rfl
 |k::ks=>by
  show((bK (kD k)).bind λk=>(nE (ks.map λk=>dJ [kD k,.bool af])).bind λps=>aa ((k,hV af)::ps))=_
  rw[iF,OS ks]
  rfl
theorem QD:∀ ks:List aG,lQ (ks.map kK)=aa (ks.map λk=>(k,.bool af))
 |[]=>rfl
 |k::ks=>by
  show((bK (kD k)).bind λk=>(lQ (ks.map kK)).bind λps=>aa ((k,hV af)::ps))=_
  rw[iF,QD ks]
  rfl
theorem Lj (ks:List aG):rP [.list (ks.map λk=>dJ [kD k,.bool af])]=aa (.dict ((ks.foldl eW []).map kK)):=by
 show((nE (ks.map λk=>dJ [kD k,.bool af])).bind λps=>aa (PyData.dict (jB ps [])))=_
 rw[OS,bE,show([]:List (aA×aA))=([]:List aG).map kK from rfl,HD]
theorem OB (E:List aG):cv (E.map kK)=af:=wQ λkd m=>by
 obtain⟨k,_,rfl⟩:=cB.1 m;cases k<;>exact λq=>nomatch q
theorem uT {α:Type}[DecidableEq α]:∀ (zs am:List α),(zs.foldl eW am).length<=am.length+zs.length
 |[],am=>bJ _
 |z::zs,am=>by
  rw[pI,fJ];refine cM (uT zs _) ?_;unfold eW;split
  .lia
  .rw[pH,List.length_singleton];lia
theorem Lm{P:Out->Prop}{D E:List aG}(h:f (vS Y)=aa (.dict (D.map kK)))(hg:kT i Y=aa (E.map kK))(hl:E.length+D.length<=1000)(k:P (.nx (Y.set i (aa (1,.dict ((D.foldl eW E).map kK)))))):Goes (oW i .s f) Y P:=⟨_,by
 unfold oW;rw[show eV 0 .s f Y=aa (.dict (D.map kK)) from h,bE,hg,bE]
 show((lQ (D.map kK)).bind λps=>if cv (D.map kK)=af/\(E.map kK).length+(D.map kK).length<=sizeLine then aa (Out.nx (Y.set i (aa (1,.dict (jB ps (E.map kK)))))) else ae)=_
 rw[QD,bE,if_pos ⟨OB D,lB (by simp;lia)⟩,HD],k⟩
theorem Uu (E:List aG)(k:aG):(bQ (E.map kK) k).isSome=decide (k∈E):=by
 unfold bQ;rw[LO,<-Ad,iP,List.find?_isSome,vM]
theorem Ff (E:List aG)(k:aG):fz ag (kD k) (.dict (E.map kK))=aa (.bool (decide (k∈E))):=by
 have e:fz ag (kD k) (.dict (E.map kK))=(if cv (E.map kK)=af then(bK (kD k)).bind λk=>aa (.bool (ag != (bQ (E.map kK) k).isSome)) else DZ ag (kD k) (E.map kK)):=by cases k<;>rfl
 rw[e,OB,if_pos rfl,iF,bE,Uu];simp
theorem Uq (a b:aG):bU (kD a) (kD b)=decide (a=b):=by
 cases a with
 |inl i=>
  cases b with
  |inl j=>
   have:bU (.int i) (.int j)=decide (i=j):=by
    simp only[bU]
    rfl
   rw[show bU (kD (.inl i)) (kD (.inl j))=decide (i=j) from this]
   by_cases h:i=j<;>simp[h]
  |inr z=>simp[kD,bU]
 |inr y=>
  cases b with
  |inl j=>simp[kD,bU]
  |inr z=>
   rw[show bU (kD (.inr y)) (kD (.inr z))=decide (y=z) from GL y z]
   by_cases h:y=z<;>simp[h]
theorem Vm (k:aG)(ks:List aG):fz af (kD k) (.tuple (ks.map kD))=aa (.bool (!decide (k∈ks))):=by
 show(if (cS (kD k)&&noDicts (ks.map kD))=af then aa (hV (af != (ks.map kD).any λd=>bU d (kD k))) else ae)=_
 rw[XM,show cS (kD k)=af by cases k<;>rfl,yX,if_pos rfl,List.any_map]
 congr 2
 rw[show(ks.any ((λd=>bU d (kD k))∘kD))=decide (k∈ks) by
  rw[iP,vM];simp[Uq]]
 cases decide (k∈ks)<;>rfl
def pv:aG->Bool
 |.inr _=>af
 |.inl _=>ag
abbrev eS (ls:List Ln)(L:List Nat)(a b c d:L2.Slot):aP:=[s0 (ay ls),s0 (lN L),a,b,c,d]
theorem wZ{k:Nat}(h:k<ls.length){Y:List (Option aA)}{fa fk:EF}(e0:fa Y=aa (ay ls))(e1:fk Y=aa (.int k)):ah aq (ah aq fa fk) (eC (.int 1)) Y=aa (tK (bf ls k)):=
 aN (aN e0 e1 (pZ h)) rfl rfl
theorem Nc(ho:∀ l∈ls,fX l)(hL:∀ o∈L,o<ls.length)(hl:L.length<=50)(k:Nat)(x4 x5:L2.Slot) :
  Goes (cT .s (ax (aB 1)) (dq 4) (bp .s (ak (ah cn (aB 4) (aB 2))) (oW 3 .s (aM rP (aD (bw [ae] (ax (ah aq (ah aq (aB 0) (aB 4)) (eC (.int 1)))) (gB 0) cI (dD (aD (aB 0) (aD (eC (.bool af)) aH)))) aH))) cK))
   (eS ls L (s0 (.int k)) (aa (1,.dict [])) x4 x5) λo=>∃ Y',o=.nx Y'/\∃ (E:List aG) (x4:L2.Slot),Y'=eS ls L (s0 (.int k)) (aa (1,.dict (E.map kK))) x4 x5/\∀ t,t∈E ↔ ∃ o∈L,o≠k/\t∈bf ls o:=by
 refine iN (xs:=L) (q:=λ(c:Nat)=>bF c) (λE j=>if j≠k then((bf ls j).foldl eW []).foldl eW E else E) (λi E Y'=>E.length<=6*i/\(∀ t,t∈E ↔ ∃ o∈L.take i,o≠k/\t∈bf ls o)/\∃ x4:L2.Slot,Y'=eS ls L (s0 (.int k)) (aa (1,.dict (E.map kK))) x4 x5) (b0:=[]) (c9 (fA rfl)) ⟨bJ _,λt=>by simp,x4,rfl⟩ ?_ ?_
 .rintro i j E _ hj ⟨hE,hm,x,rfl⟩;have mj:=fC hj;have hi:=(cR.1 hj).1;have lj:(bf ls j).length<=6:=(ho _ (getD_mem cu (hL j mj))).1;have tk:L.take (i+1)=L.take i++[j]:=by rw[sV,hj];rfl
  refine⟨eS ls L (s0 (.int k)) (aa (1,.dict (E.map kK))) (s0 (.int j)) x5,rfl,?_⟩;have c:bV .s (ak (ah cn (aB 4) (aB 2))) (eS ls L (s0 (.int k)) (aa (1,.dict (E.map kK))) (s0 (.int j)) x5)=aa (decide (j≠k)):=cL (aN rfl rfl (xv j k));by_cases h:j=k
  .rw[show decide (j≠k)=ag by simp[h]] at c
   refine fP c (gH ⟨_,.inl rfl,?_⟩);rw[if_neg (λq=>q h)]
   refine⟨(),λt=>?_,_,rfl⟩
   rw[hm,tk];constructor
   .rintro⟨o,mo,q⟩;exact⟨o,LZ _ mo,q⟩
   .rintro⟨o,mo,q1,q2⟩;rcases eM.1 mo with mo|mo
    .exact⟨o,mo,q1,q2⟩
    .exact absurd (by rw[cP.1 mo];exact h) q1
  .rw[show decide (j≠k)=af by simp[h]] at c
   refine dZ c ?_;have e:=fZ (cap:=[ae]) (fi:=ax (ah aq (ah aq (aB 0) (aB 4)) (eC (.int 1)))) (T:=gB 0) (t:=cI) (f:=dD (aD (aB 0) (aD (eC (.bool af)) aH))) (Y:=vS (eS ls L (s0 (.int k)) (aa (1,.dict (E.map kK))) (s0 (.int j)) x5)) (λ_=>af) (λt=>dJ [kD t,.bool af]) (jC (wZ (hL j mj) rfl rfl)) () λt _=>⟨[aa (kD t)],rfl,rfl,λ_=>rfl⟩
   rw[kR.2 λ_ _=>rfl] at e
   have l0:((bf ls j).foldl eW []).length<=6:=by
    have:=uT (bf ls j) [];simp at this
    lia
   refine Lm (aY (aZ e rfl) (Lj (bf ls j))) rfl () ⟨_,.inl rfl,?_⟩
   rw[if_pos h];refine⟨cM (uT _ _) (),λt=>?_,_,rfl⟩
   rw[BB,BB,hm,tk];constructor
   .rintro(⟨o,mo,q⟩|q)
    .exact⟨o,LZ _ mo,q⟩
    .exact⟨j,mM _ bO,h,q.elim (λz=>by simp at z) id⟩
   .rintro⟨o,mo,q1,q2⟩;rcases eM.1 mo with mo|mo
    .exact .inl ⟨o,mo,q1,q2⟩
    .rw[cP.1 mo] at q2;exact .inr (.inr q2)
 .rintro _ ⟨_,hm,x,rfl⟩;rw[pG] at hm;exact⟨_,rfl,_,x,rfl,hm⟩
theorem Pg{k:Nat}{E:List aG}(hm:∀ t,t∈E ↔ ∃ o∈L,o≠k/\t∈bf ls o) :
  ((((bf ls k).filter λt=>decide (t∈E)&&!decide (t∈bf ls j)).filter pv).length=0)↔qW ls L k j:=by
 rw[yM,List.filter_eq_nil_iff];unfold qW k7;constructor
 .intro h z mz;rw[Ac9] at mz ⊢;by_cases q:(.inr z:aG)∈bf ls j
  .exact .inl q
  .refine .inr λo mo ok z2=>?_
   rw[Ac9] at z2;exact h (.inr z) (jR.2 ⟨mz,by simp[q,(hm (.inr z)).2 ⟨o,mo,ok,z2⟩]⟩) rfl
 .intro h t mt hN;obtain⟨m1,m2⟩:=jR.1 mt;cases t with
  |inl i=>cases hN
  |inr z=>
   simp only[CY,decide_eq_true_eq,Bool.not_eq_true',decide_eq_false_iff_not] at m2;rcases h z (Ac9.2 m1) with q|q
   .exact m2.2 (Ac9.1 q)
   .obtain⟨o,mo,ok,z2⟩:=(hm _).1 m2.1;exact q o mo ok (Ac9.2 z2)
theorem RF {α:Type}(p:α->Bool)(f:α->β):∀ L:List α,(L.findSome? λj=>if p j=af then aa (f j) else ae)=(L.find? p).map f
 |[]=>rfl
 |x::L=>by
  rw[yN,gD];cases h:p x with
  |true=>rfl
  |false=>exact RF p f L
theorem Bq(ho:∀ l∈ls,fX l)(hL:∀ o∈L,o<ls.length)(hl:L.length<=50):xR [ay ls,lN L]=aa (lY (fN ls L)):=by
 have:∃ d,xR [ay ls,lN L]=aa d/\d=lY (fN ls L):=by
  rw[7];have key:(L.findSome? λk=>((L.find? (eX ls L k)).map λj=>eT (k,j)))=(fN ls L).map eT:=by
   unfold fN;rw[List.map_findSome?];refine JP λk _=>?_
   show _=Option.map eT ((L.find? (eX ls L k)).map λj=>(k,j))
   rw[Option.map_map]
   rfl
  refine GH (λY'=>∃ a b c d:L2.Slot,Y'=eS ls L a b c d) (L.findSome? λk=>((L.find? (eX ls L k)).map λj=>eT (k,j))) (AS (λY'=>∃ a b c d:L2.Slot,Y'=eS ls L a b c d) _ (c9 (fA rfl)) ⟨ae,ae,ae,ae,rfl⟩ ?_) ?_ ?_
  .rintro k mk _ ⟨a,b,c,d,rfl⟩;refine⟨eS ls L (s0 (.int k)) b c d,rfl,?_⟩;refine cA rfl (by simp) ?_
   refine dH _ (Nc ho hL hl k c d) ?_;rintro _ ⟨E,x4,rfl,hm⟩;refine kJ ?_;show Goes _ (eS ls L (s0 (.int k)) (s0 (.dict (E.map kK))) x4 d) _;have lk:(bf ls k).length<=6:=(ho _ (getD_mem cu (hL k mk))).1;have fs:=RF (eX ls L k) (λj=>eT (k,j)) L
   rw[<-fs];refine(AS (λY'=>∃ c d:L2.Slot,Y'=eS ls L (s0 (.int k)) (s0 (.dict (E.map kK))) c d) (λj=>if eX ls L k j=af then aa (eT (k,j)) else ae) (c9 (fA rfl)) ⟨x4,d,rfl⟩ ?_).mono ?_
   .rintro j mj _ ⟨c',d',rfl⟩;refine⟨eS ls L (s0 (.int k)) (s0 (.dict (E.map kK))) (s0 (.int j)) d',rfl,?_⟩;have e1:=fZ (cap:=[ae,aa 3,aa 0,aa 4]) (fi:=ax (ah aq (ah aq (aB 0) (aB 2)) (eC (.int 1)))) (T:=gB 0) (t:=fL (ak (ah (fz ag) (aB 0) (aB 1))) (ak (ah (fz af) (aB 0) (ah aq (ah aq (aB 2) (aB 3)) (eC (.int 1)))))) (f:=aB 0)
     (Y:=vS (eS ls L (s0 (.int k)) (s0 (.dict (E.map kK))) (s0 (.int j)) d')) (λt=>decide (t∈E)&&!decide (t∈bf ls j)) kD (jC (wZ (hL k mk) rfl rfl)) () λt _=>⟨[aa (kD t),aa (.dict (E.map kK)),aa (ay ls),aa (.int j)],rfl,sC (cL (aN rfl rfl (Ff E t))) λ_=>cL (aN rfl (wZ (hL j mj) rfl rfl) (Vm t _)),λ_=>rfl⟩
    refine cA e1 (by simp) ?_
    generalize hD:(bf ls k).filter (λt=>decide (t∈E)&&!decide (t∈bf ls j))=D
    have lD:D.length<=6:=by rw[<-hD];exact cM (sX _ _) lk
    refine kJ ?_;show Goes _ (eS ls L (s0 (.int k)) (s0 (.dict (E.map kK))) (s0 (.int j)) (s0 (lK D))) _;have e2:=fZ (cap:=[ae]) (fi:=ax (aB 5)) (T:=gB 0) (t:=ak (dz (fD "str") (aB 0))) (f:=aB 0) (Y:=vS (eS ls L (s0 (.int k)) (s0 (.dict (E.map kK))) (s0 (.int j)) (s0 (lK D)))) pv kD (fA rfl) () λt _=>⟨[aa (kD t)],rfl,cL (tW rfl (by rw[uO];cases t<;>rfl)),λ_=>rfl⟩
    have c1:bV .s (fL (ak (ah cn (aB 4) (aB 2))) (ak (ah ck (aM bR (aD (bw [ae] (ax (aB 5)) (gB 0) (ak (dz (fD "str") (aB 0))) (aB 0)) aH)) (eC (.int 0))))) (eS ls L (s0 (.int k)) (s0 (.dict (E.map kK))) (s0 (.int j)) (s0 (lK D)))=aa (eX ls L k j):=by
     refine(sC (cL (aN rfl rfl (xv j k))) λ_=>cL (aN (aY (aZ e2 rfl) (pU _)) rfl (oy _ 0))).trans ?_
     unfold eX
     congr 2
     rw[cD,<-hD,iP,decide_eq_true_eq,decide_eq_true_eq];exact Pg hm
    cases hb:eX ls L k j with
    |true=>
     rw[hb] at c1;exact dZ c1 (cW rfl rfl)
    |false=>
     rw[hb] at c1;exact fP c1 (gH ⟨_,.inl rfl,_,_,rfl⟩)
   .exact λo ho=>ho.turn λY ⟨c',d',e⟩=>⟨_,_,c',d',e⟩
  .intro r hr;rw[key] at hr;obtain⟨p,e,rfl⟩:=mJ.1 hr;exact⟨_,rfl,by rw[e];rfl⟩
  .rintro hz _ ⟨a,b,c,d,rfl⟩;rw[key] at hz;exact cW rfl ⟨_,rfl,by rw[CN.1 hz];rfl⟩
 rw[2]
section
variable {m:Md}{t:BF}{P:Out->Prop}
theorem Jx (h:bV m t Y=aa af)(k:Goes F Y λo=>∃ Y',o=.nx Y'/\Goes (iu m t F n) Y' P):Goes (iu m t F (n+1)) Y P:=by
 obtain⟨o,e,Y',rfl,o2,e2,p⟩:=k;refine⟨o2,?_,p⟩;show((bV m t Y).bind _)=_;rw[h,bE,if_pos rfl,e];exact e2
theorem YV (h:bV m t Y=aa ag)(k:P (.nx Y)):Goes (iu m t F (n+1)) Y P:=⟨_,by
 show((bV m t Y).bind _)=_;rw[h]
 rfl,k⟩
theorem Aj {t:eI}{k:Nat}(h:k<t.length)(hg:getL j Y=aa (t.map aW))(e:g (vS Y)=aa (.int k)):k6 j .s g Y=aa ((t.getD k []).map bL):=by
 unfold k6;rw[hg,bE,show eV 0 .s g Y=aa (.int k) from e]
 show((e8 (t.map aW) k).bind _)=_;rw[show e8 (t.map aW) k=aa (aW (t.getD k [])) from BX h]
 rfl
theorem Xl{mk:Md}{T:aA->aP->Option aP}(h:k6 j mk g Y=aa ds)(k:Goes (cT .s (λ_=>aa ds) T F) Y P):Goes (vW j mk g T F) Y P:=by
 obtain⟨o,e,p⟩:=k;exact⟨o,by unfold vW;rw[h];exact e,p⟩
theorem Kr{mk:Md}{cap:List (Option Nat)}{T:aA->List (Option aA)->Option (List (Option aA))}{ys:List aA}(h:k6 j mk g Y=aa ds)(e:gg T t f (fK cap (vS Y)) ds=aa ys)(hl:ds.length<=1000)(hi:i<Y.length)(k:P (.nx (Y.set i (aa (0,.list ys))))):Goes (vV i j mk g cap T t f) Y P:=⟨_,by
 unfold vV;rw[h,bE,e,bE,if_pos ⟨lB (),hi⟩],k⟩
end
def cq (ks:List aG)(r:List Int):Kn:=(cO ks r []).getD []
theorem GF{kn:Kn}(h:cO ks r []=aa kn){u:Int}(e:bB kn z=aa u):(.inr z:aG)∈ks:=by
 unfold cO at h;obtain⟨_,h2⟩:=xC h;rcases(sG h2).2.2 z u e with q|⟨p,mp,q⟩
 .cases q
 .rw[<-q];exact(LY (show(p.1,p.2)∈ks.zip r from mp)).1
theorem lay_of {kn:Kn}(h:∀ z u,bB kn z=aa u->cF (.str z)=af):oX kn:=λp m=>by
 obtain⟨w,e⟩:=Ae5.1 (cB.2 ⟨p,m,rfl⟩);exact h _ w e
theorem Mj(h:∀ k∈ks,cF (kD k)=af){kn:Kn}(e:cO ks r []=aa kn):oX kn:=lay_of λz _ q=>h _ (GF e q)
theorem wL (a:List aG)(v:aE->Int):cO a (a.map (tv v)) []=aa (cq a (a.map (tv v)))/\(∀ z,(.inr z:aG)∈a->bB (cq a (a.map (tv v))) z=aa (v z))/\∀ z u,bB (cq a (a.map (tv v))) z=aa u->(.inr z:aG)∈a:=by
 obtain⟨kn,e,t⟩:=zQ a v;unfold cq;rw[e];exact⟨rfl,t,λz u q=>GF e q⟩
theorem A5v {a b:List aG}{u:aE->Int}:gj (cq a (a.map (tv v))) (cq b (b.map (tv u)))=af ↔ ∀ z,(.inr z:aG)∈a->(.inr z:aG)∈b->u z=v z:=by
 obtain⟨_,t1,d1⟩:=wL a v;obtain⟨_,t2,d2⟩:=wL b u;rw[Ar3];constructor
 .exact λh z m1 m2=>h z _ _ (t1 z m1) (t2 z m2)
 .intro h z x y h1 h2;have m1:=d1 z y h1;have m2:=d2 z x h2;rw[t1 z m1] at h1;rw[t2 z m2] at h2;cases h1;cases h2;exact h z m1 m2
theorem Ww {a b:List aG}{U:List (List Int)}(hz:∀ z,z∈zs↔(.inr z:aG)∈a/\(.inr z:aG)∈b)(hR:∀ r∈R,∃ v,r=a.map (tv v))(hU:∀ r∈U,∃ v,r=b.map (tv v)) :
  mQ a b zs R U=R.filter λr=>decide (0<(U.filter λu=>gj (cq a r) (cq b u)).length):=by
 unfold mQ;refine List.filter_congr λr mr=>?_
 obtain⟨v,rfl⟩:=hR r mr;rw[iP,Df,rY λz m=>((hz z).1 m).1,decide_eq_true_eq,List.length_pos_iff_exists_mem]
 constructor
 .intro m;obtain⟨r',m',e⟩:=cB.1 m;obtain⟨u,rfl⟩:=hU r' m';rw[rY λz m=>((hz z).1 m).2] at e
  exact⟨_,jR.2 ⟨m',A5v.2 λz m1 m2=>Cv.1 e z ((hz z).2 ⟨m1,m2⟩)⟩⟩
 .rintro⟨r',m'⟩;obtain⟨m',e⟩:=jR.1 m';obtain⟨u,rfl⟩:=hU r' m';refine cB.2 ⟨_,m',?_⟩;rw[rY λz m=>((hz z).1 m).2]
  exact nV λz m=>A5v.1 e z ((hz z).1 m).1 ((hz z).1 m).2
abbrev kS (kds:List (aA×aA))(ls:List Ln)(t:eI)(x3 x4 x5 x6 x7 x8 x9 bm b8 x12:L2.Slot):aP:=[s0 (.dict kds),s0 (ay ls),aa (1,cw t),x3,x4,x5,x6,x7,x8,x9,bm,b8,x12]
abbrev kB:SF:=(aO (uA .s (aB 7) (jL 8 9))
 (aO (vV 10 2 .s (aB 8) [ae,aa 1,aa 8] (gB 0) cI (aM jP (aD (ah aq (ah aq (aB 1) (aB 2)) (eC (.int 1))) (aD (aB 0) aH))))
 (aO (bC 5 1 .s (cU aH))
 (aO (vW 2 .s (aB 9) (dq 11) (aO (bC 12 0 .s (aM jP (aD (ah aq (ah aq (aB 1) (aB 9)) (eC (.int 1))) (aD (aB 11) aH))))
 (bp .s (ak (ah fy (aM bR (aD (bw [ae,aa 12] (ax (aB 10)) (gB 0) (ak (aM qK (aD (aB 1) (aD (aB 0) aH)))) (aB 0)) aH)) (eC (.int 0)))) (gE 5 .s (aB 11)) cK)))
 (hZ 5 (aO (lW 2 .s (aB 5) .s (aB 9))
 (aO (lJ 6 .s (aB 8))
 (bC 7 0 .a (aM xR (aD (aB 1) (aD (aB 6) aH)))))))))))
theorem OQ {a:List aG}(h:a.length<=100)(v:aE->Int):jP [tK a,tI (a.map (tv v))]=aa (ar (cq a (a.map (tv v)))):=by
 rw[BA h (cD _),(wL a v).1]
 rfl
theorem uz (n:Nat):fy (.int n) (.int 0)=aa (.bool (decide (0<n))):=by
 show aa (hV (decide ((n:Int) > 0)))=_
 congr 2
 rw[iP,decide_eq_true_eq,decide_eq_true_eq]
 lia
section
variable (ho:∀ l∈ls,fX l)
include ho
theorem Fi(hL:∀ o∈L,o<ls.length)(hl:L.length<=50)(hp:p.1∈L/\p.2∈L){t:eI}(ht:t.length=ls.length)(hf:lV (bf ls) t)(hs:∀ k,(t.getD k []).length<=1000)(x3 x4 x5 x8 x9 bm b8 x12:L2.Slot) :
  Goes kB (kS kds ls t x3 x4 x5 (aa (1,lN L)) (s0 (eT p)) x8 x9 bm b8 x12) λo=>∃ x5 x8 x9 bm b8 x12:L2.Slot,o=.nx (kS kds ls (ir (bf ls) (jo ls) t p.2 p.1) x3 x4 x5 (aa (1,lN (L.erase p.1))) (s0 (lY (fN ls (L.erase p.1)))) x8 x9 bm b8 x12):=by
 obtain⟨k,j⟩:=p;obtain⟨mk,mj⟩:=hp;have hk:=hL _ mk;have hj:=hL _ mj;have a6:(bf ls j).length<=100:=cM (ho _ (getD_mem cu hj)).1 nofun
 have b6:(bf ls k).length<=100:=cM (ho _ (getD_mem cu hk)).1 nofun
 have la:∀ x∈bf ls j,cF (kD x)=af:=(ho _ (getD_mem cu hj)).2;refine PL rfl rfl ?_;show Goes _ (kS kds ls t x3 x4 x5 (aa (1,lN L)) (s0 (eT (k,j))) (s0 (.int k)) (s0 (.int j)) bm b8 x12) _;refine dH (λY'=>Y'=kS kds ls t x3 x4 x5 (aa (1,lN L)) (s0 (eT (k,j))) (s0 (.int k)) (s0 (.int j)) (s0 (.list ((t.getD k []).map λu=>ar (cq (bf ls k) u)))) b8 x12) ?_ ?_
 .have e:=HS (T:=gB 0) (t:=cI) (f:=aM jP (aD (ah aq (ah aq (aB 1) (aB 2)) (eC (.int 1))) (aD (aB 0) aH))) (Y:=[ae,aa (ay ls),aa (.int k)]) (q:=bL) (λ_=>af) (λu=>ar (cq (bf ls k) u)) (t.getD k []) λu mu=>⟨[aa (bL u),aa (ay ls),aa (.int k)],rfl,rfl,λ_=>by
   obtain⟨v,rfl⟩:=hf k u mu;exact aY (aZ (wZ hk rfl rfl) rfl) (OQ b6 v)⟩
  rw[kR.2 λ_ _=>rfl] at e
  exact Kr (Aj () rfl rfl) e (by rw[cD];exact hs k) (by simp) ⟨_,rfl,rfl⟩
 rintro _ rfl;generalize hU:(t.getD k [])=U;have fU:∀ u∈U,∃ v,u=(bf ls k).map (tv v):=λu m=>hf k u (by rw[hU];exact m)
 have sU:U.length<=1000:=by rw[<-hU];exact hs k
 refine cA (d:=aW []) rfl (by simp) ?_
 have eP:=Ww (ER ls j k) (hf j) fU;refine dH (λY'=>∃ b8 x12:L2.Slot,Y'=kS kds ls t x3 x4 (aa (1,aW (mQ (bf ls j) (bf ls k) (jo ls j k) (t.getD j []) U))) (aa (1,lN L)) (s0 (eT (k,j))) (s0 (.int k)) (s0 (.int j)) (s0 (.list (U.map λu=>ar (cq (bf ls k) u)))) b8 x12) ?_ ?_
 .rw[eP];refine Xl (Aj () rfl rfl) (iN (xs:=t.getD j []) (q:=bL) (λam r=>am) (λi (_:Unit) Y'=>∃ b8 x12:L2.Slot,Y'=kS kds ls t x3 x4 (aa (1,aW (((t.getD j []).take i).filter λr=>decide (0<(U.filter λu=>gj (cq (bf ls j) r) (cq (bf ls k) u)).length)))) (aa (1,lN L)) (s0 (eT (k,j))) (s0 (.int k)) (s0 (.int j)) (s0 (.list (U.map λu=>ar (cq (bf ls k) u)))) b8 x12) (b0:=Unit.unit) rfl ⟨b8,x12,rfl⟩ ?_ ?_)
  .rintro i r _ _ hr ⟨mh,kz,rfl⟩;have mr:=fC hr;obtain⟨v,hv⟩:=hf j r mr;have tk:(t.getD j []).take (i+1)=(t.getD j []).take i++[r]:=by rw[sV,hr];rfl
   have lt:((t.getD j []).take i).length<=1000:=by rw[yJ];have:=hs j;lia
   rw[tk,List.filter_append];generalize hA:((t.getD j []).take i).filter (λr=>decide (0<(U.filter λu=>gj (cq (bf ls j) r) (cq (bf ls k) u)).length))=A
   have lA:A.length<=1000:=by rw[<-hA];exact cM (sX _ _) lt
   refine⟨kS kds ls t x3 x4 (aa (1,aW A)) (aa (1,lN L)) (s0 (eT (k,j))) (s0 (.int k)) (s0 (.int j)) (s0 (.list (U.map λu=>ar (cq (bf ls k) u)))) (s0 (bL r)) kz,rfl,?_⟩
   have ef:jP [tK (bf ls j),bL r]=aa (ar (cq (bf ls j) r)):=by rw[hv];exact OQ a6 v
   refine cA (aY (aZ (wZ hj rfl rfl) rfl) ef) (by simp) ?_
   show Goes _ (kS kds ls t x3 x4 (aa (1,aW A)) (aa (1,lN L)) (s0 (eT (k,j))) (s0 (.int k)) (s0 (.int j)) (s0 (.list (U.map λu=>ar (cq (bf ls k) u)))) (s0 (bL r)) (s0 (ar (cq (bf ls j) r)))) _
   have lk:oX (cq (bf ls j) r):=by rw[hv];exact Mj la (wL (bf ls j) v).1
   have e2:=fZ (cap:=[ae,aa 12]) (fi:=ax (aB 10)) (T:=gB 0) (t:=ak (aM qK (aD (aB 1) (aD (aB 0) aH)))) (f:=aB 0) (Y:=vS (kS kds ls t x3 x4 (aa (1,aW A)) (aa (1,lN L)) (s0 (eT (k,j))) (s0 (.int k)) (s0 (.int j)) (s0 (.list (U.map λu=>ar (cq (bf ls k) u)))) (s0 (bL r)) (s0 (ar (cq (bf ls j) r)))))
    (λu=>gj (cq (bf ls j) r) (cq (bf ls k) u)) (λu=>ar (cq (bf ls k) u)) (fA rfl) () λu _=>⟨[aa (ar (cq (bf ls k) u)),aa (ar (cq (bf ls j) r))],rfl,cL (aY rfl (Am lk)),λ_=>rfl⟩
   have c:=cL (aN (aY (aZ (g:=aH) e2 rfl) (pU _)) (rfl:eC (.int 0) _=aa (.int 0)) (by rw[cD];exact uz _))
   by_cases hc:0<(U.filter λu=>gj (cq (bf ls j) r) (cq (bf ls k) u)).length
   .rw[decide_eq_true hc] at c;rw[List.filter_cons_of_pos (by simpa using hc),List.filter_nil]
    refine dZ c (qA rfl rfl (by rw[cD];lia) ⟨_,.inl rfl,s0 (bL r),s0 (ar (cq (bf ls j) r)),?_⟩)
    rw[show aW (A++[r])=.list (A.map bL++[bL r]) by rw[aW,iK];rfl]
    rfl
   .rw[decide_eq_false hc] at c;rw[List.filter_cons_of_neg (by simpa using hc),List.filter_nil,jJ]
    exact fP c (gH ⟨_,.inl rfl,_,_,rfl⟩)
  .rintro _ ⟨mh,kz,rfl⟩;rw[pG];exact⟨_,rfl,mh,kz,rfl⟩
 rintro _ ⟨mh,kz,rfl⟩;refine kJ ?_;generalize hP:mQ (bf ls j) (bf ls k) (jo ls j k) (t.getD j []) U=Pt;refine dH (λY'=>Y'=kS kds ls (ir (bf ls) (jo ls) t j k) x3 x4 (s0 (aW Pt)) (aa (1,lN L)) (s0 (eT (k,j))) (s0 (.int k)) (s0 (.int j)) (s0 (.list (U.map λu=>ar (cq (bf ls k) u)))) mh kz) ?_ ?_
 .refine Kp (d:=aW Pt) rfl rfl rfl (zN (by rw[cD];lia)) ⟨_,rfl,?_⟩
  rw[Ak,<-hP,<-hU]
  rfl
 rintro _ rfl;refine dH (λY'=>Y'=kS kds ls (ir (bf ls) (jo ls) t j k) x3 x4 (s0 (aW Pt)) (aa (1,lN (L.erase k))) (s0 (eT (k,j))) (s0 (.int k)) (s0 (.int j)) (s0 (.list (U.map λu=>ar (cq (bf ls k) u)))) mh kz) (Ap rfl rfl mk ⟨_,rfl,rfl⟩) ?_
 rintro _ rfl;exact Ky (aY rfl (Bq ho (λo m=>hL o (Cr m)) (cM (Cz) hl))) (BC _) (by simp) ⟨_,_,_,_,_,_,rfl⟩
theorem RM:∀ (n cz:Nat) {L:List Nat} {t:eI},L.length<=n->n<cz->(∀ o∈L,o<ls.length)->L.length<=50->t.length=ls.length->lV (bf ls) t->(∀ k,(t.getD k []).length<=1000)->∀ (x3 x4 x5 x8 x9 bm b8 x12:L2.Slot),
  Goes (iu .s (ak (ah gW (aB 7) (eC .none))) kB cz) (kS kds ls t x3 x4 x5 (aa (1,lN L)) (s0 (lY (fN ls L))) x8 x9 bm b8 x12) λo=>∃ Y',o=.nx Y'/\∃ x5 x7 x8 x9 bm b8 x12:L2.Slot,Y'=kS kds ls (k5 (bf ls) (jo ls) t (dy ls n L).1) x3 x4 x5 (aa (1,lN (dy ls n L).2)) x7 x8 x9 bm b8 x12
 |n,0,L,t,_,hf,_,_,_,_,_=>()
 |0,cz+1,L,t,h0,_,_,_,_,_,_=>by
  intros
  have:L=[]:=yM.1 ()
  subst this;exact YV rfl ⟨_,rfl,_,_,_,_,_,_,_,rfl⟩
 |n+1,cz+1,L,t,hn,hfu,hL,hl,ht,hf,hs=>by
  intro x3 x4 x5 x8 x9 bm b8 x12;unfold dy;cases xl:fN ls L with
  |none=>exact YV rfl ⟨_,rfl,_,_,_,_,_,_,_,rfl⟩
  |some p=>
   have hp:=IE xl;have k2:p.2<t.length:=by rw[ht];exact hL _ hp.2
   obtain⟨o,e,y5,y8,y9,z4,mh,kz,rfl⟩:=Fi (kds:=kds) ho hL hl hp ht hf hs x3 x4 x5 x8 x9 bm b8 x12;refine Jx rfl ⟨_,e,_,rfl,?_⟩;exact RM n cz (by rw[Cy hp.1];lia) () (λo m=>hL o (Cr m)) (cM Cz hl) ((wX _ _ _).trans ht) (GP hf k2) (λk=>cM (GE k2 k).length_le (hs k)) x3 x4 y5 y8 y9 z4 mh kz
end
section
variable {B:aE->List (List Int)}
theorem Mw (b:Bk kds B wd)(L:Lok ls)(hW:∀ l∈ls,wd l.1=l.2.length):JH [.dict kds,ay ls]=aa (cw (f7 B ls)):=by
 have n5:=L.n4;have:∃ d,JH [.dict kds,ay ls]=aa d/\d=cw (f7 B ls):=by
  rw[7];refine cA (d:=cw []) rfl (by simp) ?_
  refine dH (λY'=>∃ x3 x4 x5:L2.Slot,Y'=kS kds ls (ls.map (du B)) x3 x4 x5 ae ae ae ae ae ae ae) ?_ ?_
  .refine iN (xs:=ls) (q:=bG) (λam r=>am) (λi (_:Unit) Y'=>∃ x3 x4 x5:L2.Slot,Y'=kS kds ls ((ls.take i).map (du B)) x3 x4 x5 ae ae ae ae ae ae ae) (b0:=Unit.unit) (c9 (jC rfl)) ⟨ae,ae,ae,rfl⟩ ?_ ?_
   .rintro i l _ _ hi ⟨x3,x4,x5,rfl⟩;have ml:=fC hi;have h6:=(L.ok l ml).1;have tk:ls.take (i+1)=ls.take i++[l]:=by rw[sV,hi];rfl
    refine⟨kS kds ls ((ls.take i).map (du B)) (s0 (.str l.1)) (s0 (tK l.2)) x5 ae ae ae ae ae ae ae,rfl,?_⟩;have e:=fZ (cap:=[ae,aa 4]) (fi:=ax (eY (aB 0) (aB 3) (cU aH))) (T:=gB 0) (t:=ak (ah gW (aM jP (aD (aB 1) (aD (aB 0) aH))) (eC .none))) (f:=aB 0) (Y:=vS (kS kds ls ((ls.take i).map (du B)) (s0 (.str l.1)) (s0 (tK l.2)) x5 ae ae ae ae ae ae ae))
     (λr=>(cO l.2 r []).isSome) bL (fA (b.get rfl rfl)) (by have:=b.few l.1;lia) λr m=>⟨[aa (bL r),aa (tK l.2)],rfl,by
      refine cL (aN (aY rfl (BA () (by rw[b.wid l.1 r m,hW l ml]))) rfl ?_)
      cases cO l.2 r []<;>rfl,λ_=>rfl⟩
    refine cA e (by simp) (kJ ?_)
    refine qA (d:=aW (du B l)) (aY rfl (Bh (b.pos l.1) (λr m=>b.wid l.1 r (jR.1 m).1) (CQ (sX _ _) (b.few l.1)))) rfl (by simp;lia) ⟨_,.inl rfl,s0 (.str l.1),s0 (tK l.2),s0 (aW ((B l.1).filter λr=>(cO l.2 r []).isSome)),?_⟩
    rw[show vK (((ls.take i).map (du B)).map aW++[aW (du B l)])=cw ((ls.take (i+1)).map (du B)) by rw[tk,cw,iK,iK];rfl]
    rfl
   .rintro _ ⟨x3,x4,x5,rfl⟩;rw[pG];exact⟨_,rfl,x3,x4,x5,rfl⟩
  rintro _ ⟨x3,x4,x5,rfl⟩;refine cA (d:=lN (cQ ls.length)) (aY (aZ (aY rfl (by rw[rW,cD])) rfl) ?_) (by simp) ?_
  .show(if -4096<=(ls.length:Int)/\(ls.length:Int)<=4096 then aa (vK (L2.upTo (ls.length:Int).toNat)) else ae)=_
   rw[if_pos ⟨(),()⟩]
   rfl
  have hL:∀ o∈cQ ls.length,o<ls.length:=λo m=>nU.1 m
  have hl:(cQ ls.length).length<=50:=by rw[yK];lia
  refine QS (aY rfl (Bq L.ok hL hl)) (BC _) (by simp) ?_
  refine dH _ (RM (kds:=kds) L.ok ls.length 100 (by simp) () hL hl (cD _) (AB ls) (λk=>by
   rw[nW,gJ];cases ls[k]? with
   |none=>exact eA _
   | some l=>exact cM (GQ B l) (nQ (iV (b.few l.1) nofun))) x3 x4 x5 ae ae ae ae ae) ?_
  rintro _ ⟨y5,y7,y8,y9,z4,mh,kz,rfl⟩;refine kJ (wU rfl ⟨_,rfl,rfl⟩)
 rw[2]
end
def Cn (kn:Kn):Prop:=∀ p∈kn,bB kn p.1=aa p.2
theorem ZV {kn:Kn}(h:Cn kn)(z:aE)(v:Int):Cn (putN kn z v):=λp m=>by
 rw[IA];unfold putN at m;split at m
 .obtain⟨q,mq,e⟩:=cB.1 m;have:=h q mq
  grind
 .rcases eM.1 m with m|m
  .have:=h p m
   grind
  .cases cP.1 m;rw[if_pos rfl]
theorem AQ:∀ {ps:List (aG×Int)} {kn aw:Kn},Cn kn->dR eE kn ps=aa aw->Cn aw
 |[],kn,aw,h,e=>by cases e;exact h
 |(.inl i,v)::ps,kn,aw,h,e=>by
  obtain⟨k1,e1,e2⟩:=aj (show((eE kn (.inl i,v)).bind λb'=>dR eE b' ps)=aa aw from e)
  have e1:(if v=i then aa kn else ae)=aa k1:=e1
  split at e1
  .cases e1;exact AQ h e2
  .cases e1
 |(.inr z,v)::ps,kn,aw,h,e=>by
  obtain⟨k1,e1,e2⟩:=aj (show((eE kn (.inr z,v)).bind λb'=>dR eE b' ps)=aa aw from e)
  have e1:(match bB kn z with|some u=>if v=u then aa kn else ae|none=>aa (kn++[(z,v)]))=aa k1:=e1
  cases hz:bB kn z with
  |none=>
   rw[hz] at e1;cases e1;have:=ZV h z v;unfold putN at this;rw[hz,if_neg (by simp)] at this
   exact AQ this e2
  |some u=>
   rw[hz] at e1;dsimp only at e1;split at e1
   .cases e1;exact AQ h e2
   .cases e1
theorem FC{kn:Kn}(h:cO ks r []=aa kn):Cn kn:=by
 unfold cO at h;exact AQ (λ_ m=>by cases m) (xC h).2
def iA (more bt:Kn):Kn:=bt.foldl (λa p=>putN a p.1 p.2) more
theorem UF{V:aE->Int}:∀ (ps am:Kn),(∀ p∈ps,p.2=V p.1)->bB (ps.foldl (λa p=>putN a p.1 p.2) am) z=if z∈ps.map (·.1) then aa (V z) else bB am z
 |[],am,_=>by simp
 |p::ps,am,h=>by
  rw[pI,UF ps _ (λq m=>h q (bM _ m)),IA]
  have:=h p bO
  grind
theorem AY {more bt:Kn}(h:Cn bt)(z:aE):bB (iA more bt) z=(bB bt z).or (bB more z):=by
 unfold iA;rw[UF (V:=eJ bt) bt more λp m=>by unfold eJ;rw[h p m];rfl]
 cases e:bB bt z with
 |none=>rw[if_neg (λq=>by obtain⟨w,e2⟩:=Ae5.1 q;rw[e] at e2;cases e2)];rfl
 |some u=>rw[if_pos (Ae5.2 ⟨u,e⟩)];unfold eJ;rw[e];rfl
theorem FG {more:Kn}(h:Cn more):∀ bt:Kn,Cn (iA more bt):=λbt=>by
 unfold iA;induction bt generalizing more with
 |nil=>exact h
 |cons p r ih=>exact ih (ZV h p.1 p.2)
theorem Ws {more:Kn}:∀ bt:Kn,(iA more bt).length<=more.length+bt.length:=λbt=>by
 unfold iA;induction bt generalizing more with
 |nil=>simp
 |cons p r ih=>
  have:=QZ more p.1 p.2;have:=ih (more:=putN more p.1 p.2);rw[pI,fJ]
  lia
theorem QK:∀ kn:Kn,lQ (DN kn)=aa (kn.map λp=>(.inr p.1,.int p.2))
 |[]=>rfl
 |p::kn=>by
  show((bK (.str p.1)).bind λk=>(lQ (DN kn)).bind λps=>aa ((k,bF p.2)::ps))=_
  rw[QK kn]
  rfl
theorem RJ:∀ kn more:Kn,jB (kn.map λp=>(.inr p.1,.int p.2)) (DN more)=DN (iA more kn)
 |[],_=>rfl
 |p::kn,more=>by
  show jB (kn.map λp=>(.inr p.1,.int p.2)) (putD (DN more) (.inr p.1) (.int p.2))=_
  rw[An];exact RJ kn _
theorem Ur{P:Out->Prop}{kn more:Kn}(h:f (vS Y)=aa (ar kn))(hg:kT i Y=aa (DN more))(hl:more.length+kn.length<=1000)(k:P (.nx (Y.set i (aa (1,ar (iA more kn)))))):Goes (oW i .s f) Y P:=⟨_,by
 unfold oW;rw[show eV 0 .s f Y=aa (.dict (DN kn)) from h,bE,hg,bE]
 show((lQ (DN kn)).bind λps=>if cv (DN kn)=af/\(DN more).length+(DN kn).length<=sizeLine then aa (Out.nx (Y.set i (aa (1,.dict (jB ps (DN more)))))) else ae)=_
 rw[QK,bE,if_pos ⟨kj kn,lB (by simp[DN];lia)⟩,RJ]
 rfl,k⟩
def h3 (kn:Kn)(ks:List aG)(r:List Int):Option Kn:=(cO ks r []).bind λmore=>if gj kn more=af then aa (iA more kn) else ae
def ext3 (bj:List Kn)(ks:List aG)(cb:List (List Int)):List Kn:=bj.flatMap λkn=>cb.filterMap (h3 kn ks)
def kF (B:aE->List (List Int))(ls:List Ln):List Kn:=ls.foldl (λbj l=>ext3 bj l.2 (B l.1)) [[]]
theorem PJ {kn aw:Kn}(h:h3 kn ks r=aa aw):∃ more,cO ks r []=aa more/\gj kn more=af/\aw=iA more kn:=by
 obtain⟨more,e,h⟩:=aj h;obtain⟨a,b⟩:=xC h;cases b;exact⟨more,e,a,rfl⟩
theorem Gb {kn aw:Kn}(ho:fX l)(h:h3 kn l.2 r=aa aw)(c:Cn kn)(hl:kn.length<=n)(ly:oX kn):Cn aw/\aw.length<=n+6/\oX aw:=by
 obtain⟨more,e,_,rfl⟩:=PJ h;have l1:=FZ e;have l2:=Ws (more:=more) kn;have:=ho.1;refine⟨FG (FC e) kn,by simp at l1;lia,lay_of λz u q=>?_⟩
 rw[AY c] at q;cases e1:bB kn z with
 |some w=>
  obtain⟨p,mp,rfl⟩:=cB.1 (Ae5.2 ⟨w,e1⟩);exact ly p mp
 |none=>
  rw[e1] at q;exact ho.2 _ (GF e q)
theorem UP {B:aE->List (List Int)}:∀ (rest jb:List Ln) (bj:List Kn),(∀ kn∈bj,Cn kn/\∀ l∈jb,pO kn (eJ kn) l.2/\l.2.map (tv (eJ kn))∈B l.1)->∀ kn∈rest.foldl (λbj l=>ext3 bj l.2 (B l.1)) bj,zH B (jb++rest) (eJ kn)
 |[],jb,bj,h,kn,m=>λl ml=>((h kn m).2 l (by simpa using ml)).2
 |l::rest,jb,bj,h,kn,m=>by
  have:=UP rest (jb++[l]) (ext3 bj l.2 (B l.1)) (λk1 m1=>by
   obtain⟨k0,m0,m1⟩:=vL.1 m1;obtain⟨r,mr,e0⟩:=qR.1 m1;obtain⟨more,e,tg,rfl⟩:=PJ e0;obtain⟨c0,g0⟩:=h k0 m0;have u1:∀ z u,bB k0 z=aa u->bB (iA more k0) z=aa u:=λz u q=>by rw[AY c0,q];rfl
   have u2:∀ z u,bB more z=aa u->bB (iA more k0) z=aa u:=λz u q=>by
    rw[AY c0];cases e1:bB k0 z with
    |none=>exact q
    |some w=>rw[Ar3.1 tg z u w e1 q];rfl
   refine⟨FG (FC e) k0,λl' ml=>?_⟩
   rcases eM.1 ml with ml|ml
   .obtain⟨t1,t2⟩:=g0 l' ml;obtain⟨a,b⟩:=KF t1 u1;exact⟨a,by rw[b];exact t2⟩
   .cases cP.1 ml;obtain⟨e1,t1⟩:=SN e;obtain⟨a,b⟩:=KF t1 u2;exact⟨a,by rw[b,<-e1];exact mr⟩) kn m
  rwa [MH] at this
theorem WL {B:aE->List (List Int)}:∀ (rest:List Ln) (bj:List Kn),(∃ kn∈bj,Cn kn/\rZ kn v)->zH B rest v->∃ kn∈rest.foldl (λbj l=>ext3 bj l.2 (B l.1)) bj,rZ kn v
 |[],bj,⟨kn,m,_,a⟩,_=>⟨kn,m,a⟩
 |l::rest,bj,⟨k0,m0,c0,a0⟩,h=>by
  refine WL rest (ext3 bj l.2 (B l.1)) ?_ λl' m=>h l' (bM _ m)
  obtain⟨e,t1,d1⟩:=wL l.2 v;have a1:rZ (cq l.2 (l.2.map (tv v))) v:=λz u q=>by
   rw[t1 z (d1 z u q)] at q;cases q
   rfl
  have tg:gj k0 (cq l.2 (l.2.map (tv v)))=af:=Ar3.2 λz u w q1 q2=>by rw[a1 z u q2,a0 z w q1]
  refine⟨iA (cq l.2 (l.2.map (tv v))) k0,vL.2 ⟨k0,m0,qR.2 ⟨_,h l bO,?_⟩⟩,FG (FC e) k0,λz u q=>?_⟩
  .unfold h3;rw[e,bE,if_pos tg]
  .rw[AY c0] at q;cases e1:bB k0 z with
   |none=>rw[e1] at q;exact a1 z u q
   |some w=>rw[e1] at q;cases q;exact a0 z u e1
theorem Azd {B:aE->List (List Int)}:kF B ls≠[] ↔ ∃ v,zH B ls v:=by
 constructor
 .intro h;obtain⟨kn,m⟩:=De _ h;exact⟨eJ kn,UP ls [] [[]] (λkn m=>by cases cP.1 m;exact⟨λ_ m=>(by cases m),λ_ m=>by cases m⟩) kn m⟩
 .rintro⟨v,h⟩;obtain⟨kn,m,_⟩:=WL ls [[]] ⟨[],cP.2 rfl,λ_ m=>(by cases m),λz u q=>by cases q⟩ h
  exact Cq m
theorem PV {lf:Nat->List aG}{R:Nat->Prop}:∀ {es:List (Nat×Nat)} {S:Nat->Prop} {T:jS},wK lf S es R->((∃ v,qU lf R (xt lf T es) v) ↔ ∃ v,qU lf S T v)
 |[],S,T,h=>⟨λ⟨v,q⟩=>⟨v,λk s=>q k ((h k).1 s)⟩,λ⟨v,q⟩=>⟨v,λk s=>q k ((h k).2 s)⟩⟩
 |q::es,S,T,h=>by
  refine(PV (T:=kg lf T q.1 q.2) h.2).trans ⟨λ⟨v,s⟩=>?_,λ⟨v,s⟩=>⟨v,Gw h.1 s⟩⟩
  obtain⟨v2,s2,_⟩:=Jt h.1 s;exact⟨v2,s2⟩
theorem A4m {B:aE->List (List Int)}:gL (gV ls (f7 B ls))≠[] ↔ ∃ v,zH B ls v:=by
 have a:gL (gV ls (f7 B ls))≠[] ↔ ∃ v,qU (bf ls) (λk=>k∈(dQ ls).2) (tb (f7 B ls)) v:=by
  constructor
  .intro h;obtain⟨kn,m⟩:=De _ h;exact⟨eJ kn,λk mk=>(Nx _ kn m _ (cB.2 ⟨k,mk,rfl⟩)).2⟩
  .rintro⟨v,h⟩;obtain⟨kn,m,_⟩:=WJ (v:=v) (gV ls (f7 B ls)) [[]] ⟨[],cP.2 rfl,λz u e=>by cases e⟩ λp mp=>by
    obtain⟨k,mk,rfl⟩:=cB.1 mp;exact h k mk
   exact Cq m
 rw[a];have s2:=(xJ (xK ls)).2;obtain⟨e,_⟩:=FA (ER ls) (AB (B:=B) ls) (es:=(dQ ls).1) λq m=>by rw[cD];exact(s2 q m).2
 unfold f7;rw[e,PV (xK ls)];refine exists_congr λv=>?_
 have g:∀ k (h:k<ls.length),(ls.map (du B)).getD k []=du B ls[k]/\bf ls k=ls[k].2:=λk h=>by
  unfold bf;simp[nW,h]
 constructor
 .intro h l ml;obtain⟨k,hk,rfl⟩:=sY ml;have:=h k hk;unfold tb at this;rw[(g k hk).1,(g k hk).2,Asm] at this;exact this.1
 .intro h k hk;unfold tb;rw[(g k hk).1,(g k hk).2,Asm];exact⟨h _ (lG hk),v,rfl⟩
theorem HH {α γ:Type}(f:α->β->Option γ)(ys:List β):∀ xs:List α,(xs.flatMap λx=>ys.filterMap (f x)).length<=xs.length*ys.length
 |[]=>by simp
 |x::xs=>by
  rw[Dd,pH,fJ,Nat.succ_mul];have:=HH f ys xs;have:=yL (f x) ys
  lia
abbrev aS (kds:List (aA×aA))(ls:List Ln)(W:List Kn)(x3 x4 x5 x6 x7 x8:L2.Slot):aP:=[s0 (.dict kds),s0 (ay ls),s0 (.list (W.map ar)),x3,x4,x5,x6,x7,x8]
abbrev aL (A:List Kn):L2.Slot:=aa (1,.list (A.map ar))
section
variable {B:aE->List (List Int)}
theorem Ul (ls:List Ln)(W:List Kn)(ho:fX l)(hr:r.length=l.2.length){kn:Kn}(ly:oX kn)(kl:kn.length<=100)(A:List Kn)(hA:A.length<10000)(x8:L2.Slot) :
  Goes (aO (bC 8 1 .s (aM jP (aD (aB 4) (aD (aB 7) aH))))
   (bp .a (fL (ak (ah gW (aB 8) (eC .none))) (ak (aM qK (aD (aB 6) (aD (aB 8) aH))))) (aO (oW 8 .s (aB 6)) (hZ 8 (gE 5 .s (aB 8)))) cK))
   (aS kds ls W (s0 (.str l.1)) (s0 (tK l.2)) (aL A) (s0 (ar kn)) (s0 (bL r)) x8) λo=>∃ Y2,(o=.nx Y2\/o=.ct Y2)/\∃ x8:L2.Slot,Y2=aS kds ls W (s0 (.str l.1)) (s0 (tK l.2)) (aL (A++(h3 kn l.2 r).toList)) (s0 (ar kn)) (s0 (bL r)) x8:=by
 have h6:=ho.1;refine cA (aY rfl (BA () hr)) (by simp) ?_
 unfold h3;cases hf:cO l.2 r [] with
 |none=>
  refine fP rfl (gH ⟨_,.inl rfl,aa (1,.none),?_⟩);rw[show((ae:Option (List (aE×Int))).bind λmore=>if gj kn more=af then aa (iA more kn) else ae).toList=[] from rfl,jJ]
  rfl
 |some more=>
  have lm:=FZ hf;have c:bV .a (fL (ak (ah gW (aB 8) (eC .none))) (ak (aM qK (aD (aB 6) (aD (aB 8) aH))))) (aS kds ls W (s0 (.str l.1)) (s0 (tK l.2)) (aL A) (s0 (ar kn)) (s0 (bL r)) (aa (1,ar more)))=aa (gj kn more):=sC (x:=af) rfl λ_=>cL (aY rfl (Am ly))
  rw[bE];cases tg:gj kn more with
  |false=>
   rw[tg] at c;refine fP c (gH ⟨_,.inl rfl,aa (1,ar more),?_⟩);rw[if_neg nofun,show(ae:Option Kn).toList=[] from rfl,jJ]
   rfl
  |true=>
   rw[tg] at c;rw[if_pos rfl];refine dZ c (dH (λY'=>Y'=aS kds ls W (s0 (.str l.1)) (s0 (tK l.2)) (aL A) (s0 (ar kn)) (s0 (bL r)) (aa (1,ar (iA more kn)))) (Ur rfl rfl (by simp at lm;lia) ⟨_,rfl,rfl⟩) ?_)
   rintro _ rfl;refine kJ (qA (d:=ar (iA more kn)) (ds:=A.map ar) rfl rfl (by rw[cD];lia) ⟨_,.inl rfl,s0 (ar (iA more kn)),?_⟩)
   rw[show A.map ar++[ar (iA more kn)]=(A++(aa (iA more kn)).toList).map ar by rw[iK];rfl]
   rfl
theorem Wi {α:Type}(f:α->Option β){xs:List α}{x:α}(h:xs[i]?=aa x):(xs.take (i+1)).filterMap f=(xs.take i).filterMap f++(f x).toList:=by
 rw[sV,h,List.filterMap_append];show _++List.filterMap f [x]=_;cases e:f x<;>simp[e]
theorem Nt (b:Bk kds B wd)(m1:1<=m)(h6:∀ t,(B t).length<=m)(L:Lok ls)(hm:m^ls.length<=4096)(hW:∀ l∈ls,wd l.1=l.2.length):JT [.dict kds,ay ls]=aa (.bool (decide (kF B ls≠[]))):=by
 have n5:=L.n4;have:∃ d,JT [.dict kds,ay ls]=aa d/\d=.bool (decide (kF B ls≠[])):=by
  rw[7];refine cA (d:=.list ([[]].map ar)) rfl (by simp) ?_
  refine dH (λY'=>∃ x3 x4 x5 x6 x7 x8:L2.Slot,Y'=aS kds ls (kF B ls) x3 x4 x5 x6 x7 x8) ?_ ?_
  .refine iN (xs:=ls) (q:=bG) (λam r=>am) (λi (_:Unit) Y'=>((∀ kn∈kF B (ls.take i),Cn kn/\kn.length<=6*i/\oX kn)/\(kF B (ls.take i)).length<=m^i)/\∃ x3 x4 x5 x6 x7 x8:L2.Slot,Y'=aS kds ls (kF B (ls.take i)) x3 x4 x5 x6 x7 x8) (b0:=Unit.unit) (c9 (jC rfl)) ⟨⟨λkn m=>by cases cP.1 m;exact⟨λ_ m=>(by cases m),by simp,λ_ m=>by cases m⟩,by simp[kF]⟩,ae,ae,ae,ae,ae,ae,rfl⟩ ?_ ?_
   .rintro i l _ _ hi ⟨⟨hk,hn⟩,x3,x4,x5,x6,x7,x8,rfl⟩;have ml:=fC hi;have il:=(cR.1 hi).1;have ho:=L.ok l ml;have tk:kF B (ls.take (i+1))=ext3 (kF B (ls.take i)) l.2 (B l.1):=by
     unfold kF;rw[sV,hi,MB]
     rfl
    rw[tk];generalize kF B (ls.take i)=W at *;have mi:m^i*m<=4096:=by
     rw[<-Nat.pow_succ];exact cM (LQ m1 ()) hm
    have mm:m<=4096:=cM (Nat.le_mul_of_pos_left m (Nat.pow_pos m1)) mi;have wl:W.length*(B l.1).length<=m^i*m:=CP hn (h6 _);refine⟨aS kds ls W (s0 (.str l.1)) (s0 (tK l.2)) x5 x6 x7 x8,rfl,?_⟩;refine cA (d:=.list []) rfl (by simp) ?_
    refine dH (λY'=>∃ x6 x7 x8:L2.Slot,Y'=aS kds ls W (s0 (.str l.1)) (s0 (tK l.2)) (aL (ext3 W l.2 (B l.1))) x6 x7 x8) ?_ ?_
    .refine iN (xs:=W) (q:=ar) (λam r=>am) (λj (_:Unit) Y'=>∃ x6 x7 x8:L2.Slot,Y'=aS kds ls W (s0 (.str l.1)) (s0 (tK l.2)) (aL (ext3 (W.take j) l.2 (B l.1))) x6 x7 x8) (b0:=Unit.unit) (c9 (fA rfl)) ⟨x6,x7,x8,rfl⟩ ?_ ?_
     .rintro j kn _ _ hj ⟨y6,y7,y8,rfl⟩;obtain⟨_,kl,ly⟩:=hk kn (fC hj);have jl:=(cR.1 hj).1;have e1:ext3 (W.take (j+1)) l.2 (B l.1)=ext3 (W.take j) l.2 (B l.1)++(B l.1).filterMap (h3 kn l.2):=by
       unfold ext3;rw[sV,hj,List.flatMap_append];simp
      have al:(ext3 (W.take j) l.2 (B l.1)).length<=4096:=by
       refine cM (HH _ _ _) (cM (Nat.mul_le_mul_right _ ?_) (cM wl mi));rw[yJ];lia
      generalize ext3 (W.take j) l.2 (B l.1)=A at e1 al;refine⟨aS kds ls W (s0 (.str l.1)) (s0 (tK l.2)) (aL A) (s0 (ar kn)) y7 y8,rfl,?_⟩;refine iN (xs:=B l.1) (q:=bL) (λam r=>am) (λq (_:Unit) Y'=>∃ x7 x8:L2.Slot,Y'=aS kds ls W (s0 (.str l.1)) (s0 (tK l.2)) (aL (A++((B l.1).take q).filterMap (h3 kn l.2))) (s0 (ar kn)) x7 x8) (b0:=Unit.unit) (c9 (fA (b.get rfl rfl))) ⟨y7,y8,by simp⟩ ?_ ?_
      .rintro q r _ _ hq ⟨z7,z8,rfl⟩;have bl:(((B l.1).take q).filterMap (h3 kn l.2)).length<=4096:=cM (yL _ _) (by rw[yJ];have:=h6 l.1;lia)
       refine⟨aS kds ls W (s0 (.str l.1)) (s0 (tK l.2)) (aL (A++((B l.1).take q).filterMap (h3 kn l.2))) (s0 (ar kn)) (s0 (bL r)) z8,rfl,?_⟩;refine(Ul (kds:=kds) ls W ho ((b.wid l.1 r (fC hq)).trans (hW l ml)) ly () _ (by rw[pH];lia) z8).mono ?_
       rintro o ⟨Y2,ho,x8,rfl⟩;exact⟨_,ho,_,x8,by rw[Wi (h3 kn l.2) hq,MH]⟩
      .rintro _ ⟨z7,z8,rfl⟩;rw[pG,<-e1];exact⟨_,.inl rfl,_,_,_,rfl⟩
     .rintro _ ⟨y6,y7,y8,rfl⟩;rw[pG];exact⟨_,rfl,_,_,_,rfl⟩
    rintro _ ⟨y6,y7,y8,rfl⟩;refine kJ (qB rfl (by simp[frz]) ⟨_,.inl rfl,⟨λaw m'=>?_,cM (HH _ _ _) wl⟩,_,_,_,_,_,_,rfl⟩)
    obtain⟨kn,mk,m2⟩:=vL.1 m';obtain⟨r,_,e⟩:=qR.1 m2;obtain⟨c,kl,ly⟩:=hk kn mk;obtain⟨c',kl',J'⟩:=Gb ho e c kl ly;exact⟨c',(),J'⟩
   .rintro _ ⟨_,x3,x4,x5,x6,x7,x8,rfl⟩;rw[pG];exact⟨_,rfl,_,_,_,_,_,_,rfl⟩
  rintro _ ⟨x3,x4,x5,x6,x7,x8,rfl⟩;refine cW (aN (aY rfl (pU _)) rfl (by rw[cD];exact uz _)) ⟨_,rfl,?_⟩
  congr 1
  rw[iP,decide_eq_true_eq,decide_eq_true_eq,List.length_pos_iff]
 rw[2]
theorem La(L:Lok ls)(kn:Kn){a b:L2.Slot}{Y:List (Option aA)}(e4:Y[4]?.join=aa (ay ls))(e5:Y[5]?.join=aa (ar kn)) :
  aM gG (aD (bw [ae,aa 5] (ax (aB 4)) (gB 0) cI (dD (aD (ah aq (aB 0) (eC (.int 0))) (aD (aM gG (aD (bw [ae,aa 1] (ax (ah aq (aB 0) (eC (.int 1)))) (gB 0) cI (eY (aB 1) (aB 0) (aB 0))) aH)) aH)))) aH) Y=aa (ay (ls.map (gX kn))):=by
 have n5:=L.n4;have e:=fZ (cap:=[ae,aa 5]) (fi:=ax (aB 4)) (T:=gB 0) (t:=cI) (f:=dD (aD (ah aq (aB 0) (eC (.int 0))) (aD (aM gG (aD (bw [ae,aa 1] (ax (ah aq (aB 0) (eC (.int 1)))) (gB 0) cI (eY (aB 1) (aB 0) (aB 0))) aH)) aH))) (Y:=Y) (xs:=ls) (q:=bG) (λ_=>af) (λl=>bG (gX kn l)) (jC e4) () λl ml=>⟨[aa (bG l),aa (ar kn)],by
   show gB 0 (bG l) [ae,Y[5]?.join]=_;rw[e5]
   rfl,rfl,λ_=>by
   have h6:=(L.ok l ml).1;have e2:=fZ (cap:=[ae,aa 1]) (fi:=ax (ah aq (aB 0) (eC (.int 1)))) (T:=gB 0) (t:=cI) (f:=eY (aB 1) (aB 0) (aB 0)) (Y:=[aa (bG l),aa (ar kn)]) (xs:=l.2) (q:=kD) (λ_=>af) (λk=>kD (oC kn k)) (jC rfl) () λk _=>⟨[aa (kD k),aa (ar kn)],rfl,rfl,λ_=>by
    rw[pY rfl (show aB 0 [aa (kD k),aa (ar kn)]=aa (kD k) from rfl) (iF k) rfl (kj kn)]
    cases k with
    |inl i=>rw[show bQ (DN kn) (.inl i)=ae from HA kn i];rfl
    |inr z=>
     rw[oJ];unfold oC;dsimp only;cases bB kn z<;>rfl⟩
   rw[kR.2 λ_ _=>rfl] at e2
   exact mT (aZ rfl (aZ (aY (aZ (g:=aH) e2 rfl) rfl) rfl)) |>.trans (by unfold bG gX;rw[dX];rfl)⟩
 rw[kR.2 λ_ _=>rfl] at e
 exact(aY (aZ (g:=aH) e rfl) rfl).trans (by rw[ay,dX];rfl)
theorem Pf (b:Bk kds B wd)(m1:1<=m)(h6:∀ t,(B t).length<=m){a:uD}(ha:a.1.length<=6)(L:Lok a.2)(hm:m^a.2.length<=4096)(hW:∀ l∈a.2,wd l.1=l.2.length)(row:List Int):JR [.dict kds,iB a,tI row]=aa (lM B a row):=by
 have:∃ d,JR [.dict kds,iB a,tI row]=aa d/\d=lM B a row:=by
  rw[7];refine PL rfl rfl (cA rfl (by simp) ?_)
  refine dH (λY'=>Y'=[s0 (.dict kds),s0 (iB a),s0 (tI row),s0 (tK a.1),s0 (ay a.2),s0 (qP (cO a.1 row []))]) ?_ ?_
  .have c:bV .s (ak (ah ck (aM bR (aD (aB 3) aH)) (aM bR (aD (aB 2) aH)))) [s0 (.dict kds),s0 (iB a),s0 (tI row),s0 (tK a.1),s0 (ay a.2),s0 .none]=aa (decide (a.1.length=row.length)):=cL (aN (aY rfl (by rw[rW,cD])) (aY rfl (by rw[rW,cD])) (oy _ _))
   by_cases h:a.1.length=row.length
   .rw[decide_eq_true h] at c;exact dZ c (qB (aY rfl (BA () h.symm)) (by simp) ⟨_,rfl,rfl⟩)
   .rw[decide_eq_false h] at c;refine fP c (gH ⟨_,rfl,?_⟩);rw[show cO a.1 row []=ae from if_neg λq=>h q.symm]
    rfl
  rintro _ rfl;unfold lM;cases hf:cO a.1 row [] with
  |none=>exact zK (dZ rfl (cW rfl ⟨_,rfl,_,rfl,rfl⟩))
  |some kn=>
   refine CA rfl ?_;show Goes _ _ λo=>∃ d,o=.rt d/\d=tJ B (a.2.map (gX kn))
   have L':=OO L kn;have n':(a.2.map (gX kn)).length=a.2.length:=cD _;have z5:∀ l∈a.2.map (gX kn),wd l.1=l.2.length:=λl ml=>by
    obtain⟨l0,m0,rfl⟩:=cB.1 ml;rw[gX,cD];exact hW l0 m0
   refine cA (La (a:=ae) (b:=ae) L kn rfl rfl) (by simp) ?_
   generalize a.2.map (gX kn)=ls at *;rw[<-n'] at hm;have c:=cL (aY (show aD (aB 0) (aD (aB 4) aH) (vS [s0 (.dict kds),s0 (iB a),s0 (tI row),s0 (tK a.1),s0 (ay ls),s0 (ar kn)])=aa [.dict kds,ay ls] from rfl) (Nt b m1 h6 L' hm z5))
   have z6:kF B ls≠[]↔gL (gV ls (f7 B ls))≠[]:=Azd.trans A4m.symm;unfold tJ;by_cases hw:gL (gV ls (f7 B ls))=[]
   .rw[if_pos hw];rw[decide_eq_false λz=>z6.1 z hw] at c
    exact CA c (cW (mT (aZ rfl (aZ (aY rfl (Mw b L' z5)) rfl))) ⟨_,rfl,rfl⟩)
   .rw[if_neg hw];rw[decide_eq_true (z6.2 hw)] at c;exact zK (dZ c (cW rfl ⟨_,rfl,_,rfl,rfl⟩))
 rw[2]
end
theorem Tw {A:List Tb}{t:aE}(h:t∉A.map (·.1))(R:List (List Int)):putD (av A) (.inr t) (aW R)=av (A++[(t,R)]):=by
 unfold putD;have hn:¬ ((av A).any λkd=>decide (bK kd.1=aa (.inr t)))=af:=λq=>by
  obtain⟨kd,m,e⟩:=vM.1 q;obtain⟨p,mp,rfl⟩:=cB.1 m;have e:=of_decide_eq_true e;have e:=e;injection e with e;injection e with e;exact h (cB.2 ⟨p,mp,e⟩)
 rw[if_neg hn];unfold av;rw[iK]
 rfl
theorem SZ:∀ (M A:List Tb),((A++M).map (·.1)).Nodup->jB (M.map λp=>(jH p.1,aW p.2)) (av A)=av (A++M)
 |[],A,_=>by simp[jB]
 |p::M,A,h=>by
  show jB (M.map λp=>(jH p.1,aW p.2)) (putD (av A) (.inr p.1) (aW p.2))=_
  have hn:p.1∉A.map (·.1):=λm=>by
   rw[iK] at h;exact(nR.1 h).2.2 p.1 m p.1 (by simp) rfl
  rw[Tw hn,SZ M (A++[(p.1,p.2)]) (by simpa using h)]
  simp
theorem SB:∀ L:List Tb,nE (L.map λp=>dJ [.str p.1,aW p.2])=aa (L.map λp=>(jH p.1,aW p.2))
 |[]=>rfl
 |p::L=>by
  show((nE (L.map λp=>dJ [.str p.1,aW p.2])).bind λr=>aa ((jH p.1,aW p.2)::r))=_
  rw[SB L]
  rfl
theorem Xs {L:List Tb}(nd:(L.map (·.1)).Nodup):rP [.list (L.map λp=>dJ [.str p.1,aW p.2])]=aa (.dict (av L)):=by
 show((nE (L.map λp=>dJ [.str p.1,aW p.2])).bind λps=>aa (PyData.dict (jB ps [])))=_
 rw[SB,bE,show([]:List (aA×aA))=av [] from rfl,SZ L [] (by simpa using nd)]
 rfl
theorem Nj {L:List Tb}(ly:∀ p∈L,cF (.str p.1)=af){Y:List (Option aA)}(h:f Y=aa (.dict (av L))):sy f Y=aa (L.map λp=>dJ [.str p.1,aW p.2]):=by
 unfold sy;rw[h];show(if (cv (av L)&&(av L).all λkd=>cF kd.1)=af then aa ((av L).map λkd=>dJ [kd.1,kd.2]) else ae)=_
 rw[ZX,yW,if_pos (fV.2 λkd m=>by
  obtain⟨p,mp,rfl⟩:=cB.1 m;exact ly p mp)]
 unfold av;rw[dX]
 rfl
theorem EV {t:aE}:∀ {L:List Tb},t∈L.map (·.1)->∀ t',bu (iS L t R) t'=if t'=t then R else bu L t'
 |[],h,t'=>by simp at h
 |p::L,h,t'=>by
  have e:iS (p::L) t R=if p.1=t then(p.1,R)::L else p::iS L t R:=rfl
  rw[e];have ac:∀ (q:Tb) (M:List Tb),bu (q::M) t'=if q.1=t' then q.2 else bu M t':=λq M=>by
   unfold bu;rw[gD];by_cases z:q.1=t'
   .rw[decide_eq_true z,if_pos z];rfl
   .rw[decide_eq_false z,if_neg z]
  by_cases hp:p.1=t
  .rw[if_pos hp,ac,ac];by_cases q:t'=t
   .rw[if_pos q,if_pos (hp.trans q.symm)]
   .rw[if_neg q,if_neg (λz=>q (z.symm.trans hp)),if_neg (λz=>q (z.symm.trans hp))]
  .rw[if_neg hp,ac,ac];have h':t∈L.map (·.1):=by
    rcases cV.1 h with z|z
    .exact absurd z.symm hp
    .exact z
   rw[EV h'];by_cases q:t'=t
   .rw[if_pos q,if_neg (λz=>hp (z.trans q)),if_pos q]
   .rw[if_neg q,if_neg q]
def mn:List aE:=["t","a","tab","n9"]
def g7 (t:aE):Nat:=if t = "t" then 1 else if t = "a" then 2 else if t = "tab" then 3 else 4
structure BkG (c:Nat)(L:List Tb):Prop where
 nd:(L.map (·.1)).Nodup
 tab:∀ p∈L,p.1∈mn
 few:∀ p∈L,p.2.length<=c
 row:∀ p∈L,∀ r∈p.2,r.length=g7 p.1
section
variable {L:List Tb}{t:aE}{row:List Int}
theorem BkG.nil:BkG c []:=⟨Cp,λ_ m=>(by simp at m),λ_ m=>(by simp at m),λ_ m=>(by simp at m)⟩
theorem BkG.len (o:BkG c L):L.length<=4:=by
 have:=Zc o.nd λt m=>by
  obtain⟨p,mp,rfl⟩:=cB.1 m;exact o.tab p mp
 rw[cD] at this;exact this
theorem BkG.atR (o:BkG c L)(t:aE):(bu L t).length<=c/\∀ r∈bu L t,r.length=g7 t:=by
 by_cases h:bu L t=[]
 .rw[h];exact⟨by simp,λr m=>by simp at m⟩
 .obtain⟨r,mr⟩:=De _ h;obtain⟨p,mp,rfl,e⟩:=FL mr;rw[<-e];exact⟨o.few p mp,o.row p mp⟩
def fj (L:List Tb)(t:aE):List Tb:=if t∈L.map (·.1) then L else L++[(t,[])]
theorem Ij (L:List Tb)(t:aE):jg (av L) (.inr t)=av (fj L t):=by
 unfold jg fj;by_cases h:t∈L.map (·.1)
 .rw[uS h,if_pos h]
 .rw[xH,WE h,if_neg h];unfold av;rw[iK]
  rfl
theorem wG (L:List Tb)(t:aE):t∈(fj L t).map (·.1):=by
 unfold fj;by_cases h:t∈L.map (·.1)
 .rw[if_pos h];exact h
 .rw[if_neg h];simp
theorem EM (L:List Tb)(t t':aE):bu (fj L t) t'=bu L t':=by
 unfold fj;by_cases h:t∈L.map (·.1)
 .rw[if_pos h]
 .rw[if_neg h];unfold bu;rw[List.find?_append];cases e:L.find? λp=>decide (p.1=t') with
  |some p=>rfl
  |none=>
   by_cases q:t=t'
   .simp[q]
   .simp[q]
theorem BkG.sd (o:BkG c L)(ht:t∈mn):BkG c (fj L t):=by
 unfold fj;by_cases h:t∈L.map (·.1)
 .rw[if_pos h];exact o
 .rw[if_neg h];have key:∀ {Q:Tb->Prop},(∀ p∈L,Q p)->Q (t,[])->∀ p∈L++[(t,[])],Q p:=λh1 h2 p m=>by
   rcases eM.1 m with m|m
   .exact h1 p m
   .rw[cP.1 m];exact h2
  refine⟨?_,key o.tab ht,key o.few (by simp),key o.row λr m=>by simp at m⟩
  rw[iK];exact nR.2 ⟨o.nd,by simp,λa ha b hb e=>h (by simp at hb;rw[<-hb,<-e];exact ha)⟩
theorem BkG.upd (o:BkG c L)(h1:R.length<=c)(h3:∀ r∈R,r.length=g7 t):BkG c (iS L t R):=by
 refine⟨by rw[HC];exact o.nd,λp m=>?_,λp m=>?_,λp m=>?_⟩
 .have:p.1∈(iS L t R).map (·.1):=cB.2 ⟨p,m,rfl⟩;rw[HC] at this;obtain⟨q,mq,e⟩:=cB.1 this;rw[<-e];exact o.tab q mq
 .rcases GC m with m|⟨m1,m2⟩
  .exact o.few p m
  .rw[m2];exact h1
 .rcases GC m with m|⟨m1,m2⟩
  .exact o.row p m
  .rw[m1,m2];exact h3
theorem BkG.add (o:BkG c L)(hw:row.length=g7 t)(hl:(bu L t).length<c):BkG c (iS L t (bu L t++[row])):=by
 obtain⟨a1,a3⟩:=o.atR t;refine o.upd (by rw[pH];simp;lia) λr m=>?_
 rcases eM.1 m with m|m
 .exact a3 r m
 .rw[cP.1 m];exact hw
theorem BkG.out (o:BkG c L)(f:Tb->Bool):BkG c (L.filter f):=
 ⟨o.nd.sublist (List.filter_sublist.map _),λp m=>o.tab p (jR.1 m).1,λp m=>o.few p (jR.1 m).1,λp m=>o.row p (jR.1 m).1⟩
theorem Lo{P:Out->Prop}(hg:jK i Y=aa (av L))(hk:g (vS Y)=aa (.str t))(ht:t∈L.map (·.1))(hf:f (vS Y)=aa (bL row))(hl:(bu L t).length<100000)(k:P (.nx (Y.set i (aa (2,.dict (av (iS L t (bu L t++[row])))))))):Goes (tZ i .s g .s f) Y P:=⟨_,by
 have e1:eV 0 .s g Y=aa (.str t):=hk;have e2:eV 0 .s f Y=aa (bL row):=hf;unfold tZ;rw[hg,bE,e1,bE,show bK (.str t)=aa (.inr t) from rfl,bE,uS ht,bE]
 show((eV 0 .s f Y).bind λd=>if eD d=af/\((bu L t).map bL).length<sizeLine then aa (Out.nx (Y.set i (aa (2,.dict (iY (av L) (.inr t) (.list ((bu L t).map bL++[d]))))))) else ae)=_
 rw[e2,bE,if_pos ⟨SO row,oK (by rw[cD];exact nQ hl)⟩]
 have:(bu L t).map bL++[bL row]=(bu L t++[row]).map bL:=by rw[iK];rfl
 rw[this];show aa (Out.nx (Y.set i (aa (2,.dict (iY (av L) (.inr t) (aW (bu L t++[row])))))))=_;rw[AD],k⟩
theorem any_rows (r:List Int)(R:List (List Int)):((R.map bL).any λz=>bU z (bL r))=decide (r∈R):=by
 rw[List.any_map];by_cases h:r∈R
 .rw[decide_eq_true h];exact vM.2 ⟨r,h,by simp[Bj]⟩
 .rw[decide_eq_false h,Dg];intro x mx;simp only[Function.comp,Bj,decide_eq_true_eq];exact λe=>h (e ▸ mx)
theorem Va{P:Out->Prop}{f0:EF}{m2:Md}{t2:BF}(hL:L.length<=4)(hg:jK i Y=aa (av L))(h0:f0 (vS Y)=aa (bL row))(hk:g (vS Y)=aa (.str t))
  (h1:row∈bu L t->P (.nx (Y.set i (aa (2,.dict (av (fj L t))))))) (h2:row∉bu L t->∃ b,bV m2 t2 (Y.set i (aa (2,.dict (av (fj L t)))))=aa b/\(b=af->Goes F (Y.set i (aa (2,.dict (av (fj L t))))) P)/\(b=ag->P (.nx (Y.set i (aa (2,.dict (av (fj L t)))))))) :
  Goes (rR i .s f0 .s g m2 t2 F) Y P:=by
 have e0:eV 0 .s f0 Y=aa (bL row):=h0;have e1:eV 0 .s g Y=aa (.str t):=hk;have lk:bQ (av (fj L t)) (.inr t)=aa (aW (bu L t)):=by rw[uS (wG L t),EM]
 have e:rR i .s f0 .s g m2 t2 F Y=if row∈bu L t then aa (.nx (Y.set i (aa (2,.dict (av (fj L t)))))) else(bV m2 t2 (Y.set i (aa (2,.dict (av (fj L t)))))).bind λb=>if b=af then F (Y.set i (aa (2,.dict (av (fj L t))))) else aa (.nx (Y.set i (aa (2,.dict (av (fj L t)))))):=by
  unfold rR;rw[e0,bE,hg,bE,e1,bE,show bK (.str t)=aa (.inr t) from rfl,bE,Ij,lk]
  show(if (av L).length<sizeLine/\(cS (bL row)&&noDicts ((bu L t).map bL))=af then _ else ae)=_
  rw[if_pos ⟨oK (by unfold av;rw[cD];lia),by rw[RX,JC];rfl⟩,any_rows]
  by_cases h:row∈bu L t
  .rw[if_pos (decide_eq_true h),if_pos h]
  .rw[if_neg (by rw[decide_eq_false h];exact kE),if_neg h]
 by_cases h:row∈bu L t
 .rw[if_pos h] at e;exact⟨_,e,h1 h⟩
 .rw[if_neg h] at e;obtain⟨b,eb,k1,k2⟩:=h2 h;rw[eb,bE] at e;cases b with
  |true=>
   rw[if_pos rfl] at e;obtain⟨o,eo,po⟩:=k1 rfl;exact⟨o,e.trans eo,po⟩
  |false=>
   rw[if_neg kE] at e;exact⟨_,e,k2 rfl⟩
theorem Mu {Y:List (Option aA)}{fd fk fc:EF}(hd:fd Y=aa (.dict (av L)))(hk:fk Y=aa (.str t))(hc:fc Y=aa (.int c))(ht:t∈L.map (·.1)):ak (ah je (aM bR (aD (ah aq fd fk) aH)) fc) Y=aa (decide ((bu L t).length<c)):=by
 refine cL (aN (aY (aZ (aN hd hk (uS ht)) rfl) ((pU _).trans (by rw[cD]))) hc ?_)
 show aa (hV (decide (((bu L t).length:Int)<c)))=_
 congr 2
 rw[decide_eq_decide]
 lia
theorem BkG.bk (o:BkG c L)(hc:c<64):Bk (av L) (bu L) g7:=K8 (λt=>by unfold g7;grind) λp m=>⟨CQ (o.few p m) hc,o.row p m⟩
end
theorem PU:∀ {t:aE},t∈mn->cF (.str t)=af:=by rw[0]
theorem pR{m:Md}{t:BF}(h:bV m t Y=aa ag):bp m t F cK Y=aa (.nx Y):=by
 unfold bp;rw[h]
 rfl
theorem ZF (t:eI):noDicts (t.map aW)=af/\cX (t.map aW)<=3:=by
 refine⟨uV λd m=>?_,sH λd m=>?_⟩
 .obtain⟨R,_,rfl⟩:=cB.1 m;exact JC R
 .obtain⟨R,_,rfl⟩:=cB.1 m;have:cX (R.map bL)<=2:=sH λt m=>by
   obtain⟨r,_,rfl⟩:=cB.1 m;exact SS r
  show cX (R.map bL)+1<=3
  lia
theorem GY:∀ t:eI,mH (t.map aW) (t.map aW)=af
 |[]=>by simp[mH]
 |R::t=>by
  rw[cY,mH,UJ,GY t]
  rfl
theorem Gn (t:eI):cn (.list (t.map aW)) (.list (t.map aW))=aa (.bool ag):=by
 obtain⟨h1,h2⟩:=ZF t;have ok:cS (.list (t.map aW))=af:=by
  show(noDicts (t.map aW)&&decide (cX (t.map aW)+1<=60))=af;rw[h1,decide_eq_true ()]
  rfl
 unfold cn;rw[ok,yX,if_pos rfl,show bU (.list (t.map aW)) (.list (t.map aW))=mH (t.map aW) (t.map aW) by simp[bU],GY]
 rfl
theorem Js (t:eI):cn (.tuple [.str "rows",cw t]) (.tuple [.str "rows",cw t])=aa (.bool ag):=by
 obtain⟨h1,h2⟩:=ZF t;have ok:cS (.tuple [.str "rows",cw t])=af:=by
  have h3:cX [.str "rows",cw t]<=4:=sH λd m=>by
   rcases cV.1 m with rfl|m
   .exact eA _
   .rw[cP.1 m];show cX (t.map aW)+1<=4
    lia
  show((af&&(noDicts (t.map aW)&&af))&&decide (cX [.str "rows",cw t]+1<=60))=af;rw[h1,decide_eq_true ()]
  rfl
 unfold cn;rw[ok,yX,if_pos rfl,show bU (.tuple [.str "rows",cw t]) (.tuple [.str "rows",cw t])=mH (t.map aW) (t.map aW) by simp[bU,mH,cw],GY]
 rfl
theorem zM {a b:BF}{Y:List (Option aA)}(h:a Y=aa ag)(h2:b Y=aa ag):m3 a b Y=aa ag:=by
 unfold m3;rw[h];exact h2
theorem Yb {B:aE->List (List Int)}(h:∀ t,(B t).length<=m)(a:uD)(row:List Int):lM B a row=.none\/lM B a row=.tuple [.str "head"]\/∃ t:eI,lM B a row=.tuple [.str "rows",cw t]/\t.length=a.2.length/\∀ R∈t,R.length<=m:=by
 unfold lM;split
 .exact .inr (.inl rfl)
 .rename_i kn _;unfold tJ;split
  .obtain⟨_,l,s⟩:=ZC (B:=B) (ls:=a.2.map (gX kn));refine .inr (.inr ⟨_,rfl,by rw[l,cD],λR mR=>?_⟩)
   obtain⟨k,hk,rfl⟩:=sY mR;have:=cM (s k).length_le (Bo h k)
   rwa [nW,hX hk] at this
  .exact .inl rfl
theorem PF{Y:List (Option aA)}(h:f Y=aa (.tuple [d,.list ds])):qO (ah aq f (eC (.int 1))) (oS (eC (.int 1))) oN Y=aa (.list (ds.drop 1)):=by
 cases ds with
 |nil=>exact(FJ (aN h rfl rfl) rfl rfl).trans (by simp[cutD])
 |cons x ds=>exact(FJ (l:=aa ((1:Nat):Int)) (aN h rfl rfl) rfl rfl).trans (by rw[RS 1 (by simp)])
section
variable {L:List Tb}(o:BkG c L)(i9:1<=c)(hc:c<64){a:uD}(ha:a.1.length<=6)(K:Lok a.2)(hm:c^a.2.length<=4096)(hW:∀ l∈a.2,g7 l.1=l.2.length)(row:List Int)
include o i9 hc ha K hm hW
theorem RE:uY [.dict (av L),iB a,tI row]=aa (.bool af):=by
 have h5:=λt=>(o.atR t).1
 have ew:=Pf (o.bk hc) i9 h5 ha K hm hW row;have ep:=Xm (o.bk hc) i9 h5 ha K hm row;have pc:=Yb h5 a row;have n5:=K.n4;generalize lM (bu L) a row=d at *;have:∃ d,uY [.dict (av L),iB a,tI row]=aa d/\d=.bool af:=by
  rw[7];have hl:=o.len;refine cA (aY rfl ew) (by simp) ?_
  have e:=fZ (cap:=[ae,ae]) (fi:=sy (aB 0)) (T:=pq 0 1) (t:=cI) (f:=dD (aD (aB 0) (aD (aM rC (aD (aB 1) aH)) aH))) (Y:=vS [s0 (.dict (av L)),s0 (iB a),s0 (tI row),s0 d,ae,ae,ae,ae]) (λ_=>af) (λp=>dJ [.str p.1,aW p.2]) (Nj (λp m=>PU (o.tab p m)) rfl) () λp mp=>⟨[aa (.str p.1),aa (aW p.2)],rfl,rfl,λ_=>mT (aZ rfl (aZ (aY rfl rfl) rfl))⟩
  rw[kR.2 λ_ _=>rfl] at e
  refine cA (aY (aZ e rfl) (Xs o.nd)) (by simp) ?_
  refine dH (λY'=>∃ x5 x6 x7:L2.Slot,Y'=[s0 (.dict (av L)),s0 (iB a),s0 (tI row),s0 d,s0 (.dict (av L)),x5,x6,x7]) ?_ λ_ ⟨x5,x6,x7,h⟩=>cW rfl ⟨_,rfl,rfl⟩
  refine uL (λ_ Y'=>∃ x5 x6 x7:L2.Slot,Y'=[s0 (.dict (av L)),s0 (iB a),s0 (tI row),s0 d,s0 (.dict (av L)),x5,x6,x7]) (c9 (rV (n:=2) rfl ())) ⟨ae,ae,ae,rfl⟩ ?_ λ_ ⟨x5,x6,x7,h⟩=>⟨_,rfl,x5,x6,x7,h⟩
  rintro k _ hk ⟨x5,x6,x7,rfl⟩;refine⟨[s0 (.dict (av L)),s0 (iB a),s0 (tI row),s0 d,s0 (.dict (av L)),s0 (.int k),x6,x7],rfl,?_⟩;refine cA (n:=3) (aY rfl ep) (by simp) ?_
  have same:∀ x:L2.Slot,ak (ah (qZ af) (aB 0) (aB 4)) (vA [s0 (.dict (av L)),s0 (iB a),s0 (tI row),s0 d,s0 (.dict (av L)),s0 (.int k),aa (3,d),x])=aa ag:=λx=>cL (aN rfl rfl (Kv o.nd))
  rcases pc with rfl|rfl|⟨t,rfl,tl,tR⟩
  .refine eZ (pR (zM (same x7) rfl)) (eZ (pR rfl) ?_);exact fP rfl (gH ⟨_,.inl rfl,_,_,_,rfl⟩)
  .refine eZ (pR (zM (same x7) rfl)) (eZ (pR rfl) ?_);exact fP rfl (gH ⟨_,.inl rfl,_,_,_,rfl⟩)
  .refine eZ (pR (zM (same x7) rfl)) (eZ (pR (sC (x:=af) (y:=ag) rfl λ_=>zM rfl (cL (aN rfl rfl (Js t))))) ?_)
   refine dZ rfl ?_;refine dH (λY'=>∃ (ds:List aA) (x7:L2.Slot),ds.drop 1=(t.map aW).drop 1/\ds.length=t.length/\Y'=[s0 (.dict (av L)),s0 (iB a),s0 (tI row),s0 (.tuple [.str "rows",cw t]),s0 (.dict (av L)),s0 (.int k),aa (3,.tuple [.str "rows",.list ds]),x7]) ?_ ?_
   .cases t with
    |nil=>exact⟨_,rfl,_,rfl,[],ae,rfl,rfl,rfl⟩
    |cons R t=>
     refine⟨_,?_,_,rfl,aW (R++[[1]])::t.map aW,ae,rfl,by simp,rfl⟩
     have:=tR R bO;refine(if_pos ⟨rfl,oK (by rw[cD];lia),nofun,by simp⟩).trans ?_
     rw[show aW (R++[[1]])=.list (R.map bL++[bL [1]]) by rw[aW,iK];rfl]
     rfl
   rintro _ ⟨ds,y7,hd,bh,rfl⟩;refine eZ (pR (cL (aN (PF rfl) (PF rfl) ?_))) ?_
   .rw[hd,<-Cw];exact Gn _
   .refine⟨_,?_,_,.inl rfl,s0 (.int k),ae,y7,rfl⟩;exact if_pos ⟨rfl,oK ()⟩
 rw[2]
end
theorem Jf {a b:Int}(h:a.natAbs<2^64):mO (.int a) (.int b)=aa (.int (a*b)):=by
 show(if (a.natAbs<2^64\/b.natAbs<2^64)\/lH a+lH b<=134217728 then aa (bF (a*b)) else ae)=_
 rw[if_pos (.inl (.inl h))]
theorem KJ {a b:Int}(h:b.natAbs<2^64):mO (.int a) (.int b)=aa (.int (a*b)):=by
 show(if (a.natAbs<2^64\/b.natAbs<2^64)\/lH a+lH b<=134217728 then aa (bF (a*b)) else ae)=_
 rw[if_pos (.inl (.inr h))]
theorem QI{i:Int}(a:0<=i)(b:i<ns.length):∃ c,aq (lI ns) (.int i)=aa (.int c)/\c∈ns:=by
 obtain⟨j,rfl⟩:=Dh a;have hj:j<ns.length:=()
 exact⟨ns[j],AJ (hX hj),lG hj⟩
theorem YY (ns:List Int):bR [lI ns]=aa (.int ns.length):=by simp[bR]
theorem QN (ns:List Int){k:Int}(h0:0<=k)(h1:k<=1000):∃ c,fQ [lI ns,.int k]=aa (.int c):=by
 have:∃ d,fQ [lI ns,.int k]=aa d/\∃ c,d=.int c:=by
  rw[7];have hk:k.natAbs<2^64:=()
  have xo:mO (.int k) (.int k)=aa (.int (k*k)):=Jf hk;by_cases hl:k<(ns.length:Int)
  .obtain⟨c,e,_⟩:=QI h0 hl;exact uK (dZ (by simp[bx,aO,bC,bT,jA,bp,gE,NB,lW,rL,hZ,frz,cK,eV,bV,aV,vS,vA,ah,dz,aB,eC,aM,dD,cU,aD,aH,ak,qX,fL,m3,i5,tM,A2,NS,eY,KD,A1,dq,getL,kT,outD,ax,itemsOf,dE,mS,gF,cJ,dY,tQ,m4,kh,je,A4,fy,A3,bR,fD,kU,j5,gG,rC,MY,ck,cn,cS,noDict,noDicts,mI,cX,bU,fO,eD,cI,gB,hl]) (cW (aN rfl rfl e) ⟨_,rfl,_,rfl,c,rfl⟩))
  .refine eZ (pT (by simp[bx,aO,bC,bT,jA,bp,gE,NB,lW,rL,hZ,frz,cK,eV,bV,aV,vS,vA,ah,dz,aB,eC,aM,dD,cU,aD,aH,ak,qX,fL,m3,i5,tM,A2,NS,eY,KD,A1,dq,getL,kT,outD,ax,itemsOf,dE,mS,gF,cJ,dY,tQ,m4,kh,je,A4,fy,A3,bR,fD,kU,j5,gG,rC,MY,ck,cn,cS,noDict,noDicts,mI,cX,bU,fO,eD,cI,gB,hl])) ?_
   have e2:bV .s (ak (ah ck (aM bR (aD (aB 0) aH)) (eC (.int 0)))) [s0 (lI ns),s0 (.int k)]=aa (decide ((ns.length:Int)=0)):=cL (aN (aY rfl (YY ns)) rfl (uN _ _));by_cases hz:(ns.length:Int)=0
   .exact uK (dZ (e2.trans (by rw[decide_eq_true hz])) (cW (aN (aN (aN rfl rfl xo) rfl (KJ nofun)) rfl rfl) ⟨_,rfl,_,rfl,_,rfl⟩))
   .refine eZ (pT (e2.trans (by rw[decide_eq_false hz]))) ?_
    have pj:(0:Int)<ns.length:=()
    obtain⟨v,e,_⟩:=QI (uF _ pj).1 (uF _ pj).2;exact cW (aN (aN (aN rfl (aN rfl (aY rfl (YY ns)) (nY k ns.length ())) e) (aN rfl rfl rfl) (KJ ())) (aN (aN rfl rfl xo) rfl (KJ nofun)) rfl) ⟨_,rfl,_,rfl⟩
 obtain⟨d,e,c,rfl⟩:=this;exact⟨c,e⟩
theorem QJ (c:Int){k:Int}(h0:0<=k)(h1:k<=1000)(hn:0<n):∃ v:Nat,xS [.int c,.int k,.int n]=aa (.int v)/\v<n:=by
 have:∃ d,xS [.int c,.int k,.int n]=aa d/\∃ v:Nat,d=.int v/\v<n:=by
  rw[7];have b:=uF c (show(0:Int)<((2147483629:Nat):Int) by lia)
  have xo:=Int.mul_le_mul h1 h1 h0 ()
  have KK:=Int.mul_nonneg h0 h0;have mk:gF (.int k) (.int k)=aa (.int (k*k)):=oE ()
  obtain⟨A,hA⟩:∃ A:Int,A=c%((2147483629:Nat):Int)+5*k+1:=⟨_,rfl⟩;obtain⟨B,hB⟩:∃ B:Int,B=48271+k*k:=⟨_,rfl⟩;generalize k*k=q at *;have K0:0<=A*B/\A*B<=2200000000*2000000:=⟨Int.mul_nonneg () (),Int.mul_le_mul () () () ()⟩
  refine cA (d:=.int (A*B)) (aN (aN (aN (aN rfl rfl (nY c 2147483629 ())) (aN rfl rfl (oE nofun)) rfl) rfl (by rw[hA];rfl)) (aN rfl (aN rfl rfl mk) (by rw[hB];rfl)) (oE ())) (by simp) ?_
  generalize A*B=N at K0;have bd:=uF (N*N%((2147483647:Nat):Int)) (show(0:Int)<(n:Int) by lia)
  obtain⟨v,ev⟩:=Dh bd.1;exact cW (aN (aN (aN rfl rfl (oE ())) rfl (nY _ 2147483647 ())) rfl ((nY _ n hn).trans (by rw[ev]))) ⟨_,rfl,v,rfl,()⟩
 obtain⟨d,e,c,rfl,h⟩:=this;exact⟨c,e,h⟩
def Cl (ns:List Int)(C:Nat->Int):Prop:=∀ k:Nat,k<=1000->fQ [lI ns,.int k]=aa (.int (C k))
theorem Gi (ns:List Int):∃ C,Cl ns C:=⟨λk=>if h:k<=1000 then(QN ns (k:=k) () ()).choose else 0,λk h=>by
 show _=aa (bF (if h:k<=1000 then _ else 0))
 rw[dif_pos h];exact(QN ns () ()).choose_spec⟩
theorem Cl.at(h:Cl ns C){k:Nat}(hk:k<=1000){Y:List (Option aA)}(e0:Y[0]?.join=aa (lI ns))(e:f Y=aa (.int k)):aM fQ (aD (aB 0) (aD f aH)) Y=aa (.int (C k)):=aY (aZ e0 (aZ e rfl)) (h k hk)
theorem add_n (a b:Nat):dE (.int a) (.int b)=aa (.int ((a+b:Nat):Int)):=by
 congr 2
theorem iE (c:Int)(h:0<n):∃ u:Nat,cJ (.int c) (.int n)=aa (.int u)/\u<n/\c%(n:Int)=u:=by
 have b:=uF c (show(0:Int)<(n:Int) by lia)
 obtain⟨u,eu⟩:=Dh b.1;exact⟨u,(nY c n h).trans (by rw[eu]),(),eu⟩
theorem NY {c n:Int}(h:0<n):cJ (.int c) (.int n)=aa (.int (c%n)):=by
 show(if 0<n then aa (bF (c%n)) else ae)=_
 rw[if_pos h]
def nA:List aE:=["a","ab","abc","abcd","b","bc","bcd","c","cd","d"]
def nB:List aE:=["n9","n8","n7","n6","n5","n4","n3","n2","n1","n0"]
def jf (c:Int):List aE:=if c%2=0 then nA else nB
theorem ZE (c:Int):(jf c).length=10:=by unfold jf;split<;>rfl
theorem Jj (c:Int):∀ z∈jf c,cF (.str z)=af:=by
 have:(∀ z∈nA,cF (.str z)=af)/\∀ z∈nB,cF (.str z)=af:=by rw[0]
 unfold jf;split
 .exact this.1
 .exact this.2
theorem Kw:∀ {w:Nat},1<=w->w<=4->∃ t∈mn,g7 t=w/\aq (.list [.str "t",.str "a",.str "tab",.str "n9"]) (.int ((w:Int)-1))=aa (.str t)
 |1,_,_=>⟨"t",nofun,nofun,rfl⟩
 |2,_,_=>⟨"a",nofun,nofun,rfl⟩
 |3,_,_=>⟨"tab",nofun,nofun,rfl⟩
 |4,_,_=>⟨"n9",nofun,nofun,rfl⟩
def ij (c:Int)(x:aG):Prop:=(∃ i,x=.inl i)\/∃ z∈jf c,x=.inr z
structure LnG (c:Int)(l:Ln):Prop where
 wd:g7 l.1=l.2.length
 tab:l.1∈mn
 trm:∀ x∈l.2,ij c x
theorem ZS (t:aE):1<=g7 t/\g7 t<=4:=by unfold g7;grind
theorem LnG.ok {c:Int}(h:LnG c l):fX l:=⟨by have:=(ZS l.1).2;have:=h.wd;lia,λx m=>by
 rcases h.trm x m with⟨i,rfl⟩|⟨z,mz,rfl⟩
 .rfl
 .exact Jj c z mz⟩
theorem PZ{P:Out->Prop}{j:Int}{jn:Nat}(h:f (vS Y)=aa d)(hg:getL i Y=aa ds)(hk:eV 0 .a g Y=aa (.int j))(hj:gf ds.length j=aa jn)(k:P (.nx (Y.set i (aa (1,.list (ds.set jn d)))))):Goes (lW i .s f .a g) Y P:=⟨_,by
 unfold lW;rw[show eV 0 .s f Y=aa d from h,bE,hg,bE,hk,bE]
 show((gf ds.length j).bind λj=>aa (Out.nx (Y.set i (aa (1,.list (ds.set j d))))))=_
 rw[hj]
 rfl,k⟩
theorem AK {xs ys:List aA}(h:xs.length+ys.length<=100000):oV (.list xs) (.list ys)=aa (.list (xs++ys)):=if_pos (lB h)
def tf:aA->Bool
 |.int i=>decide (0<=i/\i<6)
 |_=>ag
def ox:Option aA->Bool
 |some (.list ds)=>decide (ds.length<=4)&&ds.all tf
 |_=>ag
theorem Az:∀ ds:List aA,ds.all tf=af->∃ cs:List Nat,ds=cs.map (λ(c:Nat)=>bF c)/\∀ c∈cs,c<6
 |[],_=>⟨[],rfl,λ_ m=>nomatch m⟩
 |d::ds,h=>by
  obtain⟨h1,h2⟩:=iM.1 (show(tf d&&ds.all tf)=af from h)
  obtain⟨cs,rfl,hc⟩:=Az ds h2;cases d with
  |int i=>
   have:=of_decide_eq_true h1;exact⟨i.toNat::cs,by rw[cY,Int.toNat_of_nonneg this.1],λc m=>(cV.1 m).elim (λe=>()) (hc c)⟩
  |_=>cases h1
theorem Te {t k:Nat}(ht:t<6)(hk:k<n)(hn:n<=5):∃ cs:List Nat,BQ [.int t,.int k,.int n]=aa (lN cs)/\cs.length<=4/\∀ c∈cs,c<6:=by
 have:∀ (t n k:_root_.Fin 6),k.val<n.val->ox (BQ [.int (t.val:Nat),.int (k.val:Nat),.int (n.val:Nat)])=af:=by rw[0]
 have h:=this ⟨t,ht⟩ ⟨n,()⟩ ⟨k,()⟩ hk
 generalize BQ [.int t,.int k,.int n]=o at h;cases o with
 |none=>cases h
 |some d=>
  cases d with
  |list ds=>
   obtain⟨h1,h2⟩:=iM.1 (show(decide (ds.length<=4)&&ds.all tf)=af from h)
   obtain⟨cs,rfl,hc⟩:=Az ds h2;exact⟨cs,rfl,by simpa using of_decide_eq_true h1,hc⟩
  |_=>cases h
section
variable (hC:Cl ns C)
include hC
theorem uP(hn:n<1000):∃ v,oR [lI ns,.int n]=aa (.int v):=by
 have:∃ d,oR [lI ns,.int n]=aa d/\∃ v,d=.int v:=by
  rw[7];refine cA (hC.at () rfl rfl) (by simp) ?_
  have d2:ah dY (aB 2) (eC (.int 2)) (vS [s0 (lI ns),s0 (.int n),s0 (.int (C 1))])=aa (.int (C 1/(2:Nat))):=aN rfl rfl (kW _ 2 ())
  have t1:bV .s (ak (ah ck (ah cJ (aB 2) (eC (.int 2))) (eC (.int 0)))) [s0 (lI ns),s0 (.int n),s0 (.int (C 1))]=aa (decide (C 1%(2:Nat)=0)):=cL (aN (aN rfl rfl (nY _ 2 ())) rfl (uN _ _))
  by_cases h:C 1%(2:Nat)=0
  .have sg:∃ v,aq (.list [.int (2*(n:Int)-1),.int (3-(n:Int))]) (.int (C 1/(2:Nat)%2))=aa (.int v):=⟨if C 1/(2:Nat)%2=0 then 2*(n:Int)-1 else 3-(n:Int),(Ir _ _ _).trans (by split<;>rfl)⟩
   obtain⟨v,sg⟩:=sg;exact uK (dZ (t1.trans (by rw[decide_eq_true h])) (cW (aN (wF (aZ (aN (aN rfl rfl (oE nofun)) rfl rfl) (aZ (aN rfl rfl rfl) rfl))) (aN d2 rfl (NY nofun)) sg) ⟨_,rfl,_,rfl,_,rfl⟩))
  .refine eZ (pT (t1.trans (by rw[decide_eq_false h]))) ?_
   exact cW (aN (aN (aN (aN d2 (aN (aN rfl (aN rfl rfl (Bd ())) (oE nofun)) rfl rfl) (NY (by rw[0]))) (aN rfl rfl (Bd ())) rfl) rfl rfl) rfl rfl) ⟨_,rfl,_,rfl⟩
 obtain⟨d,e,v,rfl⟩:=this;exact⟨v,e⟩
theorem TQ:BO [lI ns]=aa (lZ (jf (C 2))):=by
 have:∃ d,BO [lI ns]=aa d/\d=lZ (jf (C 2)):=by
  rw[7];have t1:bV .s (ak (ah ck (ah cJ (aM fQ (aD (aB 0) (aD (eC (.int 2)) aH))) (eC (.int 2))) (eC (.int 0)))) [s0 (lI ns)]=aa (decide (C 2%(2:Nat)=0)):=cL (aN (aN (hC.at () rfl rfl) rfl (nY _ 2 ())) rfl (uN _ _))
  unfold jf;by_cases h:C 2%(2:Nat)=0
  .exact uK (dZ (t1.trans (by rw[decide_eq_true h])) (cW rfl ⟨_,rfl,_,rfl,by rw[if_pos (show C 2%2=0 from h)];rfl⟩))
  .exact eZ (pT (t1.trans (by rw[decide_eq_false h]))) (cW rfl ⟨_,rfl,by rw[if_neg (show ¬ C 2%2=0 from h)];rfl⟩)
 rw[2]
theorem VG (c:Int):∃ kn:Kn,BR [lI ns,.int c]=aa (ar kn)/\∀ z∈jf (C 2),∃ u,bB kn z=aa u:=by
 have:∃ d,BR [lI ns,.int c]=aa d/\∃ kn:Kn,d=ar kn/\∀ z∈jf (C 2),∃ u,bB kn z=aa u:=by
  rw[7];refine cA rfl (by simp) ?_
  have nl:=ZE (C 2);generalize hN:jf (C 2)=N at *;have en:=TQ hC;rw[hN] at en;refine dH (λY'=>∃ (kn:Kn) (x y:L2.Slot),(∀ z∈N,∃ u,bB kn z=aa u)/\Y'=[s0 (lI ns),s0 (.int c),aa (1,ar kn),x,y]) ?_ ?_
  .refine iN (xs:=cQ N.length) (q:=λk=>qQ k (dB (N.getD k ""))) (λ_ _=>Unit.unit) (λi (_:Unit) Y'=>∃ (kn:Kn) (x y:L2.Slot),kn.length<=i/\(∀ z∈N.take i,∃ u,bB kn z=aa u)/\Y'=[s0 (lI ns),s0 (.int c),aa (1,ar kn),x,y]) (b0:=Unit.unit) (c9 (Xi dB "" (aY rfl en))) ⟨[],ae,ae,bJ _,(λ_ h=>nomatch h),rfl⟩ ?_ ?_
   .rintro i j _ _ hi ⟨kn,x,y,hl,hm,rfl⟩;obtain⟨hj,e⟩:=cR.1 hi;rw[yK] at hj;rw[List.getElem_range] at e;subst e;refine⟨[s0 (lI ns),s0 (.int c),aa (1,ar kn),s0 (.int i),s0 (.str (N.getD i ""))],rfl,?_⟩;obtain⟨v,ev,hv⟩:=QJ c (k:=i) () () (n:=3) ()
    obtain⟨u,eu⟩:=uP hC (n:=v) ()
    refine Bi (aY (aZ rfl (aZ (aY rfl ev) rfl)) eu) rfl rfl rfl (by unfold DN;simp;lia) ⟨_,.inl rfl,putN kn (N.getD i "") u,_,_,cM (QZ _ _ _) (),λz m=>?_,by rw[An];rfl⟩
    rw[IA];split
    .exact⟨_,rfl⟩
    .rw[sV,getD_some (show aE from "") hj] at m
     rcases eM.1 m with m|m
     .exact hm z m
     .exact absurd (cP.1 m) ‹_›
   .rintro _ ⟨kn,x,y,_,hm,rfl⟩;rw[yK,pG] at hm;exact⟨_,rfl,kn,x,y,hm,rfl⟩
  rintro _ ⟨kn,x,y,hm,rfl⟩;exact wU rfl ⟨_,rfl,kn,rfl,hm⟩
 obtain⟨d,e,kn,rfl,h⟩:=this;exact⟨kn,e,h⟩
end
theorem NJ {N:List aE}(hl:N.length=10)(h:i<10):∃ z∈N,aq (lZ N) (.int i)=aa (.str z):=Ef ()
section
variable (hC:Cl ns C)
include hC
theorem Xn:∃ ls:List Ln,JI [lI ns]=aa (ay ls)/\ls.length<=5/\∀ l∈ls,LnG (C 2) l:=by
 have:∃ d,JI [lI ns]=aa d/\∃ ls:List Ln,d=ay ls/\ls.length<=5/\∀ l∈ls,LnG (C 2) l:=by
  rw[7];refine cA (hC.at (k:=0) () rfl rfl) (by simp) (cA (aY rfl (TQ hC)) (by simp) ?_)
  generalize C 0=f0;obtain⟨n,en,hn,_⟩:=iE (f0/(6:Nat)) (n:=6) ()
  refine cA (aN (aN rfl rfl (kW _ 6 ())) rfl en) (by simp) (cA rfl (by simp) ?_)
  have hN:=ZE (C 2);have hM:∀ z∈jf (C 2),ij (C 2) (.inr z):=λz m=>.inr ⟨z,m,rfl⟩
  generalize jf (C 2)=N at *;obtain⟨f6,gw,K1,_⟩:=iE f0 (n:=6) ()
  let R:List Ln->List L2.Slot->aP:=λls r=>s0 (lI ns)::s0 (.int f0)::s0 (lZ N)::s0 (.int n)::aa (1,.list (ls.map bG))::r
  refine dH (λY'=>∃ (ls:List Ln) (x5 x6 x7 x8 x9 bm b8:L2.Slot),ls.length<=5/\(∀ l∈ls,LnG (C 2) l)/\Y'=R ls [x5,x6,x7,x8,x9,bm,b8]) ?_ ?_
  .refine uL (λi Y'=>∃ (ls:List Ln) (x5 x6 x7 x8 x9 bm b8:L2.Slot),ls.length=i/\(∀ l∈ls,LnG (C 2) l)/\Y'=R ls [x5,x6,x7,x8,x9,bm,b8]) (c9 (rV rfl ())) ⟨[],ae,ae,ae,ae,ae,ae,ae,rfl,(λ_ h=>nomatch h),rfl⟩ ?_ ?_
   .rintro k _ hk ⟨ls,x5,x6,x7,x8,x9,bm,b8,hl,ie,rfl⟩;refine⟨R ls [s0 (.int k),x6,x7,x8,x9,bm,b8],rfl,?_⟩;refine cA (hC.at () rfl (aN rfl rfl (add_n 3 k))) (by simp[R]) ?_
    generalize C (3+k)=c;obtain⟨q,eq,hq,_⟩:=iE ((k:Int)+f0/(30:Nat)) (n:=n) ()
    obtain⟨cs,ec,lc,hc⟩:=Te (t:=f6) K1 hq ()
    refine cA (aY (aZ (aN rfl rfl gw) (aZ (aN (aN rfl (aN rfl rfl (kW f0 30 ())) rfl) rfl eq) (aZ rfl rfl))) ec) (by simp[R]) (cA rfl (by simp[R]) ?_)
    obtain⟨u,eu,hu,_⟩:=iE c (n:=4) ()
    obtain⟨w,ew,w1,w4,wc⟩:∃ w:Nat,tT [.int cs.length,.int ((1+u:Nat):Int)]=aa (.int w)/\1<=w/\w<=4/\cs.length<=w:=by
     refine⟨max cs.length (1+u),?_,(),(),()⟩
     show aa (bF (if ((1+u:Nat):Int) > (cs.length:Int) then((1+u:Nat):Int) else(cs.length:Int)))=_
     congr 2
     split<;>lia
    let A:List aG->L2.Slot->L2.Slot->L2.Slot->aP:=λks x9 bm b8=>R ls [s0 (.int k),s0 (.int c),s0 (lN cs),aa (1,lK ks),x9,bm,b8]
    have z9:∀ Y:List (Option aA),aB 7 Y=aa (lN cs)->aM bR (aD (aB 7) aH) Y=aa (.int cs.length):=λY h=>aY (aZ h rfl) (FB cs)
    refine dH (λY'=>∃ (ks:List aG) (x9 bm b8:L2.Slot),ks.length=w/\(∀ x∈ks,ij (C 2) x)/\Y'=A ks x9 bm b8) ?_ ?_
    .refine uL (λi Y'=>∃ (ks:List aG) (x9 bm b8:L2.Slot),ks.length=i/\(∀ x∈ks,ij (C 2) x)/\Y'=A ks x9 bm b8) (c9 (rV (aZ (aY (aZ (z9 _ rfl) (aZ (aN rfl (aN rfl rfl eu) (add_n 1 u)) rfl)) ew) rfl) ())) ⟨[],x9,bm,b8,rfl,(λ_ h=>nomatch h),rfl⟩ ?_ ?_
     .rintro j _ hj ⟨ks,x9,bm,b8,gs,j4,rfl⟩;refine⟨A ks (s0 (.int j)) bm b8,rfl,?_⟩;have e4:gF (.int 4) (.int k)=aa (.int ((4*k:Nat):Int)):=(oE nofun).trans (by rw[MK];rfl)
      refine cA (hC.at () rfl (aN (aN rfl (aN rfl rfl e4) (add_n 8 _)) rfl (add_n _ j))) (by simp[A,R]) ?_
      generalize C (8+4*k+j)=v;refine cA (d:=lN (cs++[5+k])) (aN rfl (wF (aZ (aN rfl rfl (add_n 5 k)) rfl)) ((AK (by simp;lia)).trans (by rw[lN,iK];rfl))) (by simp[A,R]) ?_
      refine dH (λY'=>∃ own:List Nat,0<own.length/\(∀ c∈own,c<10)/\Y'=A ks (s0 (.int j)) (s0 (.int v)) (s0 (lN own))) ?_ ?_
      .have t0:bV .s (ak (ah ck (ah cJ (aB 1) (eC (.int 6))) (eC (.int 0)))) (A ks (s0 (.int j)) (s0 (.int v)) (s0 (lN (cs++[5+k]))))=aa (decide (f6=0)):=cL (aN (aN rfl rfl gw) rfl (oy f6 0));by_cases h:f6=0
       .exact dZ (t0.trans (by rw[decide_eq_true h])) (qB rfl (by simp[A,R]) ⟨_,rfl,[0,1,2,3],nofun,nofun,rfl⟩)
       .refine fP (t0.trans (by rw[decide_eq_false h])) (gH ⟨_,rfl,cs++[5+k],by simp,λy my=>?_,rfl⟩)
        rcases eM.1 my with r|r
        .have:=hc y r;lia
        .rw[cP.1 r];lia
      rintro _ ⟨own,ol,oc,rfl⟩;have fin:∀ {t:aG} {f:EF},f (vS (A ks (s0 (.int j)) (s0 (.int v)) (s0 (lN own))))=aa (kD t)->ij (C 2) t->Goes (gE 8 .s f) (A ks (s0 (.int j)) (s0 (.int v)) (s0 (lN own))) λo=>∃ Y2,(o=.nx Y2\/o=.ct Y2)/\∃ (ks:List aG) (x9 bm b8:L2.Slot),ks.length=j+1/\(∀ x∈ks,ij (C 2) x)/\Y2=A ks x9 bm b8:=λ{t f} h ht=>
       qA h rfl (by simp;lia) ⟨_,.inl rfl,ks++[t],s0 (.int j),s0 (.int v),s0 (lN own),by simp[gs],λy my=>by
        rcases eM.1 my with r|r
        .exact j4 y r
        .rw[cP.1 r];exact ht,by simp[A,R,lK]⟩
      have t4:bV .s (ak (ah ck (ah cJ (aB 10) (eC (.int 4))) (eC (.int 0)))) (A ks (s0 (.int j)) (s0 (.int v)) (s0 (lN own)))=aa (decide (v%(4:Nat)=0)):=cL (aN (aN rfl rfl (nY v 4 ())) rfl (uN _ _))
      have d4:ah dY (aB 10) (eC (.int 4)) (vS (A ks (s0 (.int j)) (s0 (.int v)) (s0 (lN own))))=aa (.int (v/(4:Nat))):=aN rfl rfl (kW v 4 ())
      by_cases h4:v%(4:Nat)=0
      .obtain⟨i,ei,hi,_⟩:=iE (v/(4:Nat)) (n:=3) ()
       obtain⟨y,ey⟩:=uP hC (n:=i) ()
       exact dZ (t4.trans (by rw[decide_eq_true h4])) (fin (t:=.inl y) (aY (aZ rfl (aZ (aN d4 rfl ei) rfl)) ey) (.inl ⟨_,rfl⟩))
      .obtain⟨i,ei,hi,_⟩:=iE (v/(4:Nat)) (n:=own.length) ol;obtain⟨p,mp,ep⟩:=NN hi;obtain⟨z,mz,ez⟩:=NJ hN (oc p mp);exact fP (t4.trans (by rw[decide_eq_false h4])) (fin (t:=.inr z) (aN rfl (aN rfl (aN d4 (aY rfl (FB own)) ei) ep) ez) (hM z mz))
     .rintro _ ⟨ks,x9,bm,b8,gs,j4,rfl⟩;exact⟨_,rfl,ks,x9,bm,b8,gs,j4,rfl⟩
    rintro _ ⟨ks,x9,bm,b8,gs,j4,rfl⟩;refine dH (λY'=>∃ (ks:List aG) (x9:L2.Slot),ks.length=w/\(∀ x∈ks,ij (C 2) x)/\Y'=A ks x9 bm b8) ?_ ?_
    .refine uL (λi Y'=>∃ (ks:List aG) (x9:L2.Slot),ks.length=w/\(∀ x∈ks,ij (C 2) x)/\Y'=A ks x9 bm b8) (c9 (rV (aZ (z9 _ rfl) rfl) ())) ⟨ks,x9,gs,j4,rfl⟩ ?_ λ_ ⟨ks,x9,gs,j4,e⟩=>⟨_,rfl,ks,x9,gs,j4,e⟩
     rintro j _ hj ⟨ks,x9,gs,j4,rfl⟩;refine⟨A ks (s0 (.int j)) bm b8,rfl,?_⟩;obtain⟨p,mp,ep⟩:=NN hj;obtain⟨z,mz,ez⟩:=NJ hN (iV (hc p mp) nofun)
     obtain⟨i,ei,hi,_⟩:=iE (c/(4:Nat)+(j:Int)) (n:=ks.length) ()
     have lk:bR [lK ks]=aa (.int ks.length):=by simp[bR]
     exact PZ (d:=kD (.inr z)) (aN rfl (aN rfl rfl ep) ez) rfl (sv (aN (aN (aN rfl rfl (kW c 4 ())) rfl rfl) (aY rfl lk) ei) rfl) (zN (by simpa using hi)) ⟨_,.inl rfl,ks.set i (.inr z),s0 (.int j),by simpa using gs,Lz j4 (hM z mz),by simp[A,R,lK,List.map_set,kD]⟩
    rintro _ ⟨ks,x9,gs,j4,rfl⟩;obtain⟨t,mt,ew,et⟩:=Kw (w:=ks.length) () ()
    refine kJ (qA (d:=bG (t,ks)) (mT (aZ (aN rfl (aN (aY rfl (show bR [lK ks]=aa (.int ks.length) by simp[bR])) rfl rfl) et) (aZ (aY rfl rfl) rfl))) rfl (by simp;lia) ⟨_,.inl rfl,ls++[(t,ks)],s0 (.int k),s0 (.int c),s0 (lN cs),s0 (lK ks),x9,bm,b8,by simp[hl],λl m=>?_,by rw[show ls.map bG++[bG (t,ks)]=(ls++[(t,ks)]).map bG by simp];rfl⟩)
    rcases eM.1 m with m|m
    .exact ie l m
    .rw[cP.1 m];exact⟨ew,mt,j4⟩
   .rintro _ ⟨ls,x5,x6,x7,x8,x9,bm,b8,hl,ie,rfl⟩;exact⟨_,rfl,ls,x5,x6,x7,x8,x9,bm,b8,(),ie,rfl⟩
  rintro _ ⟨ls,x5,x6,x7,x8,x9,bm,b8,hl,ie,rfl⟩;exact kJ (cW (aY rfl rfl) ⟨_,rfl,ls,rfl,hl,ie⟩)
 obtain⟨d,e,ls,rfl,h⟩:=this;exact⟨ls,e,h⟩
end
theorem Mq{P:Out->Prop}{L:List Tb}{t:aE}(hg:jK i Y=aa (av L))(hk:g (vS Y)=aa (.str t))(ht:bu L t≠[])(k:P (.nx (Y.set i (aa (2,.dict (av (iS L t (bu L t).dropLast))))))):Goes (BY i .s g) Y P:=⟨_,by
 have tm:t∈L.map (·.1):=Zg λz=>ht (ZD z)
 unfold BY;rw[hg,bE,show eV 0 .s g Y=aa (.str t) from hk,bE,show bK (.str t)=aa (.inr t) from rfl,bE,uS tm,bE]
 show(if (bu L t).map bL≠[] then aa (Out.nx (Y.set i (aa (2,.dict (iY (av L) (.inr t) (.list ((bu L t).map bL).dropLast)))))) else ae)=_
 rw[if_pos (by simpa using ht),<-List.map_dropLast]
 show aa (Out.nx (Y.set i (aa (2,.dict (iY (av L) (.inr t) (aW (bu L t).dropLast))))))=_;rw[AD],k⟩
theorem Kl{P:Out->Prop}{t:BF}{L:List Tb}(hg:jK i Y=aa (av L))(o:BkG c L)(ht:∀ p:Tb,t [aa (.str p.1),aa (aW p.2)]=aa (decide (p.2≠[])))(k:P (.rt (.dict (av (L.filter λp=>decide (p.2≠[])))))):Goes (BZ i t) Y P:=⟨.rt (.dict (av (L.filter λp=>decide (p.2≠[])))),by
 have h1:∀ M:List Tb,rH t (av M)=aa (av (M.filter λp=>decide (p.2≠[]))):=λM=>by
  induction M with
  |nil=>rfl
  |cons p M ih=>
   show(t [aa (.str p.1),aa (aW p.2)]).bind (λb=>(rH t (av M)).bind λr'=>aa (if b=af then(dB p.1,aW p.2)::r' else r'))=_
   rw[ht,bE,ih,bE,List.filter_cons];split<;>rfl
 have h2:((av L).map (·.1)).Nodup:=by
  unfold av;rw[dX,show(Prod.fst∘λp:Tb=>(dB p.1,aW p.2))=dB∘Prod.fst from rfl,<-dX]
  exact List.Pairwise.map _ (λa b h z=>h (by injection z)) o.nd
 have h3:(av L).all (λkd=>cF kd.1)=af:=fV.2 λkd m=>by
  obtain⟨p,mp,rfl⟩:=cB.1 m;exact PU (o.tab p mp)
 have:=o.len;unfold BZ;rw[hg,bE,if_pos ⟨h2,h3,lB (by unfold av;rw[cD];lia)⟩,h1]
 rfl,k⟩
abbrev gy (ns:List Int)(ls:List Ln)(L:List Tb)(c:Nat)(r:List L2.Slot):aP:=s0 (lI ns)::s0 (ay ls)::aa (2,.dict (av L))::s0 (.int c)::r
def MW (L L':List Tb):Prop:=∀ t,bu L t≠[]->bu L' t≠[]
theorem YW(c1:1<=c)(c6:c<64){L:List Tb}(o:BkG c L){t:aE}(ht:t∈mn){row:List Int}(hw:row.length=g7 t)(x4 x6 x8 x9 bm:L2.Slot) :
  Goes (rR 2 .s (aB 7) .s (aB 5) .a (ak (ah je (aM bR (aD (ah aq (aB 2) (aB 5)) aH)) (aB 3))) (tZ 2 .s (aB 5) .s (aB 7))) (gy ns ls L c [x4,s0 (.str t),x6,s0 (bL row),x8,x9,bm])
   λo=>∃ Y2,(o=.nx Y2\/o=.ct Y2)/\∃ L',BkG c L'/\MW L L'/\bu L' t≠[]/\Y2=gy ns ls L' c [x4,s0 (.str t),x6,s0 (bL row),x8,x9,bm]:=by
 have o2:=o.sd ht;have m2:MW L (fj L t):=λt' h=>by rw[EM];exact h
 refine Va o.len rfl rfl rfl (λh=>⟨_,.inl rfl,fj L t,o2,m2,by rw[EM];exact Cq h,rfl⟩) λh=>⟨_,Mu rfl rfl rfl (wG L t),λhb=>?_,λhb=>⟨_,.inl rfl,fj L t,o2,m2,λe=>by rw[e] at hb;exact absurd hb (by simp;lia),rfl⟩⟩
 have hb:=of_decide_eq_true hb;refine Lo rfl rfl (wG L t) rfl () ⟨_,.inl rfl,_,o2.add hw hb,λt' h=>?_,by rw[EV (wG L t),if_pos rfl];simp,rfl⟩
 rw[EV (wG L t)];split
 .simp
 .exact m2 t' h
theorem ZI {kn:Kn}{N:List aE}(h:∀ z∈N,∃ u,bB kn z=aa u)(hk:∀ x∈ks,(∃ i,x=.inl i)\/∃ z∈N,x=.inr z):pO kn (eJ kn) ks:=λz m=>by
 rcases hk _ m with⟨i,e⟩|⟨z',mz,e⟩
 .cases e
 .cases e;obtain⟨u,eu⟩:=h z mz;unfold eJ;rw[eu]
  rfl
theorem OW {kn:Kn}(tl:pO kn (eJ kn) ks)(hl:ks.length<=100){Y:List (Option aA)}(e1:Y[i]?.join=aa (tK ks))(e2:Y[j]?.join=aa (ar kn)):bw [ae,aa j] (ax (aB i)) (gB 0) cI (eY (aB 1) (aB 0) (aB 0)) Y=aa (.list ((ks.map (tv (eJ kn))).map bF)):=by
 have e:=fZ (cap:=[ae,aa j]) (fi:=ax (aB i)) (T:=gB 0) (t:=cI) (f:=eY (aB 1) (aB 0) (aB 0)) (Y:=Y) (q:=kD) (λ_=>af) (λk=>bF (tv (eJ kn) k)) (jC e1) () λk mk=>⟨[aa (kD k),aa (ar kn)],by
  show gB 0 (kD k) [ae,Y[j]?.join]=_;rw[e2]
  rfl,rfl,λ_=>Tc tl mk⟩
 rw[kR.2 λ_ _=>rfl] at e
 rw[e,dX]
 rfl
section
variable (hC:Cl ns C)
include hC
theorem Lh(hn:ls.length<=5)(ie:∀ l∈ls,LnG (C 2) l):∃ hd:List aG,IY [lI ns,ay ls]=aa (tK hd)/\hd.length<=4/\∀ x∈hd,ij (C 2) x:=by
 have:∃ d,IY [lI ns,ay ls]=aa d/\∃ hd:List aG,d=tK hd/\hd.length<=4/\∀ x∈hd,ij (C 2) x:=by
  rw[7];refine cA (d:=lK []) rfl (by simp) ?_
  let R:List aG->List L2.Slot->aP:=λks r=>s0 (lI ns)::s0 (ay ls)::s0 (lK ks)::r
  refine dH (λY'=>∃ (ks:List aG) (x3:L2.Slot),ks.length<=100/\(∀ x∈ks,ij (C 2) x)/\Y'=R ks [x3,ae,ae,ae]) ?_ ?_
  .refine iN (xs:=ls) (q:=bG) (λ_ _=>Unit.unit) (λi (_:Unit) Y'=>∃ (ks:List aG) (x3:L2.Slot),ks.length<=6*i/\(∀ x∈ks,ij (C 2) x)/\Y'=R ks [x3,ae,ae,ae]) (b0:=Unit.unit) (c9 (jC rfl)) ⟨[],ae,bJ _,(λ_ h=>nomatch h),rfl⟩ ?_ ?_
   .rintro i l _ _ hi ⟨ks,x3,hl,hk,rfl⟩;have g:=ie l (fC hi);have il:=(cR.1 hi).1;have l6:=g.ok.1;refine⟨R ks [s0 (bG l),ae,ae,ae],rfl,?_⟩;have e:=fZ (cap:=[ae]) (fi:=ax (ah aq (aB 3) (eC (.int 1)))) (T:=gB 0) (t:=ak (dz (fD "str") (aB 0))) (f:=aB 0) (Y:=vS (R ks [s0 (bG l),ae,ae,ae])) (xs:=l.2) (q:=kD) pv kD (jC rfl) () λt _=>⟨[aa (kD t)],rfl,cL (tW rfl (by rw[uO];cases t<;>rfl)),λ_=>rfl⟩
    have fl:=sX pv l.2;refine qB (d:=lK (ks++l.2.filter pv)) (aN rfl e ((AK (by simp;lia)).trans (by rw[lK,iK]))) (by simp[R]) ⟨_,.inl rfl,ks++l.2.filter pv,_,by rw[pH];lia,λx m=>?_,rfl⟩
    rcases eM.1 m with m|m
    .exact hk x m
    .exact g.trm x (jR.1 m).1
   .rintro _ ⟨ks,x3,hl,hk,rfl⟩;exact⟨_,rfl,ks,x3,(),hk,rfl⟩
  rintro _ ⟨ks,x3,hl,hk,rfl⟩;refine cA (d:=lK []) rfl (by simp[R]) ?_
  obtain⟨n,en,hn5,_⟩:=iE (C 35) (n:=5) ()
  let A:List aG->L2.Slot->L2.Slot->aP:=λhd x5 x6=>R ks [x3,aa (1,lK hd),x5,x6]
  refine dH (λY'=>∃ (hd:List aG) (x5 x6:L2.Slot),hd.length<=4/\(∀ x∈hd,ij (C 2) x)/\Y'=A hd x5 x6) ?_ ?_
  .refine uL (λi Y'=>∃ (hd:List aG) (x5 x6:L2.Slot),hd.length=i/\(∀ x∈hd,ij (C 2) x)/\Y'=A hd x5 x6) (c9 (rV (aZ (aN (hC.at () rfl rfl) rfl en) rfl) ())) ⟨[],ae,ae,rfl,(λ_ h=>nomatch h),rfl⟩ ?_ λ_ ⟨hd,x5,x6,h1,h2,e⟩=>⟨_,rfl,hd,x5,x6,(),h2,e⟩
   rintro j _ hj ⟨hd,x5,x6,h1,h2,rfl⟩;refine⟨A hd (s0 (.int j)) x6,rfl,?_⟩;refine cA (hC.at () rfl (aN rfl rfl (add_n 36 j))) (by simp[A,R]) ?_
   generalize C (36+j)=c;obtain⟨i,ei,hi,_⟩:=iE (c/(40:Nat)) (n:=3) ()
   obtain⟨y,ey⟩:=uP hC (n:=i) ()
   obtain⟨p,ep,hp,_⟩:=iE c (n:=ks.length+1) ()
   have t5:p<(ks++[(.inl y:aG)]).length:=by simp;lia
   have lk:bR [lK ks]=aa (.int ks.length):=by simp[bR]
   refine qA (d:=kD ((ks++[(.inl y:aG)])[p])) (aN (a:=lK (ks++[(.inl y:aG)])) (aN rfl (wF (aZ (aY (aZ rfl (aZ (aN (aN rfl rfl (kW c 40 ())) rfl ei) rfl)) ey) rfl)) ((AK (by simp;lia)).trans (by rw[lK,iK];rfl))) (aN rfl (aN (aY rfl lk) rfl (add_n ks.length 1)) ep) (AJ (hX t5))) rfl (by simp;lia) ⟨_,.inl rfl,hd++[(ks++[(.inl y:aG)])[p]],s0 (.int j),s0 (.int c),by simp[h1],λx m=>?_,by simp[A,R,lK]⟩
   rcases eM.1 m with m|m
   .exact h2 x m
   .rw[cP.1 m];rcases eM.1 (lG t5) with q|q
    .exact hk _ q
    .rw[cP.1 q];exact .inl ⟨y,rfl⟩
  rintro _ ⟨hd,x5,x6,h1,h2,rfl⟩;exact kJ (cW (aY rfl rfl) ⟨_,rfl,hd,rfl,h1,h2⟩)
 obtain⟨d,e,hd,rfl,h⟩:=this;exact⟨hd,e,h⟩
theorem Ks {hd:List aG}(hl:hd.length<=4)(hk:∀ x∈hd,ij (C 2) x):∃ row:List Int,IQ [lI ns,tK hd]=aa (tI row):=by
 have:∃ d,IQ [lI ns,tK hd]=aa d/\∃ row:List Int,d=tI row:=by
  rw[7];refine cA (hC.at () rfl rfl) (by simp) ?_
  generalize C 40=c;obtain⟨b,eb,hb,_⟩:=iE c (n:=2) ()
  obtain⟨kn,ek,ky⟩:=VG hC (C (28+b*13));have K2:gF (.int b) (.int 13)=aa (.int ((b*13:Nat):Int)):=(oE ()).trans (by rw[MK];rfl)
  refine cA (aY (aZ rfl (aZ (hC.at () rfl (aN rfl (aN (aN rfl rfl eb) rfl K2) (add_n 28 _))) rfl)) ek) (by simp) ?_
  refine cA (OW (ZI ky hk) () rfl rfl) (by simp) ?_
  have ll:(hd.map (tv (eJ kn))).length<=4:=by rw[cD];exact hl
  generalize hd.map (tv (eJ kn))=r at ll
  let S:L2.Slot->aP:=λx=>[s0 (lI ns),s0 (tK hd),s0 (.int c),s0 (ar kn),x]
  have dv:∀ (n:Nat) x,0<n->n<1000->ah dY (aB 2) (eC (.int n)) (vS (S x))=aa (.int (c/n)):=λn x h1 h2=>aN rfl rfl (kW _ n h1 h2)
  have dA:∀ (n:Nat) x,0<n->n<1000->ah dY (aB 2) (eC (.int n)) (vA (S x))=aa (.int (c/n)):=λn x h1 h2=>aN rfl rfl (kW _ n h1 h2)
  refine dH (λY'=>∃ r:List Int,r.length<=4/\Y'=S (aa (1,.list (r.map bF)))) ?_ ?_
  .obtain⟨u,eu,_⟩:=iE (c/(2:Nat)) (n:=3) ()
   have lr:aM bR (aD (aB 4) aH) (vA (S (aa (1,.list (r.map bF)))))=aa (.int r.length):=aY rfl ((pU _).trans (by rw[cD]))
   have tt:bV .a (fL (ak (ah ck (ah cJ (ah dY (aB 2) (eC (.int 2))) (eC (.int 3))) (eC (.int 0)))) (ak (ah fy (aM bR (aD (aB 4) aH)) (eC (.int 0))))) (S (aa (1,.list (r.map bF))))=aa (decide (u=0)&&decide (0<r.length)):=sC (cL (aN (aN (dA 2 _ () ()) rfl eu) rfl (oy u 0))) λ_=>cL (aN lr rfl (uz _))
   by_cases h:(decide (u=0)&&decide (0<r.length))=af
   .rw[h] at tt;have h2:=of_decide_eq_true (iM.1 h).2;obtain⟨w,ew,hw,_⟩:=iE (c/(24:Nat)) (n:=3) ()
    obtain⟨y,ey⟩:=uP hC (n:=w) ()
    obtain⟨q,eq,hq,_⟩:=iE (c/(6:Nat)) (n:=r.length) ()
    exact dZ tt (PZ (aY (aZ rfl (aZ (aN (dv 24 _ () ()) rfl ew) rfl)) ey) rfl (sv (aN (dA 6 _ () ()) lr eq) rfl) (zN (by simpa using hq)) ⟨_,rfl,r.set q y,by simpa using ll,by simp[S,List.map_set]⟩)
   .rw[MU.2 h] at tt;exact fP tt (gH ⟨_,rfl,r,ll,rfl⟩)
  rintro _ ⟨r,ll,rfl⟩;refine kJ (dH (λY'=>∃ r:List Int,Y'=S (s0 (.list (r.map bF)))) ?_ ?_)
  .obtain⟨u,eu,_⟩:=iE (c/(2:Nat)) (n:=9) ()
   have tt:bV .s (ak (ah ck (ah cJ (ah dY (aB 2) (eC (.int 2))) (eC (.int 9))) (eC (.int 1)))) (S (s0 (.list (r.map bF))))=aa (decide (u=1)):=cL (aN (aN (dv 2 _ () ()) rfl eu) rfl (oy u 1))
   by_cases h:u=1
   .obtain⟨y,ey⟩:=uP hC (n:=0) ()
    exact dZ (tt.trans (by rw[decide_eq_true h])) (qB (d:=.list ((r++[y]).map bF)) (aN rfl (wF (aZ (aY rfl ey) rfl)) ((AK (by simp;lia)).trans (by rw[iK];rfl))) (by simp[S,frz]) ⟨_,rfl,r++[y],rfl⟩)
   .exact fP (tt.trans (by rw[decide_eq_false h])) (gH ⟨_,rfl,r,rfl⟩)
  rintro _ ⟨r,rfl⟩;exact cW (aY rfl rfl) ⟨_,rfl,r,rfl⟩
 obtain⟨d,e,row,rfl⟩:=this;exact⟨row,e⟩
end
section
variable (hC:Cl ns C)
include hC
theorem Uh(hn:ls.length<=5)(ie:∀ l∈ls,LnG (C 2) l):∃ (c:Nat) (L:List Tb),JG [lI ns,ay ls]=aa (.dict (av L))/\BkG c L/\1<=c/\c<64/\c^ls.length<=4096:=by
 have:∃ d,JG [lI ns,ay ls]=aa d/\∃ (c:Nat) (L:List Tb),d=.dict (av L)/\BkG c L/\1<=c/\c<64/\c^ls.length<=4096:=by
  rw[7];refine cA rfl (by simp) ?_
  have ut:∀ Y:List (Option aA),aB 1 Y=aa (ay ls)->aM bR (aD (aB 1) aH) Y=aa (.int ls.length):=λY h=>aY (aZ h rfl) (by rw[rW,cD])
  obtain⟨c0,K3,K4⟩:∃ c:Nat,aq (.list [.int 6,.int 6,.int 6,.int 6,.int 5,.int 4]) (.int ls.length)=aa (.int c)/\1<=c/\c<64/\c^ls.length<=4096:=by
   generalize ls.length=n at hn
   match n,hn with
   |0,_=>exact⟨6,rfl,nofun⟩
   |1,_=>exact⟨6,rfl,nofun⟩
   |2,_=>exact⟨6,rfl,nofun⟩
   |3,_=>exact⟨6,rfl,nofun⟩
   |4,_=>exact⟨5,rfl,nofun⟩
   |5,_=>exact⟨4,rfl,nofun⟩
  refine cA (aN rfl (ut _ rfl) K3) (by simp) ?_
  refine dH (λY'=>∃ c:Nat,(1<=c/\c<64/\c^ls.length<=4096)/\Y'=gy ns ls [] c [ae,ae,ae,ae,ae,ae,ae]) ?_ ?_
  .obtain⟨u,eu,_⟩:=iE (C 30/(24:Nat)) (n:=8) ()
   have tt:bV .s (fL (ak (ah ck (ah cJ (ah dY (aM fQ (aD (aB 0) (aD (eC (.int 30)) aH))) (eC (.int 24))) (eC (.int 8))) (eC (.int 0)))) (ak (ah je (aM bR (aD (aB 1) aH)) (eC (.int 3))))) (gy ns ls [] c0 [ae,ae,ae,ae,ae,ae,ae])=aa (decide (u=0)&&decide ((ls.length:Int)<3)):=sC (cL (aN (aN (aN (hC.at () rfl rfl) rfl (kW _ 24 ())) rfl eu) rfl (oy u 0))) λ_=>cL (aN (ut _ rfl) rfl rfl)
   by_cases h:(decide (u=0)&&decide ((ls.length:Int)<3))=af
   .rw[h] at tt;have h2:=of_decide_eq_true (iM.1 h).2;refine dZ tt (qB rfl (by simp) ⟨_,rfl,20,⟨nofun,nofun,cM (LQ nofun (show ls.length<=2 by lia)) nofun⟩,rfl⟩)
   .rw[MU.2 h] at tt;exact fP tt (gH ⟨_,rfl,c0,K4,rfl⟩)
  rintro _ ⟨c,⟨c1,c6,cm⟩,rfl⟩;obtain⟨kn,ek,ky⟩:=VG hC (C 28);refine cA (aY (aZ rfl (aZ (hC.at () rfl rfl) rfl)) ek) (by simp) ?_
  refine dH (λY'=>∃ (L:List Tb) (x5 x6 x7:L2.Slot),BkG c L/\(∀ l∈ls,bu L l.1≠[])/\Y'=gy ns ls L c [s0 (ar kn),x5,x6,x7,ae,ae,ae]) ?_ ?_
  .refine iN (xs:=ls) (q:=bG) (λ_ _=>Unit.unit) (λi (_:Unit) Y'=>∃ (L:List Tb) (x5 x6 x7:L2.Slot),BkG c L/\(∀ l∈ls.take i,bu L l.1≠[])/\Y'=gy ns ls L c [s0 (ar kn),x5,x6,x7,ae,ae,ae]) (b0:=Unit.unit) (c9 (jC rfl)) ⟨[],ae,ae,ae,BkG.nil,(λ_ h=>nomatch h),rfl⟩ ?_ ?_
   .rintro i l _ _ hx ⟨L,x5,x6,x7,o,hL,rfl⟩;have g:=ie l (fC hx);refine⟨gy ns ls L c [s0 (ar kn),s0 (.str l.1),s0 (tK l.2),x7,ae,ae,ae],rfl,?_⟩;refine cA (d:=bL (l.2.map (tv (eJ kn)))) (aY (aZ (OW (ZI ky g.trm) (cM g.ok.1 nofun) rfl rfl) rfl) rfl) (by simp) ?_
    obtain⟨o',eo,Y2,h,L',oL,mo,ne,rfl⟩:=YW (ns:=ns) (ls:=ls) c1 c6 o g.tab (row:=l.2.map (tv (eJ kn))) (by rw[cD];exact g.wd.symm) (s0 (ar kn)) (s0 (tK l.2)) ae ae ae
    refine⟨o',eo,_,h,L',_,_,_,oL,λl' m=>?_,rfl⟩
    rw[sV,hx] at m;rcases eM.1 m with m|m
    .exact mo _ (hL l' m)
    .cases cP.1 m;exact ne
   .rintro _ ⟨L,x5,x6,x7,o,hL,rfl⟩;rw[pG] at hL;exact⟨_,rfl,L,x5,x6,x7,o,hL,rfl⟩
  rintro _ ⟨L,x5,x6,x7,o,hL,rfl⟩;refine dH (λY'=>∃ L:List Tb,BkG c L/\Y'=gy ns ls L c [s0 (ar kn),x5,x6,x7,ae,ae,ae]) ?_ ?_
  .obtain⟨u,eu,_⟩:=iE (C 29) (n:=2) ()
   have tt:bV .s (fL (ak (ah ck (ah cJ (aM fQ (aD (aB 0) (aD (eC (.int 29)) aH))) (eC (.int 2))) (eC (.int 0)))) (ak (ah fy (aM bR (aD (aB 1) aH)) (eC (.int 0))))) (gy ns ls L c [s0 (ar kn),x5,x6,x7,ae,ae,ae])=aa (decide (u=0)&&decide (0<ls.length)):=sC (cL (aN (aN (hC.at () rfl rfl) rfl eu) rfl (oy u 0))) λ_=>cL (aN (ut _ rfl) rfl (uz _))
   by_cases h:(decide (u=0)&&decide (0<ls.length))=af
   .rw[h] at tt;have h2:=of_decide_eq_true (iM.1 h).2;obtain⟨i,ei,hi,_⟩:=iE (C 29/(2:Nat)) (n:=ls.length) h2;obtain⟨a1,a3⟩:=o.atR (ls.getD i cu).1;refine dZ tt (Mq rfl (aN (aN rfl (aN (aN (hC.at () rfl rfl) rfl (kW _ 2 ())) (ut _ rfl) ei) (pZ hi)) rfl rfl) (hL _ (getD_mem cu hi)) ⟨_,rfl,_,o.upd (cM (by rw[List.length_dropLast];lia) a1) λr m=>a3 r (List.dropLast_subset _ m),rfl⟩)
   .rw[MU.2 h] at tt;exact fP tt (gH ⟨_,rfl,L,o,rfl⟩)
  clear hL o;rintro _ ⟨L,o,rfl⟩;refine dH (λY'=>∃ (L:List Tb) (x5 x7 x8 x9 bm:L2.Slot),BkG c L/\Y'=gy ns ls L c [s0 (ar kn),x5,x6,x7,x8,x9,bm]) ?_ ?_
  .refine iN (xs:=[((1:Nat),("t" : aE)),(2,"a"),(3,"tab"),(4,"n9")]) (q:=λp=>dJ [.int p.1,.str p.2]) (b0:=Unit.unit) (λ_ _=>Unit.unit) (λi _ Y'=>∃ (L:List Tb) (x5 x7 x8 x9 bm:L2.Slot),BkG c L/\Y'=gy ns ls L c [s0 (ar kn),x5,x6,x7,x8,x9,bm]) (c9 (fA rfl)) ⟨L,x5,x7,ae,ae,ae,o,rfl⟩ ?_ λ_ ⟨L,x5,x7,x8,x9,bm,o,e⟩=>⟨_,rfl,L,x5,x7,x8,x9,bm,o,e⟩
   rintro i ⟨w,t⟩ _ _ hx ⟨L,x5,x7,x8,x9,bm,o,rfl⟩;have hw:(1<=w/\w<=4)/\w=g7 t/\t∈mn:=(by decide:∀ p∈[((1:Nat),("t" : aE)),(2,"a"),(3,"tab"),(4,"n9")],(1<=p.1/\p.1<=4)/\p.1=g7 p.2/\p.2∈mn) _ (fC hx)
   obtain⟨⟨w1,w3⟩,hw,ht⟩:=hw;refine⟨gy ns ls L c [s0 (ar kn),s0 (.str t),x6,x7,s0 (.int w),x9,bm],rfl,?_⟩;obtain⟨n,en,hn7,_⟩:=iE (C 30/(w:Nat)) (n:=c+2) ()
   refine uL (λi Y'=>∃ (L:List Tb) (x7 x9 bm:L2.Slot),BkG c L/\Y'=gy ns ls L c [s0 (ar kn),s0 (.str t),x6,x7,s0 (.int w),x9,bm]) (c9 (rV (aZ (aN (aN (hC.at () rfl rfl) rfl (kW _ w ())) (aN rfl rfl (add_n c 2)) en) rfl) ())) ⟨L,x7,x9,bm,o,rfl⟩ ?_ λ_ ⟨L,x7,x9,bm,o,e⟩=>⟨_,.inl rfl,L,_,x7,_,x9,bm,o,e⟩
   rintro k _ hk ⟨L,x7,x9,bm,o,rfl⟩;refine⟨gy ns ls L c [s0 (ar kn),s0 (.str t),x6,x7,s0 (.int w),s0 (.int k),bm],rfl,?_⟩;refine cA (hC.at () rfl (aN rfl rfl (add_n 30 w))) (by simp) ?_
   generalize C (30+w)=v;have e5:gF (.int 5) (.int k)=aa (.int ((5*k:Nat):Int)):=(oE nofun).trans (by rw[MK];rfl)
   obtain⟨r,er,hr,_⟩:=Nd (cap:=[ae,aa 0,aa 10,aa 9]) (fi:=jr (aD (aB 8) aH)) (T:=gB 0) (t:=cI) (f:=aM oR (aD (aB 1) (aD (aM xS (aD (aB 2) (aD (ah dE (ah gF (eC (.int 5)) (aB 3)) (aB 0)) (aD (eC (.int 3)) aH)))) aH))) (Y:=vS (gy ns ls L c [s0 (ar kn),s0 (.str t),x6,x7,s0 (.int w),s0 (.int k),s0 (.int v)])) bF (λ_=>True) (rV rfl ()) () λj hj=>by
    obtain⟨q,eq,hq⟩:=QJ v (k:=((5*k+j:Nat):Int)) () () (n:=3) ()
    obtain⟨y,ey⟩:=uP hC (n:=q) ()
    exact⟨[aa (.int j),aa (lI ns),aa (.int v),aa (.int k)],y,rfl,rfl,aY (aZ rfl (aZ (aY (aZ rfl (aZ (aN (aN rfl rfl e5) rfl (add_n _ j)) rfl)) eq) rfl)) ey,trivial⟩
   refine cA (d:=bL r) (aY (aZ er rfl) rfl) (by simp) ?_
   obtain⟨o',eo,Y2,h,L',oL,_,_,rfl⟩:=YW (ns:=ns) (ls:=ls) c1 c6 o ht (row:=r) (hr.trans hw) (s0 (ar kn)) x6 (s0 (.int w)) (s0 (.int k)) (s0 (.int v));exact⟨o',eo,_,h,L',_,_,_,oL,rfl⟩
  rintro _ ⟨L,x5,x7,x8,x9,bm,o,rfl⟩;have t1:bV .s (ak (ah ck (ah cJ (ah dY (aM fQ (aD (aB 0) (aD (eC (.int 29)) aH))) (eC (.int 16))) (eC (.int 2))) (eC (.int 0)))) (gy ns ls L c [s0 (ar kn),x5,x6,x7,x8,x9,bm])=aa (decide (C 29/(16:Nat)%(2:Nat)=0)):=cL (aN (aN (aN (hC.at () rfl rfl) rfl (kW _ 16 ())) rfl (nY _ 2 ())) rfl (uN _ _))
  by_cases h:C 29/(16:Nat)%(2:Nat)=0
  .refine uK (dZ (t1.trans (by rw[decide_eq_true h])) (Kl rfl o (λp=>cL (aN (aY rfl (pU _)) rfl ?_)) ⟨_,rfl,_,rfl,c,_,rfl,o.out _,c1,c6,cm⟩))
   rw[cD];exact congrArg (λx=>aa (hV x)) (decide_eq_decide.2 (by rw[ne_eq,<-yM];lia))
  .exact eZ (pT (t1.trans (by rw[decide_eq_false h]))) (wU rfl ⟨_,rfl,c,L,rfl,o,c1,c6,cm⟩)
 obtain⟨d,e,c,L,rfl,o⟩:=this;exact⟨c,L,e,o⟩
end
theorem Im {c:Int}(hn:ls.length<=5)(h:∀ l∈ls,LnG c l):Lok ls:=⟨λl m=>(h l m).ok,λl m=>by rw[<-(h l m).wd];exact(ZS l.1).1,hn⟩
theorem Ml{P:Out->Prop}{L:List Tb}{t:aE}(nd:(L.map (·.1)).Nodup)(hl:L.length<=4)(h:eV 1 .a f Y=aa (aW R))(hg:jK i Y=aa (av L))(hk:g (vS Y)=aa (.str t))(h1:t∈L.map (·.1)->P (.nx (Y.set i (aa (2,.dict (av (iS L t R)))))))(h2:t∉L.map (·.1)->P (.nx (Y.set i (aa (2,.dict (av (L++[(t,R)]))))))):Goes (tj (wV i .a f .s g) (zL i .a f .s g)) Y P:=by
 have e1:eV 0 .s g Y=aa (.str t):=hk;have ll:(av L).length<sizeLine:=oK (by unfold av;rw[cD];lia)
 by_cases m:t∈L.map (·.1)
 .have kn:(tV (av L)).Nodup:=by
   unfold tV av;rw[dX,show((λkd:aA×aA=>bK kd.1)∘λp:Tb=>(dB p.1,aW p.2))=(λz=>aa (.inr z))∘Prod.fst from rfl,<-dX]
   exact List.Pairwise.map _ (λa b h z=>h (by injection z with z;injection z)) nd
  refine⟨_,?_,h1 m⟩;unfold tj wV;rw[h,bE,hg,bE,e1,bE,show bK (.str t)=aa (.inr t) from rfl,bE,if_pos ⟨⟨by rw[uS m];rfl,kn⟩,ll⟩,AD]
  rfl
 .refine⟨_,?_,h2 m⟩;have lk:bQ (av L) (.inr t)=ae:=by rw[xH,WE m];rfl
  unfold tj wV zL;rw[h,bE,hg,bE,e1,bE,show bK (.str t)=aa (.inr t) from rfl,bE,if_neg (λq=>by rw[lk] at q;exact absurd q.1.1 nofun)]
  show(if bQ (av L) (.inr t)=ae/\(av L).length<sizeLine then aa (Out.nx (Y.set i (aa (2,.dict (av L++[(.str t,aW R)]))))) else ae)=_
  rw[if_pos ⟨lk,ll⟩];unfold av;rw[iK]
  rfl
theorem Kx (ns:List Int)(_:ns.length<=63)(_:wM ns):EJ [.list (ns.map .int)]=aa (.bool af):=by
 obtain⟨C,hC⟩:=Gi ns;obtain⟨ls,el,hn,ie⟩:=Xn hC;obtain⟨c,L,eL,o,c1,c6,cm⟩:=Uh hC hn ie;obtain⟨hd,eh,hh,hk⟩:=Lh hC hn ie;obtain⟨row,er⟩:=Ks hC hh hk;have K:=Im hn ie;have hW:∀ l∈ls,g7 l.1=l.2.length:=λl m=>(ie l m).wd
 have:∃ d,EJ [lI ns]=aa d/\d=.bool af:=by
  rw[7];refine cA (aY rfl el) (by simp) (cA (aY rfl eL) (by simp) (cA (aY rfl eh) (by simp) (cA (aY rfl er) (by simp) ?_)))
  have rt:∀ {L:List Tb} (_:BkG c L),uY [.dict (av L),iB (hd,ls),tI row]=aa (.bool af):=λo=>RE o c1 c6 (a:=(hd,ls)) (by show hd.length<=6;lia) K cm hW row
  refine eZ (pR (Me (aY (aZ rfl (aZ (mT (aZ rfl (aZ rfl rfl))) (aZ rfl rfl))) (rt o)))) ?_;refine dH (λY'=>∃ (L:List Tb) (x5 x6:L2.Slot),BkG c L/\Y'=[s0 (lI ns),s0 (ay ls),aa (2,.dict (av L)),s0 (tK hd),s0 (tI row),x5,x6]) ?_ ?_
  .obtain⟨ys,ey,_,hy⟩:=PN bG ls ae (aa ((1:Nat):Int));refine iN (xs:=ys) (q:=bG) (λ_ _=>Unit.unit) (λi (_:Unit) Y'=>∃ (L:List Tb) (x5 x6:L2.Slot),BkG c L/\Y'=[s0 (lI ns),s0 (ay ls),aa (2,.dict (av L)),s0 (tK hd),s0 (tI row),x5,x6]) (b0:=Unit.unit) (c9 (jC ((GG rfl rfl rfl).trans (congrArg (λx=>aa (dJ x)) ey)))) ⟨L,ae,ae,o,rfl⟩ ?_ λ_ ⟨L,x5,x6,o,e⟩=>⟨_,rfl,L,x5,x6,o,e⟩
   rintro i l _ _ hx ⟨L,x5,x6,o,rfl⟩;have g:=ie l (hy l (fC hx));refine⟨[s0 (lI ns),s0 (ay ls),aa (2,.dict (av L)),s0 (tK hd),s0 (tI row),s0 (.str l.1),s0 (tK l.2)],rfl,?_⟩;obtain⟨R,eR,lR,hR⟩:=PN bL (bu L l.1) (aa ((1:Nat):Int)) ae;obtain⟨a1,a3⟩:=o.atR l.1;refine Ml o.nd o.len (sv ((FJ ((o.bk c6).get rfl rfl) rfl rfl).trans (congrArg (λx=>aa (vK x)) eR)) (OR R)) rfl rfl (λm=>⟨_,.inl rfl,_,_,_,o.upd (cM lR a1) (λr m=>a3 r (hR r m)),rfl⟩) λm=>⟨_,.inl rfl,_,_,_,?_,rfl⟩
   rw[ZD m] at lR;rw[yM.1 (Nat.le_zero.1 lR)];have:=o.sd g.tab;unfold fj at this
   rwa [if_neg m] at this
  rintro _ ⟨L,x5,x6,o,rfl⟩;have r2:=RE o c1 c6 (a:=([],ls)) (by show 0<=6;lia) K cm hW []
  refine kJ (cW (Nb (x:=af) (aY (aZ rfl (aZ (mT (aZ rfl (aZ rfl rfl))) (aZ rfl rfl))) (rt o)) λ_=>aY (aZ rfl (aZ (mT (aZ rfl (aZ rfl rfl))) (aZ rfl rfl))) r2) ⟨_,rfl,rfl⟩)
 rw[2]
end Aw
set_option hygiene false in
local macro_rules | `(tactic| sleep 0)=>`(tactic| repeat' first|exact eO _|exact oI|refine mC ?_ ?_|((with_reducible show PE _ _ _);first|((with_reducible show DF _ _ _ (eC _));first|exact jM|exact Hi|exact wH|exact NZ|exact QG)|((with_reducible show DF _ _ _ (ah _ _ _));first|((with_reducible show DF _ _ _ (ah aq _ _));refine rD hv ?_ ?_ (λ_ _=>rfl))|((with_reducible show DF _ _ _ (ah cJ _ _));refine Ib ?_ ?_)|((with_reducible show DF _ _ _ (ah dY _ _));refine Uj ?_ ?_)|((with_reducible show DF _ _ _ (ah dE _ _));refine Hg ?_ ?_)|((with_reducible show DF _ _ _ (ah gF _ _));refine Jv ?_ ?_)|((with_reducible show DF _ _ _ (ah mS _ _));refine Jy ?_ ?_)|((with_reducible show DF _ _ _ (ah mO _ _));refine Lb ?_ ?_)|((with_reducible show DF 1 _ _ (ah oV _ _));refine ZK ?_ ?_))|((with_reducible show DF _ _ _ (aM _ _));first|((with_reducible show DF _ _ _ (aM bR _));refine qF WQ VA rfl Q.B.len PySem.boot_len ?_)|((with_reducible show DF _ _ _ (aM gG _));refine qE Ry Rk rfl Q.B.tuple Yw ?_)|refine wB (by assumption) (hr.mono nofun) rfl ?_)|((with_reducible show DF _ _ _ (bw _ _ _ _ _));refine EY hS ?_ (λ_ _ _ _ _=>?_) (λ_ _ _ _ _=>?_))|((with_reducible show DF _ _ _ (dz (fD _) _));refine Aq (T:="str") rfl Q.B.isinstance rfl Q.B.str PyProof.Rows.boot_str nofun ?_)|refine zO ?_|refine Ai ?_|refine Na ?_|refine GJ hv ?_ ?_ ?_|(refine jV (n:=1) ?_;first|exact QG|refine zO ?_|((with_reducible show DF _ _ _ (bw _ _ _ _ _));refine EY hS ?_ (λ_ _ _ _ _=>?_) (λ_ _ _ _ _=>?_))|((with_reducible show DF _ _ _ (ah oV _ _));refine ZK ?_ ?_)|((with_reducible show DF _ _ _ (aM rC _));refine qE (JJ rfl) VR rfl Q.B.list LM ?_)|((with_reducible show DF _ _ _ (aM _ _));refine wB (by assumption) (hr.mono nofun) rfl ?_)))|((with_reducible show PSs _ _ _);first|(with_reducible refine Ls _ ?_)|refine Um ?_|refine Wt ?_ ?_|exact Td)|((with_reducible show PS _ _ _);first|refine Iu _ _ nd rfl (by first|exact fG rfl|exact iU rfl) ?_|((with_reducible show DS _ _ _ _ _ (cT _ (ax _) _ _));refine uE nO rfl ?_ ?_ ?_)|((with_reducible show DS _ _ _ _ _ (cT _ (jr _) _ _));refine Kz _ nO rfl ?_ ?_ ?_)|refine Ge _ ?_ ?_ ?_|refine Nv _ _ ?_|refine Jg _ ?_|exact Lr _|refine Mi _ ?_|exact Gk)|((with_reducible show PT _ _ _);first|((with_reducible show DT _ _ (ak (ah ck _ _)));refine kL (Jz hu) Hu ?_ ?_ (kI _))|((with_reducible show DT _ _ (ak (ah cn _ _)));refine kL (Ab hu) Ht ?_ ?_ (kI _))|((with_reducible show DT _ _ (ak (ah fy _ _)));refine kL JY FD ?_ ?_ (kI _))|((with_reducible show DT _ _ (ak (ah je _ _)));refine kL (Bf6.or Nr) Gu ?_ ?_ (kI _))|((with_reducible show DT _ _ (ak (ah gW _ _)));refine kL PX SW ?_ ?_ (kI _))|((with_reducible show DT _ _ (ak (ah qY _ _)));refine kL FI GO ?_ ?_ (kI _))|((with_reducible show DT _ _ (ak (ah (fz _) _ _)));first|refine kL (GZ hu) wN ?_ ?_ (by with_unfolding_all rfl)|refine kL (WU hu) wN ?_ ?_ (by with_unfolding_all rfl))|refine Ia ?_|((with_reducible show DT _ _ (fL _ _));refine DV ?_)|((with_reducible show DT _ _ (m3 _ _));refine DV ?_)|refine Ii ?_)|((with_reducible show PW _ _ _);first|refine YZ ?_ ?_|refine Ho ?_ ?_|refine QR ?_|refine Ja ?_)|exact wY|refine AR ?_|refine zZ ?_|refine Oo rfl Q.B.range ?_|exact Mh nd rfl (by first|exact fG rfl|exact iU rfl)|exact Tf rfl nd rfl rfl (by first|exact fG rfl|exact iU rfl) (by first|exact fG rfl|exact iU rfl))
namespace Aw
open PySem L2
variable {K:aK}{n:aE}{i:Nat}
def BW (K:aK):Sp:=λvs H Q _=>∃ (a:aC) (ns:List Int),vs=[.ref a]/\SqL K H a (ns.map V.int)/\ns.length<=63/\wM ns/\∀ H',Q (.bl af) H'
theorem Jp:∀ vs H Q E,BW K vs H Q E->tp K 0 EJ vs H Q E:=λvs H Q E gh=>by
 obtain⟨a,ns,ev,hS,hl,hb,k⟩:=gh;subst ev;have e0:hid H (λ_=>False)=H:=by
  funext b;unfold hid;rw[if_neg (λz=>z)]
 refine⟨λ_=>False,[.list (ns.map bF)],.bool af,λ_ z=>z.elim,?_,Kx ns hl hb,dP λv H' _ r=>?_⟩
 .rw[e0];exact Aaf.2 ⟨_,_,rfl,Abe.2 ⟨a,_,rfl,hS,TH ns⟩,Aaj.2 rfl⟩
 .rw[Aaz.1 r];exact k H'
def Hs (K:aK)(n:aE)(i:Nat):Prop:=∃ f fd,Fun K n n (c7 i) f fd/\yD K jF n=aa (aa (.ref f))
theorem Bhj{f:aC}{od an:Option aC}{sl:Array (Option aF)}{oc kV dc pm cd ct:aF}(a:yD K jF n=aa (aa (.ref f)))(l:K.lookup f=aa ⟨oc,od,.func (vI n n (wW (c7 i)) (mW (c7 i)) (dI (c7 i)) .none kV dc pm an cd ct),sl⟩)(c:LH K cd n=af)(k:CI K (.ref f)=af):Hs K n i:=⟨_,_,He (st:=c7 i) l c k,a⟩
theorem Bgs{i:Int}{t:Tok}(h:yD K jF n=aa (aa (.int i t))):∃ t,yD K jF n=aa (aa (.int i t)):=⟨t,h⟩
structure Al (P:bN)(w:bD)(K:aK)(mg:aE->Option aF)(base h:aU):Prop where
 X:K.In h
 G:h.Ns jF mg
 a1:Hs K "names_of" 1
 a2:Hs K "put_in" 2
 a3:Hs K "fits" 15
 a4:Hs K "rows_of" 16
 a5:Hs K "ways_of" 17
 a6:Hs K "_law_cell" 35
 a7:Hs K "_law_draw" 36
 a8:Hs K "_law_some" 39
 a9:Hs K "_law_fit" 45
 a10:Hs K "_law_go_together" 46
 a11:Hs K "_law_ear" 47
 a12:Hs K "put_in_lines" 3
 a13:Hs K "shared" 8
 a14:Hs K "refuse_rows" 18
 a15:Hs K "extended" 20
 a16:Hs K "fitting" 23
 a17:Hs K "common" 26
 a18:Hs K "key_of" 27
 a19:Hs K "bound" 32
 a20:Hs K "_law_value" 37
 a21:Hs K "_law_names" 38
 a22:Hs K "_law_kept" 48
 a23:Hs K "_law_is_answer" 49
 a24:Hs K "parent_of" 9
 a25:Hs K "refuse_ways" 19
 a26:Hs K "walked" 21
 a27:Hs K "all_fitting" 24
 a28:Hs K "with_partner" 28
 a29:Hs K "_law_lines" 40
 a30:Hs K "_law_values" 41
 a31:Hs K "_law_head" 43
 a32:Hs K "_law_wanted" 50
 a33:Hs K "first_ear" 10
 a34:Hs K "_law_book" 42
 a35:Hs K "_law_row" 44
 a36:Hs K "ears" 11
 a37:Hs K "ring" 12
 a38:Hs K "thin_parents" 29
 a39:Hs K "walk_rest" 30
 a40:Hs K "refuse_ring" 25
 a41:Hs K "paper" 33
 a42:Hs K "_law_right" 51
 a43:Hs K "law" 52
 c1:∃ t,yD K jF "MOST_WAYS" = aa (aa (.int 4096 t))
 z:Blt λx=>yD K jF x=aa ae
section
set_option maxHeartbeats 4000000
variable {P:bN}{w:bD}{mg:aE->Option aF}{base h:aU}(Q:Al P w K mg base h)
include Q
theorem Al.B:Blt λx=>mg x=ae:=
 have M:=λx=>PySem.W.mg_none_of (n:=x) Q.X Q.G
 ⟨M _ Q.z.1,M _ Q.z.2,M _ Q.z.3,M _ Q.z.4,M _ Q.z.5,M _ Q.z.6,M _ Q.z.7,M _ Q.z.8,M _ Q.z.9,M _ Q.z.10,M _ Q.z.11,M _ Q.z.12,M _ Q.z.13,M _ Q.z.14,M _ Q.z.15,M _ Q.z.16,M _ Q.z.17⟩
theorem Hs.dd(Hh:Hs K n i)(k n0 np:Nat)(N:List aE)(b:SF)
  (hb:∀ {f:aC} {bz:aF} {A:cE} {outer:List eQ} {s:aI} {H:Hp} {E:XK} {P0:aC->Prop} (hr:Room k (A.deeper (yE n (dI (c7 i)) s.heap.objs.size f bz))),Sx (dI (c7 i)).names N->N.Nodup->(A.deeper (yE n (dI (c7 i)) s.heap.objs.size f bz)).units+100<cLine->(A.deeper (yE n (dI (c7 i)) s.heap.objs.size f bz)).units+40<cLine->gb (nF jc P w K mg base N n (dI (c7 i)) f bz A outer s H E).nox H P0 n0 (mW (c7 i)) b)
  (S:FnScope N (N.take np) (dI (c7 i)):=by constructor<;>first|rfl|decide +kernel) (h1:np=(N.take np).length:=by rfl) (h2:(N.take np).length<=N.length:=by decide)
  (bn:∀ f fd,Fun K n n (c7 i) f fd->Binds K fd (N.take np) []:=by exact λ_ _ F=>F.binds λ_ _ _ _ _ _ us h=>by rcases us with _|⟨_,_|⟨_,_|⟨_,_|⟨_,_|⟨_,_⟩⟩⟩⟩⟩<;>first|(simp at h;done)|rfl):Def P w K mg base n (k+1) (N.take np) (tp K n0 (bx np N.length b)):=
 let ⟨_,_,F,a⟩:=Hh
 ⟨_,_,OI F S h1 h2 λbz A outer s H E P0 hr=>hb hr ⟨⟩ S.nd (JU hr) (EL hr),LG Q.X Q.G a,F.kp,bn _ _ F⟩
theorem Hs.dO(Hh:Hs K n i)(k n0 np:Nat)(N:List aE)(b:SF)
  (hb:∀ {f:aC} {bz:aF} {A:cE} {outer:List eQ} {s:aI} {H H0:Hp} {E:XK} {P0:aC->Prop} (hr:Room k (A.deeper (yE n (dI (c7 i)) s.heap.objs.size f bz))),Sx (dI (c7 i)).names N->N.Nodup->(A.deeper (yE n (dI (c7 i)) s.heap.objs.size f bz)).units+100<cLine->(A.deeper (yE n (dI (c7 i)) s.heap.objs.size f bz)).units+40<cLine->gb (nF jc P w K mg base N n (dI (c7 i)) f bz A outer s H E).nox H0 P0 n0 (mW (c7 i)) b)
  (S:FnScope N (N.take np) (dI (c7 i)):=by constructor<;>first|rfl|decide +kernel) (h1:(N.take np).length=2:=by rfl) (h2:2<=N.length:=by decide)
  (bn:∀ f fd,Fun K n n (c7 i) f fd->Binds K fd (N.take np) []:=by exact λ_ _ F=>F.binds λ_ _ _ _ _ _ us h=>by rcases us with _|⟨_,_|⟨_,_|⟨_,_|⟨_,_|⟨_,_⟩⟩⟩⟩⟩<;>first|(simp at h;done)|rfl):Def P w K mg base n (k+1) (N.take np) (ya K n0 (uy N.length b)):=
 let ⟨_,_,F,a⟩:=Hh
 ⟨_,_,Hw F S h1 h2 λbz A outer s H H0 E P0 hr=>hb hr ⟨⟩ S.nd (JU hr) (EL hr),LG Q.X Q.G a,F.kp,bn _ _ F⟩
def VV:=Hs.dd Q Q.a1 0 1 1 ["lines","names","line","term"] VT λhr hS nd hu hv=>by
 rw[9];refine QF 1 .s .s hv NZ ?_;rw[9];refine qE (Qi rfl) Rc rfl Q.B.list LM ?_;rw[9]
def RN:=Hs.dd Q Q.a2 0 0 2 ["terms","known"] RY λhr hS nd hu hv=>by
 rw[9]
def zV:=Hs.dd Q Q.a3 0 1 3 ["line","row","known","found","term","number","wanted"] Aa λhr hS nd hu hv=>by
 rw[9];exact AX;rw[9];refine qE Qe Ql rfl Q.B.dict CK ?_;rw[9];refine uE nO rfl ?_ ?_ ?_;refine EW rfl Q.B.zip ?_;rw[9];refine Fn 6 3 .s .s .s .s nd ?_ ?_ ?_ ?_;rw[9];exact AX;rw[9]
def TU:=Hs.dd Q Q.a4 0 0 2 ["book","line"] UT λhr hS nd hu hv=>by
 rw[9]
def Nz:=Hs.dd Q Q.a5 0 0 1 ["rows","number","own"] US λhr hS nd hu hv=>by
 rw[9];refine qF (UC rfl) VB rfl Q.B.max PyProof.Rows.boot_max ?_;rw[9]
def uX:=Hs.dd Q Q.a6 0 0 2 ["_law_script","_law_k"] WV λhr hS nd hu hv=>by
 rw[9]
def WN:=Hs.dd Q Q.a7 0 0 3 ["_law_cell_here","_law_k","_law_size","_law_number"] WS λhr hS nd hu hv=>by
 rw[9]
def Rg:=Hs.dd Q Q.a8 0 1 3 ["_law_kind","_law_k","_law_count"] XR λhr hS nd hu hv=>by
 rw[9];refine HV rfl rfl Q.B.list rfl Q.B.range ?_;refine qF (Yj rfl) Yg rfl Q.B.min PyProof.Rows.boot_min ?_;rw[9]
def IT:=Hs.dd Q Q.a9 0 1 2 ["_law_terms","_law_row_here","_law_known","_law_term","_law_value_here"] WC λhr hS nd hu hv=>by
 rw[9];refine uE nO rfl ?_ ?_ ?_;refine EW rfl Q.B.zip ?_;rw[9];refine Iy 2 .s .s .s hu ?_ ?_ ?_ ?_;rw[9];exact AX;rw[9];exact AX;rw[9]
def YS:=Hs.dd Q Q.a10 0 0 2 ["_law_one","_law_other","_law_name"] YT λhr hS nd hu hv=>by
 rw[9];refine uE nO rfl ?_ ?_ ?_;refine Lc ?_;rw[9]
def Pi:=Hs.dd Q Q.a11 0 0 2 ["_law_lines_here","_law_left","_law_k","_law_elsewhere","_law_j","_law_lacks"] WD λhr hS nd hu hv=>by
 rw[9];refine UU 3 .s ?_;refine jV (n:=1) ?_;refine qE (JB rfl) WO rfl Q.B.dict CK ?_;rw[9];exact(HU (i:=5) .s rfl nd rfl (by first|exact fG rfl|exact iU rfl) (qJ (N:=["_law_term","_law_elsewhere","_law_lines_here","_law_j"]) (cap:=[ae,aa 3,aa 0,aa 4]) (out:=(dI (c7 47)).names) (XN:=(["_law_lines_here","_law_left","_law_k","_law_elsewhere","_law_j","_law_lacks"]:List aE)) rfl rfl (by rw[0]) rfl) pW (zZ (rD hv (rD hv (eO 0) (eO 2) (λ_ _=>rfl)) jM (λ_ _=>rfl))) (λcl C s₀ H₀ ex=>⟨uR (j:=0) (show(["_law_term","_law_elsewhere","_law_lines_here","_law_j"]:List aE).Nodup by rw[0]) rfl (fG rfl),AR (DV (YZ (kL (GZ hu) wN (eO 0) (eO 1) (by with_unfolding_all rfl)) (QR (kL (WU hu) wN (eO 0) (rD hv (rD hv (eO 2) (eO 3) (λ_ _=>rfl)) jM (λ_ _=>rfl)) (by with_unfolding_all rfl))))),(eO 0)⟩))
 rw[9]
def So:=Hs.dd Q Q.a12 1 0 2 ["lines","known"] YN λhr hS nd hu hv=>by
 have:=RN Q;rw[9]
def Wv:=Hs.dd Q Q.a13 1 1 2 ["lines","k","elsewhere"] RC λhr hS nd hu hv=>by
 have:=VV Q;rw[9];refine Lw ?_ ?_;refine KL ?_ rX ?_;rw[9];refine sA ?_;rw[9];refine KL ?_ ?_ rX;rw[9];refine sA ?_;rw[9]
def Si:=Hs.dd Q Q.a14 1 0 1 ["rows"] BS λhr hS nd hu hv=>by
 have:=Nz Q;obtain⟨_,gt⟩:=Q.c1;rw[9];exact(Vq (i:=4096) rfl (LG Q.X Q.G gt) ⟨_,rfl⟩);rw[9]
def Qq:=Hs.dd Q Q.a15 1 1 3 ["found","line","rows","told","known","row","more"] XA λhr hS nd hu hv=>by
 have:=zV Q;rw[9]
def Yk:=Hs.dd Q Q.a16 1 1 2 ["book","line"] TM λhr hS nd hu hv=>by
 have:=zV Q;have:=TU Q;rw[9];refine qF XY XD rfl Q.B.sorted Yx ?_;rw[9]
def Wa:=Hs.dd Q Q.a17 1 1 2 ["line","other"] SU λhr hS nd hu hv=>by
 have:=VV Q;rw[9]
def Wq:=Hs.dd Q Q.a18 1 0 3 ["line","row","names"] RT λhr hS nd hu hv=>by
 have:=RN Q;have:=zV Q;rw[9]
def Mk:=Hs.dd Q Q.a19 1 1 2 ["head","row"] Bl λhr hS nd hu hv=>by
 have:=zV Q;rw[9]
def xT:=Hs.dd Q Q.a20 1 0 2 ["_law_script","_law_k","_law_cell_here"] YB λhr hS nd hu hv=>by
 have:=uX Q;rw[9];exact(YX jM jM);exact(YX jM jM);rw[9]
def XZ:=Hs.dd Q Q.a21 1 1 1 ["_law_script"] XX λhr hS nd hu hv=>by
 have:=uX Q;rw[9]
def Qs:=Hs.dd Q Q.a22 1 1 2 ["_law_book_here","_law_lines_here","_law_lists","_law_table","_law_terms","_law_some_here","_law_left","_law_ear_here","_law_k","_law_j","_law_beneath","_law_row_here","_law_known"] XS λhr hS nd hu hv=>by
 have:=IT Q;have:=YS Q;have:=Pi Q;rw[9];exact(HU (i:=5) .s rfl nd rfl (by first|exact fG rfl|exact iU rfl) (qJ (N:=["_law_row_here","_law_terms"]) (cap:=[ae,aa 4]) (out:=(dI (c7 48)).names) (XN:=(["_law_book_here","_law_lines_here","_law_lists","_law_table","_law_terms","_law_some_here","_law_left","_law_ear_here","_law_k","_law_j","_law_beneath","_law_row_here","_law_known"]:List aE)) rfl rfl (by rw[0]) rfl) pW (zZ (GJ hv (eO 0) (eO 3) (jV (n:=1) (zO oI)))) (λcl C s₀ H₀ ex=>⟨uR (j:=0) (show(["_law_row_here","_law_terms"]:List aE).Nodup by rw[0]) rfl (fG rfl),AR (kL PX SW (jV (n:=1) (wB (by assumption) (hr.mono nofun) rfl (mC (eO 1) (mC (eO 0) oI)))) wH (kI _)),(eO 0)⟩))
 rw[9];refine jV (n:=1) ?_;refine qF XY XD rfl Q.B.sorted Yx ?_;rw[9];refine HV rfl rfl Q.B.list rfl Q.B.range ?_;rw[9];refine RD .s 100 nO ?_ ?_;rw[9];refine PQ .s ?_ ?_;rw[9];exact(Jc 10 2 .s rfl nd rfl (by first|exact fG rfl|exact iU rfl) (qJ (N:=["_law_row_here","_law_lines_here","_law_k"]) (cap:=[ae,aa 1,aa 8]) (out:=(dI (c7 48)).names) (XN:=(["_law_book_here","_law_lines_here","_law_lists","_law_table","_law_terms","_law_some_here","_law_left","_law_ear_here","_law_k","_law_j","_law_beneath","_law_row_here","_law_known"]:List aE)) rfl rfl (by rw[0]) rfl) pW (NM (eO 8) (λ_ _=>rfl)) (λcl C s₀ H₀ ex=>⟨uR (j:=0) (show(["_law_row_here","_law_lines_here","_law_k"]:List aE).Nodup by rw[0]) rfl (fG rfl),wY,(jV (n:=1) (wB (by assumption) (hr.mono nofun) rfl (mC (rD hv (rD hv (eO 1) (eO 2) (λ_ _=>rfl)) jM (λ_ _=>rfl)) (mC (eO 0) oI))))⟩))
 rw[9];refine Tv 2 .s nO rfl (NM (eO 9) (λ_ _=>rfl)) ?_ ?_
 rw[9];refine FM 2 .s .s ?_ ?_;rw[9];refine VN 6 .s ?_;rw[9]
def Sv:=Hs.dd Q Q.a23 1 0 2 ["_law_book_here","_law_lines_here","_law_found","_law_table","_law_terms","_law_longer","_law_known","_law_row_here","_law_more"] YR λhr hS nd hu hv=>by
 have:=IT Q;have:=YS Q;rw[9];refine UU 8 .s ?_;rw[9];refine zT JY FD ?_ jM (kI _);rw[9]
def Rq:=Hs.dd Q Q.a24 2 0 3 ["lines","left","k","wanted","j"] XI λhr hS nd hu hv=>by
 have:=Wv Q;rw[9];refine Nh ?_ ?_;rw[9];refine qF (Yh rfl) Ym rfl Q.B.all boot_all ?_;rw[9];refine zT (GZ hu) wN ?_ ?_ (by with_unfolding_all rfl)
 rw[9]
def Sj:=Hs.dd Q Q.a25 2 0 2 ["book","lines"] BV λhr hS nd hu hv=>by
 have:=TU Q;have:=Si Q;rw[9]
def Wm:=Hs.dd Q Q.a26 2 0 2 ["lines","rows","found","line","own"] SK λhr hS nd hu hv=>by
 have:=Qq Q;rw[9];refine uE nO rfl ?_ ?_ ?_;refine EW rfl Q.B.zip ?_;rw[9]
def Sl:=Hs.dd Q Q.a27 2 2 2 ["book","lines"] YE λhr hS nd hu hv=>by
 have:=Yk Q;rw[9];refine Ji rfl (qJ (N:=["line","book"]) (cap:=[ae,aa 0]) (out:=(dI (c7 24)).names) (XN:=(["book","lines"]:List aE)) rfl rfl (by rw[0]) rfl) pW ?_ (λcl C s₀ H₀ ex=>⟨uR (j:=0) (show(["line","book"]:List aE).Nodup by rw[0]) rfl (fG rfl),wY,(wB (by assumption) (hr.mono nofun) rfl (mC (eO 1) (mC (eO 0) oI)))⟩)
 rw[9]
def Ss:=Hs.dd Q Q.a28 2 1 4 ["line","rows","other","others","names","met"] YL λhr hS nd hu hv=>by
 have:=Wa Q;have:=Wq Q;rw[9];refine qE (Rx hu rfl) Ro rfl Q.B.dict CK ?_;rw[9]
def Rn:=Hs.dd Q Q.a29 2 0 1 ["_law_script","_law_first","_law_names_here","_law_count","_law_lines_here","_law_k","_law_cell_here","_law_some_here","_law_terms","_law_j","_law_more","_law_own"] XW λhr hS nd hu hv=>by
 have:=uX Q;have:=Rg Q;have:=xT Q;have:=XZ Q;rw[9];refine qF (UC rfl) VB rfl Q.B.max PyProof.Rows.boot_max ?_;rw[9];refine FM 8 .s .a ?_ ?_;rw[9]
def YF:=Hs.dd Q Q.a30 2 1 2 ["_law_script","_law_cell_here","_law_values_here","_law_k","_law_name"] YD λhr hS nd hu hv=>by
 have:=WN Q;have:=xT Q;have:=XZ Q;rw[9];refine uE nO rfl ?_ ?_ ?_;refine Lp rfl Q.B.enumerate ?_;rw[9];refine QF 2 .s .s hv ?_ ?_;rw[9]
def Rl:=Hs.dd Q Q.a31 2 0 2 ["_law_script","_law_lines_here","_law_there","_law_line","_law_head_here","_law_at","_law_cell_here"] WW λhr hS nd hu hv=>by
 have:=uX Q;have:=xT Q;rw[9]
def Se:=Hs.dd Q Q.a32 2 0 3 ["_law_book_here","_law_alternative","_law_row_here","_law_head_here","_law_lines_here","_law_known"] YI λhr hS nd hu hv=>by
 have:=IT Q;have:=Qs Q;have:=Sv Q;rw[9];refine PQ .s ?_ ?_;rw[9];refine jV (n:=1) ?_;refine EY (out:=[(".0",.local),("_law_line",.local),("tuple",.globalImplicit),("_law_known",.cell)]) (XN:=["_law_line","_law_known"]) ⟨⟩ ?_ (λ_ _ _ _ _=>?_) (λ_ _ _ _ _=>?_)
 rw[9];rw[9]
def Rf:=Hs.dd Q Q.a33 3 0 2 ["lines","left","k","parent"] WX λhr hS nd hu hv=>by
 have:=Rq Q;rw[9]
def Qx:=Hs.dd Q Q.a34 3 2 2 ["_law_script","_law_lines_here","_law_book_here","_law_cap","_law_values_here","_law_table","_law_terms","_law_row_here","_law_width","_law_k","_law_cell_here"] XF λhr hS nd hu hv=>by
 have:=uX Q;have:=WN Q;have:=xT Q;have:=YF Q;rw[9];exact Wu;rw[9];refine RQ 2 .s .s .a hu ?_ ?_ ?_ ?_;rw[9];refine ON 2 .s .s hv ?_ ?_;rw[9];refine Lf 2 .s hv ?_;rw[9];refine Gv ?_;rw[9];refine RQ 2 .s .s .a hu ?_ ?_ ?_ ?_;rw[9];refine ON 2 .s .s hv ?_ ?_;rw[9];exact(Mr 2 rfl (qJ (N:=["_law_table","_law_rows"]) (cap:=[ae,ae]) (out:=(dI (c7 42)).names) (XN:=(["_law_script","_law_lines_here","_law_book_here","_law_cap","_law_values_here","_law_table","_law_terms","_law_row_here","_law_width","_law_k","_law_cell_here"]:List aE)) rfl rfl (by rw[0]) rfl) (λcl C s₀ H₀ ex=>⟨EX rfl (uQ (oM (i:=0) (show(["_law_table","_law_rows"]:List aE).Nodup by rw[0]) rfl (fG rfl)) (uQ (oM (i:=1) (show(["_law_table","_law_rows"]:List aE).Nodup by rw[0]) rfl (fG rfl)) FR)),AR (kL JY FD (qF WQ VA rfl Q.B.len PySem.boot_len (mC (eO 1) oI)) jM (kI _)),AA (eN (zX (i:=0) rfl (fG rfl)) (eN (zX (i:=1) rfl (fG rfl)) gY))⟩) rfl Q.B.dict CK)
 rw[9]
def Pq:=Hs.dd Q Q.a35 3 0 2 ["_law_script","_law_head_here","_law_cell_here","_law_values_here","_law_row_here"] WB λhr hS nd hu hv=>by
 have:=uX Q;have:=xT Q;have:=YF Q;rw[9];exact(HU (i:=4) .s rfl nd rfl (by first|exact fG rfl|exact iU rfl) (qJ (N:=["_law_term","_law_values_here"]) (cap:=[ae,aa 3]) (out:=(dI (c7 44)).names) (XN:=(["_law_script","_law_head_here","_law_cell_here","_law_values_here","_law_row_here"]:List aE)) rfl rfl (by rw[0]) rfl) pW (zZ (eO 1)) (λcl C s₀ H₀ ex=>⟨uR (j:=0) (show(["_law_term","_law_values_here"]:List aE).Nodup by rw[0]) rfl (fG rfl),wY,(GJ hv (eO 1) (eO 0) (eO 0))⟩))
 rw[9];refine FM 4 .s .a ?_ ?_;rw[9]
def KH:=Hs.dd Q Q.a36 4 2 1 ["lines","taken","left","ear"] ZO λhr hS nd hu hv=>by
 have:=Rf Q;rw[9];refine HV rfl rfl Q.B.list rfl Q.B.range ?_;rw[9];refine RD .s 100 nO ?_ ?_;rw[9];refine VN 2 .s ?_;rw[9];exact(Xq 1 2 nofun)
def Iw:=Hs.dd Q Q.a37 5 1 1 ["lines","rest"] ZH λhr hS nd hu hv=>by
 have:=KH Q;rw[9];refine Xd .a 1 ?_ ?_;rw[9]
def Sr:=Hs.dO Q Q.a38 5 2 2 ["lines","kept","told","ear","parent"] YO λhr hS nd hu hv=>by
 have:=Ss Q;have:=KH Q;rw[9];exact(Sy 2 1 rfl rfl Q.B.list nd rfl (by first|exact fG rfl|exact iU rfl))
 rw[9];refine jV (n:=1) ?_;rw[9];refine Xp 2 .a .s ?_ ?_;rw[9]
def Ra:=Hs.dd Q Q.a39 5 0 2 ["lines","kept","rest"] XJ λhr hS nd hu hv=>by
 have:=Wm Q;have:=KH Q;rw[9];refine jV (n:=1) ?_;rw[9]
def Sf:=Hs.dd Q Q.a40 6 0 2 ["book","lines"] BU λhr hS nd hu hv=>by
 have:=Sj Q;have:=Iw Q;rw[9]
def Uw:=Hs.dd Q Q.a41 7 3 3 ["book","alternative","row","known","lines","kept"] Bn λhr hS nd hu hv=>by
 have:=So Q;have:=Mk Q;have:=Sl Q;have:=Sr Q;have:=Ra Q;have:=Sf Q;rw[9];refine PH .s ?_;rw[9];refine Uc (by assumption) (hr.mono nofun) rfl ?_ ?_
 rw[9];exact(PH .s wH);rw[9];exact(Vx 5)
def Sd:=Hs.dd Q Q.a42 8 0 3 ["_law_book_here","_law_alternative","_law_row_here","_law_wanted_here","_law_kept_here","_law_count","_law_found","_law_rows"] XT λhr hS nd hu hv=>by
 have:=Se Q;have:=Uw Q;rw[9];refine jV (n:=1) ?_;refine qE (JB rfl) WO rfl Q.B.dict CK ?_;rw[9];refine jV (n:=1) ?_;refine NW rfl (qJ (N:=["_law_table","_law_rows"]) (cap:=[ae,ae]) (out:=(dI (c7 51)).names) (XN:=(["_law_book_here","_law_alternative","_law_row_here","_law_wanted_here","_law_kept_here","_law_count","_law_found","_law_rows"]:List aE)) rfl rfl (by rw[0]) rfl) Ju ?_ (λcl C s₀ H₀ ex=>⟨Vs (i:=0) (j:=1) rfl (show(["_law_table","_law_rows"]:List aE).Nodup by rw[0]) rfl rfl (fG rfl) (fG rfl),wY,(Ai (mC (eO 0) (mC (jV (n:=1) (qE (JJ rfl) VR rfl Q.B.list LM (mC (eO 1) oI))) oI)))⟩)
 refine Vv ?_;rw[9];refine kL (Ic hu) Tt ?_ ?_ (kI _);rw[9];refine zT FI GO ?_ wH (kI _);rw[9];refine zT FI GO ?_ wH (kI _);rw[9];refine Aq (T:="tuple") rfl Q.B.isinstance rfl Q.B.tuple Yw nofun ?_
 rw[9];refine Mb 6 7 nO rfl nd rfl (by first|exact fG rfl|exact iU rfl) ?_
 rw[9];refine jV (n:=1) ?_;refine zR ?_ ?_ rX;rw[9];exact(sA jM);refine jV (n:=1) ?_;refine zR ?_ ?_ rX;rw[9];exact(sA jM);rw[9];refine Ms 6 ?_;rw[9]
end
set_option maxHeartbeats 4000000 in
theorem all_mk {P:bN}{w:bD}{h:aU}{mg:aE->Option aF}{fa:aC}(z3:mg "law" = aa (.ref fa))(Q:∀ base,Al P w K mg base h) :
  ∃ fd:kC,(∀ (s:aI) (v:aF),BindsTo s fd ⟨[v],[]⟩ [("_law_script",v)])/\∀ base:aU,K.In base->base.Ns jF mg->FnOk P w K mg base jc 10 fa fd ["_law_script"] (BW K):=by
 obtain⟨f,fd,F,a⟩:=(Q h).a43;cases z3.symm.trans (LG (Q h).X (Q h).G a);refine⟨fd,λs v=>?_,λbase _ _=>?_⟩
 .obtain⟨_,_,_,_,_,_,_,_,_,rfl,_⟩:=F.ex;exact .of_eq rfl
 have Q:=Q base;refine(OI F (N:=["_law_script","_law_lines_here","_law_book_here","_law_head_here","_law_row_here","_law_table","_law_terms"]) (ps:=["_law_script"]) (by constructor<;>first|rfl|decide +kernel) rfl nofun λbz A outer s H E P0 hr=>?_).imp Jp
 have hS:Sx (dI (c7 52)).names ["_law_script","_law_lines_here","_law_book_here","_law_head_here","_law_row_here","_law_table","_law_terms"]:=⟨⟩;have nd:(["_law_script","_law_lines_here","_law_book_here","_law_head_here","_law_row_here","_law_table","_law_terms"]:List aE).Nodup:=by rw[0]
 have hu:=JU hr;have hv:=EL hr;have:=Rn Q;have:=Rl Q;have:=Qx Q;have:=Pq Q;have:=Sd Q;rw[9];refine KL ?_ rX ?_;rw[9];exact(sA jM);rw[9];refine Ft ?_ ?_;refine Ob 2 .a .s hv ?_ ?_;refine zR ?_ ?_ rX;rw[9];exact(sA jM);rw[9];refine Xj 2 .a .s hv ?_ ?_;refine zR ?_ ?_ rX;rw[9];exact(sA jM);rw[9];refine Hz ?_ ?_;rw[9]
theorem walk {l:PySem.W.OpenLaw}{q:bN}{fw:List aE}{XP:(aE->Option aF)->aU->Prop}{YP:bD->aU->Prop}{d:DefRec}{K:Params->aK}(hn:l.most=aa 63)(sh:d.params.defaults=[])
  (hY:∀ (w:bD) (h:aU),YP w h->(K w.params).In h)
  (F:∀ (w:bD) (mg:aE->Option aF) (fa:aC) (h:aU),(K w.params).In h->h.Ns jF mg->mg d.name=aa (.ref fa) ->
   ∃ fd:kC,(∀ (s:aI) (u:aF),BindsTo s fd ⟨[u],[]⟩ [("_law_script",u)])/\∀ base:aU,(K w.params).In base->base.Ns jF mg->FnOk l.prog w (K w.params) mg base jc 10 fa fd ["_law_script"] (BW (K w.params))) :
  PySem.W.WalkO q fw XP YP l.row.toRowW d [] (λf vs=>PySem.call f vs):=
 L2.A2y (n:=63) (k:=10) (x:="_law_script") (CX:=λ_=>jc) (sp:=λw=>BW (K w.params)) hn nofun sh ⟨rfl,nofun,nofun⟩ hY F (λ_ _ a ns hb hl _ hS=>⟨a,ns,rfl,hS,hl,hb,λ_=>rfl⟩) λ_ _ _ _ _ z=>z
end Aw
namespace PySem.W.Fast
def tw17138215629681378146:=0
def tw13652961519788814883:=0
def tw4391271685314531143:=0
def tw1693472898351423604:=0
def tw7646607058333729021:=0
def tw14227001202191617885:=0
def tw17868066314039901392:=0
def tw12564920487811304981:=0
def tw14722978842172950338:=0
def tw13814012293741507147:=0
def tw1634627034368325851:=0
def tw400346246118647642:=0
def tw16338892861973961879:=0
def tw13808697408332085550:=0
def tw11166104487855097837:=0
def tw10070118387057089926:=0
def tw6554400009499765596:=0
def tw12855510457918550420:=0
def tw17321593872436202165:=0
def tw17207094091390774439:=0
def tw5674697942530859097:=0
def tw1341046634593401587:=0
def tw10540757401777709641:=0
def tw13874226018366552651:=0
def tw17557390111326202123:=0
def tw16542152559950588381:=0
def tw14744502779407458391:=0
def tw5377237386620727254:=0
def tw744852513997641606:=0
def tw1605663247863459372:=0
def tw11761421747701101071:=0
def tw12435556203338870182:=0
def tw14408266989794091045:=0
def tw163835736507833739:=0
def tw15905127019743071581:=0
def tw881315350287618002:=0
def tw945797263401091160:=0
def tw9472710213934698832:=0
def tw9259356146102107325:=0
def tw3089019410784989719:=0
def tw2682216759028094898:=0
def tw5783553268748923473:=0
def tw9216494257949395684:=0
def tw5200085509456543404:=0
def tw16215103456604468265:=0
def tw9653062648374810838:=0
def tw16042030198153092332:=0
def tw1046443108712159727:=0
def tw15470685407646965011:=0
def tw12445512760542316559:=0
def tw577971518532793540:=0
def tw12860408596830505832:=0
def tw11227354022699614758:=0
def tw9668746773252749290:=0
def tw11221316070229293944:=0
def tw987362472657698056:=0
def tw14130957743514581331:=0
def tw6342419793392798091:=0
def tw9732261836805981227:=0
def tw12039360989809845425:=0
def tw13115543300433635233:=0
def tw7065502185386867585:=0
def tw8135292759735903111:=0
def tw13211690607914959935:=0
def tw153246587188623392:=0
def tw3160843838560946662:=0
def tw17801335043609399318:=0
def tw18108028143792364465:=0
def tw10275537477165601229:=0
def tw1994646432636763286:=0
def tw11420750650826218773:=0
def tw15049413547423425370:=0
def tw15728988613589900617:=0
def tw50219647108564090:=0
def tw3792992996042688987:=0
def tw3351444356997799624:=0
def tw3012090817340593582:=0
def tw3885593934113314345:=0
def tw7033916912663710030:=0
def tw3439263750980415728:=0
def tw17187022837023637139:=0
def tw8818546549431530937:=0
def tw8905811876384032925:=0
def tw13301422850676923818:=0
def tw15690061486811007315:=0
def tw17609028054161320030:=0
def tw16444370971877660127:=0
def tw10649597414824738784:=0
def tw8962095460722050017:=0
def tw701803351905102905:=0
def tw15391926628489034272:=0
def tw609582240393205630:=0
def tw2761552051968999839:=0
def tw4136473486379412881:=0
def tw11361167279071869227:=0
def tw18114003899569345674:=0
def tw14574185220220982510:=0
def tw12736854130347111067:=0
def tw8786447251831461545:=0
def tw8535005025680013136:=0
def tw18379670949046799915:=0
def tw17283354077156214783:=0
def tw5225251060528684437:=0
def tw10049487096627792826:=0
def tw6982111367840163743:=0
def tw3131395832049529595:=0
def tw1670644168456018238:=0
def tw15792573694185125110:=0
def tw7946597486120309262:=0
def tw998021936338050827:=0
def tw18347456177509878319:=0
def tw576579342476059500:=0
def tw11789652298930461212:=0
def tw6142297905909090582:=0
def tw13925856681767759644:=0
def tw3127292703002126213:=0
def tw6468504216580862435:=0
def tw13615138491264553102:=0
def tw17816444656738922220:=0
def tw3121694674320466692:=0
def tw6042239505481092183:=0
def tw4051822290032527115:=0
def tw5523673189384802752:=0
def tw17410940367593325580:=0
def tw12841513939076058065:=0
def tw14371001374935079301:=0
def tw10390216098965793175:=0
def tw1023329769789882100:=0
def tw16042607130446226423:=0
def tw2555914953240597502:=0
def tw6705682827073702110:=0
def tw2764684097201092012:=0
def tw546106652598027175:=0
def tw9520801113191823396:=0
def tw16754108750951981881:=0
def tw10608162527811907829:=0
def tw1680336407433683678:=0
def tw10214967605058330571:=0
def tw11958450137205294853:=0
def tw17829295515394050369:=0
def tw13839129135974638042:=0
def tw2289415346073770365:=0
def tw17919931497969454526:=0
def tw12266498995050864478:=0
def tw15295578037155918591:=0
def tw4655561105835461821:=0
def tw12389817987965208397:=0
def tw2076176838796240352:=0
def tw1883956016977071509:=0
def tw7809253317619822006:=0
def tw2922167230028266321:=0
def tw550866511553803219:=0
def tw12877743339630036641:=0
def tw13381297407099576388:=0
def tw14922505058363142845:=0
def tw4511422459150994782:=0
def tw17490134772640099784:=0
def tw2336388017195173258:=0
def tw17240824227350312570:=0
def tw9929334906350831055:=0
def tw7468024852019281131:=0
def tw18214381057361128693:=0
def tw14347501919688372560:=0
def tw6381510534271912830:=0
def tw5898267521574289557:=0
def tw2660368633374632562:=0
def tw909074334412625826:=0
def tw13089029393106645762:=0
def tw16763060168122709329:=0
def tw6968226918845011254:=0
def tw17659404713378077490:=0
def tw2537630075207988247:=0
def tw9110082130170423444:=0
def tw13436524856958393405:=0
def tw5190895546284799908:=0
def tw5294766042526539306:=0
def tw18208155113645411122:=0
def tw4113898393540650537:=0
def tw3949880609627423607:=0
def tw15379581363790071647:=0
def tw10785222806255764878:=0
def tw5470406055231186914:=0
def tw9698291868384663007:=0
def tw11514877376600347744:=0
def tw11215308207957273624:=0
def tw17510474162613535638:=0
def tw6713985500733770082:=0
def tw13777452358819686055:=0
def tw8651758937499978352:=0
def tw17022927488674294698:=0
def tw2799747557264777211:=0
def tw17734930708675189332:=0
def tw15074245166945890692:=0
def tw17010809281278924622:=0
def tw16985189214821766865:=0
def tw16447703821867663460:=0
def tw11245526843252117967:=0
def tw512429766006444945:=0
def tw10701977077728792314:=0
def tw17388034083020884108:=0
def tw2558146840321491802:=0
def tw4503123657351284367:=0
def tw9134776785858550562:=0
def tw17362374086613735186:=0
def tw14497121682222401318:=0
def tw4886009658171259413:=0
def tw1230928539011986007:=0
def tw11795466935450664612:=0
def tw15412198757787901832:=0
def tw5246179584790556817:=0
def tw607228378520889896:=0
def tw7854116919625486262:=0
def tw10970475609118379649:=0
def tw17372279202066204802:=0
def tw3399459718079223348:=0
def tw18092572807620911391:=0
def tw3300781566978356814:=0
def tw15826145062717545698:=0
def tw17145454110686465006:=0
def tw16135710512260211365:=0
def tw9364933501455881106:=0
def tw11052646539884990692:=0
def tw8632796190059000050:=0
def tw7969394733320570841:=0
def tw1994771913267027029:=0
def tw9755166520478283721:=0
def tw10473587506998719021:=0
def tw16201375989603956710:=0
def tw15939030362110028120:=0
def tw1742626090355666452:=0
def tw15354050467200600524:=0
def tw14374889587966107768:=0
def tw13809237564167875307:=0
def tw7059920194600916220:=0
def tw12994985612439307201:=0
def tw17818648750419026229:=0
def tw5352191481859116968:=0
def tw11819044905157839926:=0
def tw17743315819891140684:=0
def tw1879761459642265840:=0
def tw10887567295686563193:=0
def tw13361314065275555119:=0
def tw16751723606534270243:=0
def tw4547232909629726406:=0
def tw6213113522789405774:=0
def tw4192754475349654709:=0
def tw10470916821972216001:=0
def tw6492091446837317169:=0
def tw15567016923578479996:=0
def tw9358957552852079564:=0
def tw8333769647135099311:=0
def tw11013932672163446981:=0
def tw7930351794320328026:=0
def tw6904704604091262884:=0
def tw1637489839277580381:=0
def tw14076102094567027985:=0
def tw16067242112508111692:=0
def tw8560506210318011090:=0
def tw8116700897085806071:=0
def tw12477696766128976315:=0
def tw15174531499263281239:=0
def tw16830654769415568597:=0
def tw14835945567501651689:=0
def tw14273356666007456163:=0
def tw4049394542939662998:=0
def tw2967124912847546199:=0
def tw11406704962843770413:=0
def tw17170103407616701722:=0
def tw14829949764157748393:=0
def tw4084623457853139090:=0
def tw18270480744088458272:=0
end PySem.W.Fast
open PySem PySem.W PyProof.Rows
set_option maxRecDepth 100000 in
set_option maxHeartbeats 0 in
theorem PySem.Challenge.cw_askwithin_k37_papers_written_holds : PySem.Challenge.rw_askwithin_k37_papers_written.Holds := by
 w_on;o_law;k_head;(case hw=>w_witness2)
 k_fill
 refine Aw.walk (l:=PySem.Challenge.rw_askwithin_k37_papers_written) rfl rfl (λw h ab=>PySem.W.kIn_of ab) ?F
 case F=>
  intro w mg fa h KX G sk;refine Aw.all_mk (h:=h) sk λ_=>?_;refine' ⟨KX,G,?_,?_,?_,?_,?_,?_,?_,?_,?_,?_,?_,?_,?_,?_,?_,?_,?_,?_,?_,?_,?_,?_,?_,?_,?_,?_,?_,?_,?_,?_,?_,?_,?_,?_,?_,?_,?_,?_,?_,?_,?_,?_,?_,?_,⟨?_,?_,?_,?_,?_,?_,?_,?_,?_,?_,?_,?_,?_,?_,?_,?_,?_⟩⟩;any_goals refine' Aw.Bhj ?_ ?_ ?_ ?_
  any_goals refine' Aw.Bgs ?_
  any_goals k_is
