import PyProof.Rows.All
import Wide.All
import OpenK.AllK
import Wide.FinOn
import Lean
import PyProof.EqAt
import PyProof.EqKinds
import PyProof.TupleCall
import PyProof.TupleOfStr
import PyProof.ListStr
import PyProof.ZipIter
import PyProof.TupleIter
import PyProof.EnumMake
import PyProof.ListRange
import PyProof.AttrMissHeap
import KE.KSortTup
import PyProof.Rows.SortShellK
import PyProof.SetKind
import PyProof.Rows.SetFrom
import PyProof.AutoListH
import PyProof.ListNew
import PyProof.FactsAll.list_2
import PyProof.CollectWalk
import PyProof.MeetsSeq2
import PyProof.FactsAll.list_4
import PyProof.AutoSeq1
import PyProof.ConsumeWalk
import PyProof.IsRules
import PyProof.DictItemsLoops
import PySem.Builtin.SmallTypes.W2All
import PyProof.ListMulRoad
import PyProof.Rows.SeqMore
import PyProof.FactsAll.tuple_2
import PyProof.StrOps2
import PyProof.WalksMore
import KE.KMinKey
import PyProof.Rows.CallKwBuiltin
import PyProof.FactsAll.zip_1
import PyProof.MeetsDictList
import PySem.Challenge.RW_askwithin_k38_papers_that_hold
open PySem renaming PyData->aA,Addr->aD,Str->aE,Value->aF,Shared->aI,wpAny_bind->aK,Expr->aR,Heap->aU,wpAny->aW,model->aY,wpAny_pure->aZ,World->bE,Obj->bK,Pos->bL,Program->bP,eval->bW,starEach->cA,Around->cE,Env->dP,Stmt->eO,assignEach->eQ,Paired->eW,Scope->fZ,wpAny_holding->iA,compareOp->iB,cellsFrom->iC,assign->iI,swapsWith->iO,backTo->iQ,NameKind->iR,sysModules->jH,mainGlobals->jI,wpAny_mono->jO,rawInt->jP,binaryOp->jQ,wpAny_field->kE,FuncData->kI,holding->kX,SetTable->kY,Spec->kZ,wpAny_call_entry->lT,bootBuiltins->lV,wpAny_seqItems->mS,pyNext->oI,merged->oJ,codeAny->oK,atKey->oM,IsPart->oY,wpAny_newObj_type->pT,storedH->pU,getItem->pV,ReadsAll->pW,Reads->pX,DictEntry->qB,foldedSetIterable->rC,IsPair->rL,wpAny_typeOf->tN,wpAny_callSpecial?_slot->tO,stored->tP,pyIter->tQ,behindInMarks->tR,wpAny_rule->vM,wpAny_passesOwn->vN,valueAt->vO,sliceBounds->vP,relabel->vQ,callerA->vR,attributeBase->vT,mem_of_lookup->vV,wpAny_truthy_bool->yX,wpAny_specialOf->yY,wpAny_setField_rec->yZ,wpAny_pyIter_list->zF,sizeLine_eq->zG,plainId_quiet->zH,codeAny_builtin->zI,call_meets->zJ,PassesOwn->zO,GenState->zW,swapsWithSole->DY,swappedStores->DZ,wpAny_typeNameOf_keyiter->LY,wpAny_typeNameOfWhole_keyiter->LZ,wpAny_standAt->MA,wpAny_setField->MB,wpAny_onRaise->MC,wpAny_newList->MD,wpAny_letGo->ME,wpAny_isInstance->MF,wpAny_execs_nil->MG,wpAny_attempt->MH,subscripted->MI,letOwnedTupleGo->MK,concat_meets->ML,call_meetsIn->MM,wpAny_updateSeq_pair->Di,wpAny_dictEntries->Dj,wpAny_Call_Name_kw->Dk,noFill_tuple_add->Dl
open PySem.W renaming Frag->aM,kia_one->lW,fnOf->vW,nsIn->zK,keepIn->EA,mg_of->MN,codeIn->MO,methodObj->Dm,lookIn->Dn,kitx_list->Do,kitx_dict->Dp,kitOne->Dq,instObj->Dr
open PySem.PyData renaming int->bA,eqv->bX,canLay0->cI,depthAll->cY,str->dF,tuple->dG,bool->fA,depth->lX,eqvAll->oQ,list->vX,canLayAll0->zN,strOk->EE
open Option renaming bind_some->bB,map_eq_some_iff->jR,map_eq_none_iff->tX,isSome_iff_exists->vY,map_some->EG,none->MS,isSome_map->MT
open Nat renaming le_refl->bI,le_trans->cL,zero_le->eB,ne_of_lt->eD,lt_of_lt_of_le->jK,lt_irrefl->mT,le_of_lt->pY,ne_of_gt->rD,pow_succ->vZ,le_succ_of_le->wA,le_succ->zP,mul_le_mul->EH,mod_lt->EI,lt_of_le_of_lt->EJ,succ_mul->MV,pow_le_pow_right->MW,add_assoc->MX,lt_trichotomy->Ea,le_of_not_lt->Eb
open List renaming mem_cons_of_mem->bN,mem_cons_self->bO,length_map->bR,mem_map->bU,mem_singleton->cM,range->cP,map_cons->cT,getElem?_eq_some_iff->cW,mem_cons->cZ,mem_append->dH,size_toArray->dX,map_map->eE,getElem?_eq_getElem->eR,mem_of_getElem?->eX,find?_cons->fH,getElem?_map->fN,length_cons->fU,mem_flatten->gA,mem_filter->gC,all_eq_true->gD,map_append->gJ,getD_eq_getElem?_getD->hG,toArray->iE,any_eq_true->iF,nodup_cons->iJ,filter_eq_self->iK,mem_range->iS,flatten_cons->iT,length_append->jS,nodup_append->kG,getElem_mem->kH,append_nil->lY,mem_append_right->mU,map_congr_left->mV,getElem?_set_ne->mW,replicate->oU,length_zip->oV,length_filter_le->oW,foldl_cons->oX,getElem?_set_self->pZ,eraseIdx_cons_succ->qA,take_length->rE,mem_filterMap->rF,length_set->rG,getElem_of_mem->rH,find?_eq_none->rJ,any_cons->rK,zipWith->wB,take_succ->wC,of_mem_zip->wD,mem_of_find?_eq_some->wF,mem_flatMap->wG,length_filterMap_le->wH,append_assoc->wI,getElem?_eq_none->zQ,findSome?_cons->zR,cons_lt_cons_iff->zS,any_map->zT,length_take->EK,length_range->EL,length_eq_zero_iff->EM,getElem?_append_left->EN,any_eq_false->EO,zip_cons_cons->NB,take_add_one->NC,not_mem_nil->ND,mem_append_left->NF,lookup_cons->NG,getElem?_append_right->NH,foldl_append->NI,find?_some->NJ,filter_cons->NK,filterMap_cons->NL,drop_eq_getElem_cons->NM,cons_append->NN,nodup_nil->Ec,ne_nil_of_mem->Ed,mem_iff_getElem?->Ee,length_singleton->Ef,length_erase_of_mem->Eg,length_drop->Eh,getElem_zip->Ei,forIn_cons->Ej,flatMap_cons->Ek,find?_append->Em,ext_getElem->En,exists_mem_of_ne_nil->Eo,pairwise_iff_getElem->b8,length_pos_iff_exists_mem->b9,exists_of_findSome?_eq_some->c7,eraseIdxIfInBounds_toArray->c8
open PySem.Heap renaming lt_size->bZ,get?_push_of_some->cD,get?_push_size->dM,size_push->rM,SameBut->wJ,get?_update_self->zU,get?_update_other->ER,ExtBut->ES
open Or renaming inl->dW,inr->fM
open PySem.Value renaming ref->fR,none->fT,type->oO,str->tT,int->tU
open Bool renaming and_eq_true_iff->gE,eq_iff_iff->hJ,false_ne_true->mB,true_and->pA,false_eq_true->qC,and_eq_true->tZ,and_self->wK,eq_false_iff->NW,not_eq_true'->Ey
open Option.some renaming inj->gQ
open PySem.Obj renaming mapSeq->iD,data_mapFields->MU
open PyProof.Rows renaming seqObj->iP,AllBare->rN,envOfC->zM,boot_list->EC,boot_dict->ED,slot_tuple_getitem->MJ,slot_tuple_getitem->Dw,callWith_type1->Dx,boot_max->Dy,mulOk_of_bits->Zz,boot_sorted->b7
open Sum renaming inr->jJ,inl->vU
open Ne renaming symm->kF
open PySem.Builtin.Int renaming intBits->kJ
open PySem.NameKind renaming free->lA,cell->MY
open False renaming elim->mX
open True renaming intro->oP
open PySem.Paired renaming length->oR
open Int renaming ofNat->oZ,toNat_natCast->NO,natCast_mul->Ep,eq_ofNat_of_zero_le->Er
open PySem.F renaming plainAttrs_list->tV,plainAttrs_dict->zL,slot_dict_setdefault->EB,slot_dict_keyiterator_next->ET,type_list_append->MP,type_dict_setdefault->MQ,slot_list_append->MR,slot_zip_next->NP,slot_tuple_iterator_next->NQ,slot_tuple_hash->NR,slot_tuple_add->Ds,slot_dict_get->Dt,entry_tuple_add->Du,args_tuple_add_2->Dv,slot_list_getattribute->Es,slot_list_index->Zw,slot_dict_update->Zx,args_dict_get_3->Zy,slot_dict_itemiterator_iter->d5,entry_dict_keyiterator_next->d6,args_dict_keyiterator_next_1->d7
open PySem.PassesOwn renaming never->tW
open Classical renaming byContradiction->tY
open PySem.Heap.SameBut renaming update->zV
open ForInStep renaming yield->zX
open PySem.Builtin.Tuple renaming tupleHashOf->zY,tupleExact->NS,tupleItemsOf->Ew
open PySem.Builtin.SmallTypes renaming nextOf->zZ,ownedTupleIsFree->d8
open PySem.Around renaming under_plainId->AA
open PySem.Builtin.Str renaming strSliceIndices->EU,occurrences->NT
open Array renaming length_toList->EV,getElem?_toList->EW,getElem?_eq_some_iff->EX,getElem?_eq_getElem->EY,toList_inj->Ez,getD_eq_getD_getElem?->d9
open Array.Perm renaming refl->EZ
open PySem.MeetsSeq renaming plain_index_loop->MZ,EqGives->NA
open PySem.Builtin.Slice renaming slicePlaces->NU,sliceAdjust->Ex
open PySem.Builtin.List renaming listExtendWith->NV
open PySem.PyData.tuple renaming inj->Dz
open PySem.Calls renaming spliced_cons->Et,callWith_builtin->Eu
open List.Nodup renaming length_le_of_subset->c9
theorem aj {α β:Type}{x:Option α}{f:α->Option β}{b:β}(h:x.bind f=some b) : ∃ a,x=some a/\f a=some b:=Option.bind_eq_some_iff.1 h
set_option Elab.async false
set_option compiler.extract_closed false
set_option bootstrap.genMatcherCode false
set_option genSizeOfSpec false
set_option linter.all false
set_option maxRecDepth 100000
set_option exponentiation.threshold 2000
noncomputable section
local macro_rules|`(())=>`(by lia)
local macro_rules|`(nofun)=>`(by decide)
set_option hygiene false in
local macro_rules|`(tactic|rw[00])=>`(tactic|exact hr.mono nofun)
set_option hygiene false in
local macro_rules|`(tactic|rw[0])=>`(tactic|decide +kernel)
set_option hygiene false in
local macro_rules
|`(tactic|rw[1])=>`(tactic|(
 obtain⟨d,e,rfl⟩:=this;exact e))
|`(tactic|rw[2])=>`(tactic|(
 intro X hP hw hK hc i ad s Z H E I hf st hg;subst hP hw hK))
|`(tactic|rw[3])=>`(tactic|intro ad s Z H x y v u Q I rx ry h)
|`(tactic|rw[4])=>`(tactic|obtain⟨P,Y,d,hP,rs,ef,k⟩:=gh)
|`(tactic|rw[5])=>`(tactic|intro ad s Z H xs us Q I r h)
|`(tactic|rw[6])=>`(tactic|obtain⟨B0,Y,fp,o,S,ef,k⟩:=gh)
|`(tactic|rw[7])=>`(tactic|refine dB rfl ?_)
|`(tactic|rw[8])=>`(tactic|obtain⟨v,rfl,r'⟩:=fQ r)
|`(tactic|rw[9])=>`(tactic|intro ad s Z H Q I h)
|`(tactic|rw[10])=>`(tactic|subst this)
|`(tactic|rw[11])=>`(tactic|sleep 0)
local macro_rules|`(tactic|trivial)=>`(tactic|first|exact dW rfl|exact fM rfl)
open Option renaming some->aa,none->ab
open Bool renaming true->af,false->ag
namespace L2
open PySem PySem.Spec PyProof.Rows
variable {h h' base:aU}{ks:List aA}{a b f C dx:aD}{xs:List (List aA×aD×aF)}{us:List aF}{x:aE}{u:aF}{o:bK}{t' i j ep:Nat}{ch fp:List aD}{e c tg:aR}{M:Model}{A:cE}{E Q:aF->aI->Prop}{s' s:aI}{pos p:bL}{ad:List (aD×bK)}{K:aM}{es:List aR}{body:List eO}{op:CmpOp}{mg:aE->Option aF}{fd:kI}{ps:List aE}{prog:bP}
instance decEqData:DecidableEq aA:=λa b=>Classical.propDecidable (a=b)
mutual
def bS:aA->Bool
 |.int _=>af
 |.str x=>cI (.str x)
 |.tuple ds=>bY ds
 |_=>ag
def bY:List aA->Bool
 |[]=>af
 |d::r=>bS d&&bY r
end
mutual
theorem JL:∀ d:aA,bS d=af->d.canLay0=af
 |.int _,_=>by simp[cI]
 |.str x,h=>by simpa [bS] using h
 |.tuple ds,h=>by
  simp only[cI];exact VY ds (by simpa [bS] using h)
 |.none,h=>by simp[bS] at h
 |.bool _,h=>by simp[bS] at h
 |.list _,h=>by simp[bS] at h
 |.dict _,h=>by simp[bS] at h
theorem VY:∀ ds:List aA,bY ds=af->zN ds=af
 |[],_=>by simp[zN]
 |d::r,h=>by
  have h':bS d=af/\bY r=af:=by simpa [bY] using h
  simp only[zN,JL d h'.1,VY r h'.2,wK]
end
mutual
theorem BW:∀ x y:aA,bS x=af->bS y=af->bX x y=decide (x=y)
 |.int i,.int j,_,_=>by
  by_cases e:i=j
  .subst e;simp[bX]
  .have:¬ bA i=.int j:=λq=>e (PyData.int.inj q)
   simp[bX,e]
 |.str i,.str j,_,_=>by
  by_cases e:i=j
  .subst e;simp[bX]
  .simp[bX,e]
 |.tuple xs,.tuple ys,h1,h2=>by
  have e:=yG xs ys (by simpa [bS] using h1) (by simpa [bS] using h2)
  simp only[bX,e]
  grind
 |.int _,.str _,_,_=>by simp[bX]
 |.int _,.tuple _,_,_=>by simp[bX]
 |.str _,.int _,_,_=>by simp[bX]
 |.str _,.tuple _,_,_=>by simp[bX]
 |.tuple _,.int _,_,_=>by simp[bX]
 |.tuple _,.str _,_,_=>by simp[bX]
 |.none,_,h,_=>by simp[bS] at h
 |.bool _,_,h,_=>by simp[bS] at h
 |.list _,_,h,_=>by simp[bS] at h
 |.dict _,_,h,_=>by simp[bS] at h
 |.int _,.none,_,h=>by simp[bS] at h
 |.int _,.bool _,_,h=>by simp[bS] at h
 |.int _,.list _,_,h=>by simp[bS] at h
 |.int _,.dict _,_,h=>by simp[bS] at h
 |.str _,.none,_,h=>by simp[bS] at h
 |.str _,.bool _,_,h=>by simp[bS] at h
 |.str _,.list _,_,h=>by simp[bS] at h
 |.str _,.dict _,_,h=>by simp[bS] at h
 |.tuple _,.none,_,h=>by simp[bS] at h
 |.tuple _,.bool _,_,h=>by simp[bS] at h
 |.tuple _,.list _,_,h=>by simp[bS] at h
 |.tuple _,.dict _,_,h=>by simp[bS] at h
theorem yG:∀ xs ys:List aA,bY xs=af->bY ys=af->oQ xs ys=decide (xs=ys)
 |[],[],_,_=>by simp[oQ]
 |[],_::_,_,_=>by simp[oQ]
 |_::_,[],_,_=>by simp[oQ]
 |x::xs,y::ys,h1,h2=>by
  have nu:bS x=af/\bY xs=af:=by simpa [bY] using h1
  have nv:bS y=af/\bY ys=af:=by simpa [bY] using h2
  simp only[oQ,BW x y nu.1 nv.1,yG xs ys nu.2 nv.2]
  grind
end
mutual
def qH (w:bE):aA->Int
 |.int i=>hashInt i
 |.str x=>hashStr w x
 |.tuple ds=>reduceHash (zY (kQ w ds))
 |_=>0
def kQ (w:bE):List aA->List Int
 |[]=>[]
 |d::r=>qH w d::kQ w r
end
mutual
def sE:aA->Nat
 |.tuple ds=>nN ds+1
 |_=>1
def nN:List aA->Nat
 |[]=>0
 |d::r=>sE d+nN r
end
theorem YY (a b:List aA):nN (a++b)=nN a+nN b:=by
 induction a with
 |nil=>simp[nN]
 |cons x r ih=>simp only[NN,nN,ih];lia
theorem ZA (w:bE)(a b:List aA):kQ w (a++b)=kQ w a++kQ w b:=by
 induction a with
 |nil=>rfl
 |cons x r ih=>simp only[NN,kQ,ih]
section
variable {w:bE}
theorem vH{v:aF}{as:List aD}(r:pX h v (.tuple ks) as):∃ a o vs n,v=.ref a/\h.get? a=aa o/\o.cls=.type "tuple" /\ o.data=.seq vs n/\pW h vs.toList ks as:=by
 cases r with
 |tuple h1 h2 h3 h4=>exact⟨_,_,_,_,rfl,h1,h2,h3,h4⟩
mutual
theorem WS:∀ (d:aA) {A:cE} {E:aF->aI->Prop} {s:aI} {v:aF} {as:List aD} {Q:Int->aI->Prop},A.units+d.depth<cLine->bS d=af->pX s.heap v d as ->
  Q (qH w d) { s with toks:=s.toks+sE d }->aW (aY prog w) A (pyHash v) Q E s
 |.int i,A,E,s,v,as,Q,hu,hk,r,h=>by
  cases r with
  |int _ t=>exact wpAny_pyHash_int (by simpa [qH,sE] using h)
 |.str x,A,E,s,v,as,Q,hu,hk,r,h=>by
  cases r with
  |str _ t=>exact wpAny_pyHash_str (by simpa [qH,sE] using h)
 |.tuple ks,A,E,s,v,as,Q,hu,hk,r,h=>by
  obtain⟨a,o,ai,n,rfl,ho,hc,hd,hi⟩:=vH r;have hT:s.TypeIs (.ref a) "tuple":=⟨o,ho,hc⟩;have ny:A.units+(cY ks+1)<cLine:=by simpa [lX] using hu
  unfold pyHash
  first|unfold pyHashByItsType|skip
  first|refine aK (wpAny_cRoomFor_or (.inr ()) ?_)|skip
  refine aK (yY hT NR.lookup ?_);rw[if_neg (by rw[beq_builtin_none];exact mB)]
  refine aK (yY hT NR.lookup ?_);refine aK (wpAny_callSpecialIfBoundUnlessNone?_slot hT NR (lT NR hT F.entry_tuple_hash ?_ (F.args_tuple_hash_1 _)));show aW _ _ (Ew (.ref a)>>=_) _ _ s;refine aK (wpAny_tupleItemsOf ho hd ?_);refine aK ?_;rw[<-Array.forIn_toList];refine wpAny_forIn_list _
   (λrest (b:Array Int) s'=>∃ done jd bs,ks=done++jd/\pW s.heap rest jd bs/\b.toList=kQ w done/\s'={ s with toks:=s.toks+nN done })
   _ ?_ ?_ _ _ ⟨[],ks,as,rfl,hi,rfl,rfl⟩
  .rintro x rest b s' ⟨done,jd,bs,e,hl,hb,rfl⟩;cases hl with
   |@cons _ _ d ds zj uf h1 pz=>
    have hm:d∈ks:=by rw[e];exact mU _ bO
    have gf:bY ks=af:=by simpa [bS] using hk
    refine aK (YK ks hm (by
     have:A.in1.units=A.units+1:=rfl
     lia) gf h1 ?_)
    first
     |exact aZ ⟨done++[d],ds,uf,by simp[e],pz,by simp[hb,ZA,kQ],by simp[YY,nN,MX]⟩
     |exact aK (aZ (aZ ⟨done++[d],ds,uf,by simp[e],pz,by simp[hb,ZA,kQ],by simp[YY,nN,MX]⟩))
  .rintro b s' ⟨done,jd,bs,e,hl,hb,rfl⟩;cases hl;rw[lY] at e;subst e;show aW _ _ (retInt (zY b.toList)) _ _ _;rw[hb];refine wpAny_ret_mkInt ?_;show aW _ _ (if (decide (-(2:Int)^63<=zY (kQ w ks))&&decide (zY (kQ w ks)<2^63))=af then _ else _) Q E _
   simp only[qH,sE] at h;unfold reduceHash at h;by_cases hr:(decide (-(2:Int)^63<=zY (kQ w ks))&&decide (zY (kQ w ks)<2^63))=af
   .rw[if_pos hr];rw[if_pos hr] at h;exact aZ (by simpa [MX] using h)
   .rw[if_neg hr];rw[if_neg hr] at h;exact aK (vM (aZ (by simpa [MX] using h)))
 |.none,A,E,s,v,as,Q,hu,hk,r,h=>by simp[bS] at hk
 |.bool _,A,E,s,v,as,Q,hu,hk,r,h=>by simp[bS] at hk
 |.list _,A,E,s,v,as,Q,hu,hk,r,h=>by simp[bS] at hk
 |.dict _,A,E,s,v,as,Q,hu,hk,r,h=>by simp[bS] at hk
theorem YK:∀ (ks:List aA) {d:aA},d∈ks->∀ {A:cE} {E:aF->aI->Prop} {s:aI} {v:aF} {as:List aD} {Q:Int->aI->Prop},A.units+cY ks<cLine->bY ks=af->pX s.heap v d as ->
  Q (qH w d) { s with toks:=s.toks+sE d }->aW (aY prog w) A (pyHash v) Q E s
 |[],_,hm,_,_,_,_,_,_,_,_,_,_=>by simp at hm
 |k::ks,d,hm,A,E,s,v,as,Q,hu,hk,r,h=>by
  have gf:bS k=af/\bY ks=af:=by simpa [bY] using hk
  have ny:A.units+max k.depth (cY ks)<cLine:=by simpa [cY] using hu
  by_cases e:d=k
  .exact WS k () gf.1 (e ▸ r) (by rw[<-e];exact h)
  .have qp:d∈ks:=by
    grind
   exact YK ks qp () gf.2 r h
end
end
section
variable {w:bE}
mutual
theorem UN:∀ (d:aA) (n:Nat) {A:cE} {E:aF->aI->Prop} {s:aI} {v:aF} {as:List aD} {Q:Bool->aI->Prop},d.depth<=n->bS d=af->pX s.heap v d as ->
  Q af s->aW (aY prog w) A (eqIsQuiet n v) Q E s
 |.int i,n,A,E,s,v,as,Q,hu,hk,r,h=>by
  cases r with
  |int _ t=>
   rw[eqIsQuiet_byValue n (by rfl)]
   exact aZ h
 |.str x,n,A,E,s,v,as,Q,hu,hk,r,h=>by
  cases r with
  |str _ t=>
   rw[eqIsQuiet_byValue n (by rfl)]
   exact aZ h
 |.tuple ks,n,A,E,s,v,as,Q,hu,hk,r,h=>by
  obtain⟨a,o,ai,m,rfl,ho,hc,hd,hi⟩:=vH r;have hT:s.TypeIs (.ref a) "tuple":=⟨o,ho,hc⟩;have ny:cY ks+1<=n:=by simpa [lX] using hu
  obtain⟨n,rfl⟩:∃ m,n=m+1:=⟨n-1,by omega⟩
  have gf:bY ks=af:=by simpa [bS] using hk
  unfold eqIsQuiet;refine aK (yY hT F.slot_tuple_eq.lookup ?_);refine aK (MF hT isSubtype_tuple_tuple ?_);simp only[Bool.not_true,qC,if_false];refine aK (mS ho hd ?_);refine aK ?_;rw[<-Array.forIn_toList];refine wpAny_forIn_list _ (λrest r s'=>r.1=ab/\s'=s/\∃ ds bs,pW s.heap rest ds bs/\∀ d∈ds,d∈ks) _ ?_ ?_ _ _ ⟨rfl,rfl,ks,as,hi,λ_ h=>h⟩
  .rintro v rest r s' ⟨hr,rfl,ds,bs,hl,dz⟩;cases hl with
   |@cons _ _ d ds zj uf h1 pz=>
    refine aK (WT ks (dz d bO) n (by omega) gf h1 ?_)
    simp only[Bool.not_true,qC,if_false];exact aZ ⟨rfl,rfl,ds,uf,pz,λu zk=>dz u (bN _ zk)⟩
  .rintro⟨r1,r2⟩ s' ⟨hr,rfl,_⟩;simp only at hr;subst hr;exact aZ h
 |.none,n,A,E,s,v,as,Q,hu,hk,r,h=>by simp[bS] at hk
 |.bool _,n,A,E,s,v,as,Q,hu,hk,r,h=>by simp[bS] at hk
 |.list _,n,A,E,s,v,as,Q,hu,hk,r,h=>by simp[bS] at hk
 |.dict _,n,A,E,s,v,as,Q,hu,hk,r,h=>by simp[bS] at hk
theorem WT:∀ (ks:List aA) {d:aA},d∈ks->∀ (n:Nat) {A:cE} {E:aF->aI->Prop} {s:aI} {v:aF} {as:List aD} {Q:Bool->aI->Prop},cY ks<=n->bY ks=af->pX s.heap v d as ->
  Q af s->aW (aY prog w) A (eqIsQuiet n v) Q E s
 |[],_,hm,_,_,_,_,_,_,_,_,_,_,_=>by simp at hm
 |k::ks,d,hm,n,A,E,s,v,as,Q,hu,hk,r,h=>by
  have gf:bS k=af/\bY ks=af:=by simpa [bY] using hk
  have ny:max k.depth (cY ks)<=n:=by simpa [cY] using hu
  by_cases e:d=k
  .exact UN k n (by omega) gf.1 (e ▸ r) h
  .have qp:d∈ks:=by
    grind
   exact WT ks qp n (by omega) gf.2 r h
end
mutual
theorem WO(kp:∀ b o vs n,h.get? b=aa o->o.cls=.type "tuple" -> o.data=.seq vs n->h'.get? b=aa o):∀ (d:aA) {v:aF} {as:List aD},bS d=af->pX h v d as->pX h' v d as
 |.int i,v,as,hk,r=>by
  cases r with
  |int _ t=>exact .int i t
 |.str x,v,as,hk,r=>by
  cases r with
  |str _ t=>exact .str x t
 |.tuple ks,v,as,hk,r=>by
  obtain⟨a,o,ai,m,rfl,ho,hc,hd,hi⟩:=vH r;exact .tuple (kp _ _ _ _ ho hc hd) hc hd (ZG kp ks (by simpa [bS] using hk) hi)
 |.none,v,as,hk,r=>by simp[bS] at hk
 |.bool _,v,as,hk,r=>by simp[bS] at hk
 |.list _,v,as,hk,r=>by simp[bS] at hk
 |.dict _,v,as,hk,r=>by simp[bS] at hk
theorem ZG(kp:∀ b o vs n,h.get? b=aa o->o.cls=.type "tuple" -> o.data=.seq vs n->h'.get? b=aa o):∀ (ds:List aA) {vs:List aF} {as:List aD},bY ds=af->pW h vs ds as->pW h' vs ds as
 |[],vs,as,hk,r=>by
  cases r with
  |nil=>exact .nil
 |d::ds,vs,as,hk,r=>by
  have gf:bS d=af/\bY ds=af:=by simpa [bY] using hk
  cases r with
  |cons r1 r2=>exact .cons (WO kp d gf.1 r1) (ZG kp ds gf.2 r2)
end
def Afb (h:aU)(ks:List aA)(a:aD):Prop:=bY ks=af/\cY ks<=6/\∃ as,pX h (.ref a) (.tuple ks) as
theorem Afb.keep(kp:∀ b o vs n,h.get? b=aa o->o.cls=.type "tuple" -> o.data=.seq vs n->h'.get? b=aa o)(k:Afb h ks a):Afb h' ks a:=
 ⟨k.1,k.2.1,k.2.2.choose,WO kp (.tuple ks) (by simpa [bS] using k.1) k.2.2.choose_spec⟩
def kW (prog:bP)(w:bE):HeapKind prog w (List aA) where
 is:=Afb
 hash:=λks=>qH w (.tuple ks)
 draws:=λks=>sE (.tuple ks)
 room:=λA=>A.units+20<cLine
 inj:=λ{h a x y} hx hy=>by
  obtain⟨k1,_,as,r1⟩:=hx;obtain⟨k2,_,bs,r2⟩:=hy;exact Dz (reads_det (λ_ _ e _=>e) r2 r1).1
 keeps:=λ{h h' k a d o es ep} x ho hd hs=>x.keep λb ob vs n hb _ km=>by
  have dk:b≠d:=by
   rintro rfl;rw[ho] at hb;cases hb;rw[hd] at km;cases km
  exact(hs.2 b dk).trans hb
 pyHash:=λ{A E s k a Q} hu hk h=>by
  obtain⟨k1,k2,as,r⟩:=hk;exact WS (.tuple k) (by simp only[lX];omega) (by simpa [bS] using k1) r h
 eqBool:=λ{A E s x y a b Q} hu hx hy h=>by
  obtain⟨k1,d1,as,r1⟩:=hx;obtain⟨k2,d2,bs,r2⟩:=hy;have e:=BW (.tuple x) (.tuple y) (by simpa [bS] using k1) (by simpa [bS] using k2)
  have e2:decide ((dG x)=.tuple y)=decide (x=y):=by
   by_cases q:x=y
   .subst q;simp
   .rw[decide_eq_false q,decide_eq_false (λz=>q (Dz z))]
  have:=SeqAt.eqAt_reads (.tuple x) (.tuple y) A s (.ref a) (.ref b) as bs r1 r2 (JL _ (by simpa [bS] using k1)) (JL _ (by simpa [bS] using k2)) (by simp only[lX];omega)
  rw[e,e2] at this;exact this prog w E Q h
 quiet:=λ{A E s k a Q} hk h=>by
  obtain⟨k1,k2,as,r⟩:=hk;exact UN (.tuple k) 8 (by simp only[lX];omega) (by simpa [bS] using k1) r h
end
abbrev aH:=Sum Int aE
def uF:aH->aF->Bool
 |.inl k,v=>Value.isInt k v
 |.inr x,v=>Value.isStrOf x v
def Fx (w:bE):aH->Int
 |.inl k=>hashInt k
 |.inr x=>hashStr w x
theorem mM:∀ {k:aH} {v:aF},uF k v=af->(∃ i t,k=vU i/\v=tU i t)\/(∃ x t,k=jJ x/\v=tT x t)
 |.inl i,v,h=>by
  obtain⟨t,e⟩:=Value.isInt_shape (k:=i) (v:=v) h
  grind
 |.inr x,v,h=>by
  obtain⟨t,e⟩:=Value.isStrOf_shape (x:=x) (v:=v) h
  grind
theorem Qp (i:Int)(t:Tok):uF (.inl i) (.int i t)=af:=by simp[uF,Value.isInt]
theorem Re (x:aE)(t:Tok):uF (.inr x) (.str x t)=af:=by simp[uF,Value.isStrOf]
theorem Io (a b:Int):decide ((vU a:aH)=vU b)=(a==b):=by
 grind
theorem Iz (a b:aE):decide ((jJ a:aH)=jJ b)=decide (a=b):=by
 grind
theorem Lm (a:Int)(b:aE):decide ((vU a:aH)=jJ b)=ag:=decide_eq_false (λq=>nomatch q)
theorem Kq (a:aE)(b:Int):decide ((jJ a:aH)=vU b)=ag:=decide_eq_false (λq=>nomatch q)
def fG (prog:bP)(w:bE):PySem.KeyKind prog w aH where
 is:=uF
 hash:=Fx w
 inj:=λv a b ha hb=>by
  rcases mM ha with⟨i,t,rfl,rfl⟩|⟨x,t,rfl,rfl⟩
  .rcases mM hb with⟨j,u,rfl,e⟩|⟨y,u,rfl,e⟩
   .injection e with e1 _;rw[e1]
   .exact nomatch e
  .rcases mM hb with⟨j,u,rfl,e⟩|⟨y,u,rfl,e⟩
   .exact nomatch e
   .injection e with e1 _;rw[e1]
 byValue:=λk v h=>by
  rcases mM h with⟨i,t,rfl,rfl⟩|⟨x,t,rfl,rfl⟩<;>rfl
 pyHash:=λhv h=>by
  rcases mM hv with⟨i,t,rfl,rfl⟩|⟨x,t,rfl,rfl⟩
  .exact wpAny_pyHash_int h
  .exact wpAny_pyHash_str h
 eqBool:=λhu hv h=>by
  rcases mM hu with⟨i,t,rfl,rfl⟩|⟨x,t,rfl,rfl⟩
  .rcases mM hv with⟨j,u,rfl,rfl⟩|⟨y,u,rfl,rfl⟩
   .rw[Io] at h;exact wpAny_eqBool_int h
   .rw[Lm] at h;exact SeqAt.EqAt.int_str i t y u _ _ _ _ h
  .rcases mM hv with⟨j,u,rfl,rfl⟩|⟨y,u,rfl,rfl⟩
   .rw[Kq] at h;exact SeqAt.EqAt.str_int x t j u _ _ _ _ h
   .rw[Iz] at h;exact wpAny_eqBool_str h
 «strs»:=λk x t v h=>by
  rcases mM h with⟨i,u,rfl,e⟩|⟨y,u,rfl,e⟩
  .exact nomatch e
  .injection e with e1 _;subst e1;cases v<;>rfl
theorem KQ (prog:bP)(w:bE)(i:Int)(t:Tok):(fG prog w).is (.inl i) (.int i t)=af:=Qp i t
theorem KU (prog:bP)(w:bE)(x:aE)(t:Tok):(fG prog w).is (.inr x) (.str x t)=af:=Re x t
inductive V where
 |non|bl (b:Bool)|int (i:Int)|str (x:aE)|byt (b:Array UInt8)|flt (b:UInt64)|ref (a:aD)|ty (n:String)
 deriving DecidableEq
def RelV:V->aF->Prop
 |.non,u=>u=fT
 |.bl b,u=>u=Value.bool b
 |.int i,u=>∃ t,u=tU i t
 |.str x,u=>∃ t,u=tT x t
 |.byt b,u=>∃ t,u=Value.bytes b t
 |.flt b,u=>∃ t,u=Value.float b t
 |.ref a,u=>u=fR a
 |.ty n,u=>u=oO n
abbrev Vals:List V->List aF->Prop:=eW RelV
theorem Vals.length {xs:List V}(r:Vals xs us):xs.length=us.length:=oR r
theorem Vals.get:∀ {xs:List V} {us:List aF} {i:Nat} {x:V},Vals xs us->xs[i]?=aa x->∃ u,us[i]?=aa u/\RelV x u
 |_,_,_,_,.nil,e=>by simp at e
 |_,_,0,_,.cons r _,e=>by simp at e;subst e;exact⟨_,rfl,r⟩
 |_,_,i+1,x,.cons _ t,e=>by
  obtain⟨u,h1,h2⟩:=Vals.get (i:=i) (x:=x) t (by simpa using e)
  grind
theorem Vals.set {x:V}(r:RelV x u):∀ {xs:List V} {us:List aF} (i:Nat),Vals xs us->Vals (xs.set i x) (us.set i u)
 |_,_,_,.nil=>.nil
 |_,_,0,.cons _ t=>.cons r t
 |_,_,i+1,.cons q t=>.cons q (Vals.set r i t)
theorem Vals.append:∀ {xs ys:List V} {us ws:List aF},Vals xs us->Vals ys ws->Vals (xs++ys) (us++ws)
 |_,_,_,_,.nil,s=>s
 |_,_,_,_,.cons r t,s=>.cons r (Vals.append t s)
theorem Vals.take:∀ {xs:List V} {us:List aF} (n:Nat),Vals xs us->Vals (xs.take n) (us.take n)
 |_,_,0,_=>.nil
 |_,_,_+1,.nil=>.nil
 |_,_,n+1,.cons r t=>.cons r (Vals.take n t)
theorem Vals.drop:∀ {xs:List V} {us:List aF} (n:Nat),Vals xs us->Vals (xs.drop n) (us.drop n)
 |_,_,0,r=>r
 |_,_,_+1,.nil=>.nil
 |_,_,n+1,.cons _ t=>Vals.drop n t
theorem Vals.none_of:∀ {xs:List V} {us:List aF} {i:Nat},Vals xs us->xs[i]?=ab->us[i]?=ab:=λ{xs us i} r e=>by
 have h1:=r.length
 grind
def Ath:Option V->Option aF->Prop
 |some v,aa u=>RelV v u
 |none,ab=>True
 |_,_=>False
def KV {κ:Type}:List (κ×V)->List (κ×aF)->Prop:=eW λ(p:κ×V) (q:κ×aF)=>p.1=q.1/\RelV p.2 q.2
def kV:aH->V
 |.inl i=>.int i
 |.inr x=>.str x
inductive HO where
 |lst (xs:List V)
 |tup (xs:List V)
 |dK (ep:Nat) (kvs:List (aH×V))|dT (ep:Nat) (kvs:List (List aA×V))
 |set (S:Int->Bool) (n:Nat)
 |ins (C dx:aD) (fs:List (aE×V))
 |own (x:aD)
 |xd (fs:List (aE×V))
 |met (f x:aD)
 |rng (lo hi:Int)
 |frz (o:bK) (u:HO)
 |tbl (ps:Array aF)
 |ext (φ:aU->Prop)
abbrev Hp:=aD->Option HO
def upd (H:Hp)(a:aD)(o:HO):Hp:=λb=>if b=a then aa o else H b
theorem eI {H:Hp}{o:HO}:upd H a o a=aa o:=by unfold upd;rw[if_pos rfl]
theorem cO {H:Hp}{o:HO}(h:b≠a):upd H a o b=H b:=by unfold upd;rw[if_neg h]
theorem Hv {H:Hp}{o u:HO}(h:H a=aa o)(h':H b=aa u)(d:o≠u):a≠b:=by
 grind
theorem kC {H:Hp}{o:HO}(h:H a=aa o)(h':H b=ab):a≠b:=by
 intro e;subst e;rw[h] at h';cases h'
mutual
def Ajn (H:Hp):aA->V->Prop
 |.int i,v=>v=.int i
 |.str x,v=>v=.str x
 |.tuple ds,v=>∃ a xs,v=.ref a/\H a=aa (.tup xs)/\Ags H ds xs
 |_,_=>False
def Ags (H:Hp):List aA->List V->Prop
 |[],vs=>vs=[]
 |d::r,vs=>∃ x rr,vs=x::rr/\Ajn H d x/\Ags H r rr
end
mutual
theorem Ajn.keep {H H':Hp}(ht:∀ b xs,H b=aa (.tup xs)->H' b=aa (.tup xs)):∀ {d:aA} {v:V},Ajn H d v->Ajn H' d v
 |.int _,_,k=>by simpa [Ajn] using k
 |.str _,_,k=>by simpa [Ajn] using k
 |.tuple ds,_,k=>by
  simp only[Ajn] at k ⊢;obtain⟨a,xs,e,h,ks⟩:=k;exact⟨a,xs,e,ht _ _ h,Ags.keep ht ks⟩
 |.none,_,k=>by simp[Ajn] at k
 |.bool _,_,k=>by simp[Ajn] at k
 |.list _,_,k=>by simp[Ajn] at k
 |.dict _,_,k=>by simp[Ajn] at k
theorem Ags.keep {H H':Hp}(ht:∀ b xs,H b=aa (.tup xs)->H' b=aa (.tup xs)):∀ {ds:List aA} {vs:List V},Ags H ds vs->Ags H' ds vs
 |[],_,k=>by simpa [Ags] using k
 |d::ds,_,k=>by
  simp only[Ags] at k ⊢;obtain⟨x,r,e,k1,k2⟩:=k;exact⟨x,r,e,Ajn.keep ht k1,Ags.keep ht k2⟩
end
def Anx (H:Hp)(ks:List aA)(a:aD):Prop:=bY ks=af/\cY ks<=6/\∃ xs,H a=aa (.tup xs)/\Ags H ks xs
theorem Anx.keep {H H':Hp}(k:Anx H ks a)(ht:∀ b xs,H b=aa (.tup xs)->H' b=aa (.tup xs)):Anx H' ks a:=
 ⟨k.1,k.2.1,k.2.2.choose,ht _ _ k.2.2.choose_spec.1,k.2.2.choose_spec.2.keep ht⟩
def A8s (h:aU)(a:aD)(its:Array aF):Prop:=IsTup h a its/\∃ o,h.get? a=aa o/\o.dict=ab
theorem A8s.new (h:aU)(its:Array aF):A8s (h.push { cls:=.type "tuple",data:=.seq its }) h.objs.size its:=⟨IsTup.new _ _,_,dM _ rfl,rfl⟩
section
variable (P:bP)(w:bE)
def Acz (H:Hp)(h:aU)(a:aD):HO->Prop
 |.lst xs=>xs.length<=sizeLine/\∃ (its:List aF) (n:Nat),Vals xs its/\h.get? a=aa { cls:=.type "list",data:=.seq its.toArray n }
 |.tup xs=>xs.length<=sizeLine/\∃ its:List aF,Vals xs its/\A8s h a its.toArray
 |.dK ep kvs=>kvs.length<=sizeLine/\(a==jH)=ag/\∃ vs,KV kvs vs/\h.DictAt (fG P w) a vs ep
 |.dT ep kvs=>kvs.length<=sizeLine/\(a==jH)=ag/\∃ xs:List (List aA×aD×aF),
   eW (λ(p:List aA×V) (q:List aA×aD×aF)=>p.1=q.1/\Anx H p.1 q.2.1/\RelV p.2 q.2.2) kvs xs /\
   ∃ o es,h.get? a=aa o/\o.ExactDict/\o.data=.dict es ep/\es.toList=xs.map (entryOfKey (kW P w))/\(xs.map (·.1)).Nodup
 |.set S n=>h.SetOf (intKind P w) a S n
 |.ins C dx fs=>H dx=aa (.own a)/\fs.length<=1000/\dx≠a/\h.get? a=aa (Dr C dx) /\
   ∃ mA,h.Ns1 dx mA/\(∀ f,Ath (fs.lookup f) (mA f))/\PySem.Within mA (fs.map (·.1))
 |.own _=>∃ o,h.get? a=aa o
 |.xd fs=>∃ mA,h.Ns1 a mA/\∀ f,Ath (fs.lookup f) (mA f)
 |.rng lo hi=>∃ t u v,h.get? a=aa { cls:=.type "range",data:=.fields #[.int lo t,.int hi u,.int 1 v] }
 |.frz o u=>h.get? a=aa o/\Acz H h a u
 |.tbl ps=>h.get? a=aa { cls:=.none,data:=.fields ps }
 |.met f x=>h.get? a=aa (Dm (.ref f) (.ref x))
 |.ext φ=>φ h/\(∃ o,h.get? a=aa o)/\∀ h1 h2:aU,φ h1->(∀ o,h1.get? a=aa o->h2.get? a=aa o)->φ h2
def HOk (H:Hp)(h:aU):Prop:=∀ a o,H a=aa o->Acz P w H h a o
end
section
variable {P:bP}{w:bE}{H H':Hp}{o:HO}
theorem Acz.lt (x:Acz P w H h a o):a<h.objs.size:=by
 cases o with
 |lst xs=>obtain⟨_,_,_,_,e⟩:=x;exact bZ e
 |tup xs=>obtain⟨_,_,_,p⟩:=x;exact p.1.lt
 |dK ep kvs=>obtain⟨_,_,_,_,o,_,e,_⟩:=x;exact bZ e
 |dT ep kvs=>obtain⟨_,_,_,_,o,_,e,_⟩:=x;exact bZ e
 |set S n=>obtain⟨o,_,_,_,e,_⟩:=x;exact bZ e
 |ins C dx fs=>obtain⟨_,_,_,e,_⟩:=x;exact bZ e
 |own y=>obtain⟨_,e⟩:=x;exact bZ e
 |xd fs=>obtain⟨_,⟨_,_,_,e,_⟩,_⟩:=x;exact bZ e
 |rng lo hi=>obtain⟨_,_,_,e⟩:=x;exact bZ e
 |frz ob u=>obtain⟨e,_⟩:=x;exact bZ e
 |tbl ps=>exact bZ (show h.get? a=aa _ from x)
 |met f y=>exact bZ (show h.get? a=aa _ from x)
 |ext φ=>obtain⟨_,⟨_,e⟩,_⟩:=x;exact bZ e
theorem Paired.mapP {α β:Type}{F G:α->β->Prop}:∀ {l₁:List α} {l₂:List β},eW F l₁ l₂->(∀ a b,F a b->G a b)->eW G l₁ l₂:=by
 intro l₁ l₂ h;induction h with
 |nil=>exact λ_=>.nil
 |cons r _ ih=>exact λf=>.cons (f _ _ r) (ih f)
theorem Acz.stay (x:Acz P w H h a o)(k:∀ b u,(b=a\/H b=aa (.own a))->h.get? b=aa u->h'.get? b=aa u)
  (ho:∀ b,H b=aa (.own a)->H' b=aa (.own a)) (ht:∀ b xs,H b=aa (.tup xs)->H' b=aa (.tup xs)):Acz P w H' h' a o:=by
 induction o with
 |lst xs=>obtain⟨z,its,n,r,e⟩:=x;exact⟨z,its,n,r,k _ _ (.inl rfl) e⟩
 |tup xs=>obtain⟨z,its,r,⟨ob,e,c⟩,zl,e2,c2⟩:=x;exact⟨z,its,r,⟨ob,k _ _ (.inl rfl) e,c⟩,zl,k _ _ (.inl rfl) e2,c2⟩
 |dK ep kvs=>obtain⟨z,y,vs,r,ob,es,e,c⟩:=x;exact⟨z,y,vs,r,ob,es,k _ _ (.inl rfl) e,c⟩
 |dT ep kvs=>
  obtain⟨z,y,xs,r,ob,es,e,c⟩:=x;exact⟨z,y,xs,Paired.mapP r λp q z=>⟨z.1,z.2.1.keep ht,z.2.2⟩,ob,es,k _ _ (.inl rfl) e,c⟩
 |set S n=>obtain⟨ob,es,ep,t,e,c⟩:=x;exact⟨ob,es,ep,t,k _ _ (.inl rfl) e,c⟩
 |ins C dx fs=>
  obtain⟨d,z,ne,e,mA,⟨od,es,ep,e2,c⟩,r⟩:=x;exact⟨ho _ d,z,ne,k _ _ (.inl rfl) e,mA,⟨od,es,ep,k _ _ (.inr d) e2,c⟩,r⟩
 |own y=>obtain⟨ob,e⟩:=x;exact⟨ob,k _ _ (.inl rfl) e⟩
 |xd fs=>obtain⟨mA,⟨od,es,ep,e,c⟩,r⟩:=x;exact⟨mA,⟨od,es,ep,k _ _ (.inl rfl) e,c⟩,r⟩
 |rng lo hi=>obtain⟨t,u,v,e⟩:=x;exact⟨t,u,v,k _ _ (.inl rfl) e⟩
 |frz ob u ih=>obtain⟨e,q⟩:=x;exact⟨k _ _ (.inl rfl) e,ih q⟩
 |tbl ps=>
  have e:h.get? a=aa { cls:=.none,data:=.fields ps }:=x;show h'.get? a=aa { cls:=.none,data:=.fields ps };exact k a _ (.inl rfl) e
 |met f y=>
  have e:h.get? a=aa (Dm (.ref f) (.ref y)):=x;show h'.get? a=aa (Dm (.ref f) (.ref y));exact k a _ (.inl rfl) e
 |ext φ=>obtain⟨p,⟨o,e⟩,st⟩:=x;exact⟨st _ _ p λo q=>k _ _ (.inl rfl) q,⟨o,k _ _ (.inl rfl) e⟩,st⟩
theorem HOk.lt (x:HOk P w H h)(e:H a=aa o):a<h.objs.size:=(x a o e).lt
theorem HOk.fresh (x:HOk P w H h)(e:h.objs.size<=a):H a=ab:=by
 cases q:H a with
 |none=>rfl
 |some u=>exact absurd (jK (x.lt q) e) (mT _)
theorem HOk.kept (x:HOk P w H h)(k:∀ b u,h.get? b=aa u->h'.get? b=aa u):HOk P w H h':=λa o e=>
 (x a o e).stay (λb u _ q=>k b u q) (λ_ q=>q) λ_ _ q=>q
theorem HOk.laid (x:HOk P w H h)(k:∀ b u,h.get? b=aa u->h'.get? b=aa u)(hp:h.objs.size<=a)(new:Acz P w (upd H a o) h' a o):HOk P w (upd H a o) h':=λb u e=>by
 have hn:=x.fresh hp;by_cases hb:b=a
 .subst hb;rw[eI] at e;cases e;exact new
 .rw[cO hb] at e;exact(x b u e).stay (λc v _ q=>k c v q) (λc q=>by rw[cO (kC q hn)];exact q) λc xs q=>by rw[cO (kC q hn)];exact q
end
def Rd (H:Hp)(a:aD)(u:HO):Prop:=H a=aa u\/∃ o,H a=aa (.frz o u)
theorem Rd.of {H:Hp}{u:HO}(h:H a=aa u):Rd H a u:=.inl h
theorem Rd.ok {P:bP}{w:bE}{H:Hp}{u:HO}(r:Rd H a u)(x:HOk P w H h):Acz P w H h a u:=by
 rcases r with r|⟨o,r⟩
 .exact x a u r
 .obtain⟨_,q⟩:=x a _ r;exact q
def wL:Option HO->Prop
 |some (.lst _)=>True
 |some (.dK _ _)=>True
 |some (.dT _ _)=>True
 |some (.set _ _)=>True
 |some (.ins _ _ _)=>True
 |some (.ext _)=>True
 |_=>False
section
variable {P:bP}{w:bE}{H:Hp}{x e:aD}{o':HO}
theorem HOk.write (ok:HOk P w H h)(mu:wL (H x))(he:e=x\/H e=aa (.own x))(k:∀ b u,b≠e->h.get? b=aa u->h'.get? b=aa u)(qq:∃ u,h'.get? e=aa u)
  (new:Acz P w (upd H x o') h' x o'):HOk P w (upd H x o') h':=λb u q=>by
 have u8:∀ c y,H c=aa (.own y)->c≠x:=λc y r z=>by subst z;rw[r] at mu;exact mu
 have u9:∀ c xs,H c=aa (.tup xs)->c≠x:=λc xs r z=>by subst z;rw[r] at mu;exact mu
 by_cases hb:b=x
 .subst hb;rw[eI] at q;cases q;exact new
 .rw[cO hb] at q;by_cases vc:b=e
  .have q':H b=aa (.own x):=by
    grind
   rw[q] at q';cases q';obtain⟨v,hv⟩:=qq;exact⟨v,by rw[vc];exact hv⟩
  .refine(ok b u q).stay (λc v hc r=>k c v ?_ r) (λc r=>by rw[cO (u8 c b r)];exact r) λc xs r=>by rw[cO (u9 c xs r)];exact r
   grind
end
structure Un (fs ex:List aD)(H H':Hp)(h h':aU):Prop where
 keep:∀ b o,h.get? b=aa o->H b=ab->b∉fs->b∉ex->h'.get? b=aa o
 slot:∀ b o,h.get? b=aa o->H b=ab->b∈fs->b∉ex->∃ sl,h'.get? b=aa { o with slots:=sl }
 free:∀ b o,h.get? b=aa o->H b=ab->b∉ex->H' b=ab
 there:∀ b o,h.get? b=aa o->b∉ex->∃ o',h'.get? b=aa o'
 tups:∀ b xs,H b=aa (.tup xs)->H' b=aa (.tup xs)
 frzs:∀ b o u,H b=aa (.frz o u)->H' b=aa (.frz o u)
 tbls:∀ b ps,H b=aa (.tbl ps)->∃ more,H' b=aa (.tbl (ps++more))
section
variable {fs vd ex p0:List aD}{H H1 H2:Hp}{h1 h2:aU}{x e:aD}{o:HO}
theorem Un.any (u:Un fs ex H H1 h h1){ob:bK}(q:h.get? b=aa ob)(n:H b=ab)(hx:b∉ex):∃ sl,h1.get? b=aa { ob with slots:=sl }:=by
 by_cases hb:b∈fs
 .exact u.slot b ob q n hb hx
 .exact⟨ob.slots,u.keep b ob q n hb hx⟩
theorem Un.trans (a:Un fs ex H H1 h h1)(b:Un fs ex H1 H2 h1 h2):Un fs ex H H2 h h2 where
 keep:=λc ob q n hc hx=>b.keep c ob (a.keep c ob q n hc hx) (a.free c ob q n hx) hc hx
 slot:=λc ob q n hc hx=>by
  obtain⟨sl,e1⟩:=a.slot c ob q n hc hx;obtain⟨ve,e2⟩:=b.slot c _ e1 (a.free c ob q n hx) hc hx;exact⟨ve,e2⟩
 free:=λc ob q n hx=>by
  obtain⟨o',e1⟩:=a.there c ob q hx;exact b.free c o' e1 (a.free c ob q n hx) hx
 there:=λc ob q hx=>by
  obtain⟨o',e1⟩:=a.there c ob q hx;exact b.there c o' e1 hx
 tups:=λc xs q=>b.tups c xs (a.tups c xs q)
 frzs:=λc ob xs q=>b.frzs c ob xs (a.frzs c ob xs q)
 tbls:=λc ps q=>by
  obtain⟨m1,e1⟩:=a.tbls c ps q;obtain⟨m2,e2⟩:=b.tbls c _ e1
  grind
theorem Un.kept (k:∀ b u,h.get? b=aa u->h'.get? b=aa u):Un fs ex H H h h':=
 ⟨λb ob q _ _ _=>k b ob q,λb ob q _ _ _=>⟨ob.slots,k b ob q⟩,λ_ _ _ n _=>n,λb ob q _=>⟨ob,k b ob q⟩,λ_ _ q=>q,λ_ _ _ q=>q,λ_ ps q=>⟨#[],by rw[q];simp⟩⟩
theorem Un.refl:Un fs ex H H h h:=Un.kept λ_ _ q=>q
theorem Un.laid (k:∀ b u,h.get? b=aa u->h'.get? b=aa u)(hp:h.objs.size<=a)(hn:H a=ab):Un fs ex H (upd H a o) h h' where
 keep:=λb u q _ _ _=>k b u q
 slot:=λb u q _ _ _=>⟨u.slots,k b u q⟩
 free:=λb u q n _=>by rw[cO (eD (jK (bZ q) hp))];exact n
 there:=λb u q _=>⟨u,k b u q⟩
 tups:=λb xs q=>by rw[cO (kC q hn)];exact q
 frzs:=λb u xs q=>by rw[cO (kC q hn)];exact q
 tbls:=λb ps q=>⟨#[],by rw[cO (kC q hn),q];simp⟩
theorem Un.write (mu:wL (H x))(he:e=x\/H e=aa (.own x))(k:∀ b u,b≠e->h.get? b=aa u->h'.get? b=aa u)(qq:∃ u,h'.get? e=aa u):Un fs ex H (upd H x o) h h':=by
 have hx:∀ b,H b=ab->b≠x:=λb n z=>by subst z;rw[n] at mu;exact mu
 have hb:∀ b,H b=ab->b≠e:=λb n z=>by
  grind
 have hm:∀ b u,H b=aa u->¬ wL (aa u)->b≠x:=λb u q nm z=>by subst z;rw[q] at mu;exact nm mu
 refine⟨λb u q n _ _=>k b u (hb b n) q,λb u q n _ _=>⟨u.slots,k b u (hb b n) q⟩,λb u q n _=>by rw[cO (hx b n)];exact n,λb u q _=>?_,
  λb xs q=>by rw[cO (hm b _ q λz=>z)];exact q,λb u xs q=>by rw[cO (hm b _ q λz=>z)];exact q,λb ps q=>⟨#[],by rw[cO (hm b _ q λz=>z),q];simp⟩⟩
 grind
theorem Un.mono (u:Un fs ex H H1 h h1)(hs:∀ b∈fs,b∈vd)(hx:∀ b∈ex,b∈p0):Un vd p0 H H1 h h1:=
 ⟨λb ob q n hb he=>u.keep b ob q n (λz=>hb (hs b z)) λz=>he (hx b z),λ_ _ q n _ he=>u.any q n λz=>he (hx _ z),λb ob q n he=>u.free b ob q n λz=>he (hx b z),λb ob q he=>u.there b ob q λz=>he (hx b z),u.tups,u.frzs,u.tbls⟩
end
def u7 (h:aU)(H:Hp):List aD:=(cP h.objs.size).filter λa=>(H a).isSome
def pK (h:aU)(H:Hp):aU:=PySem.W.hideAll h (u7 h H)
theorem Ra (h:aU)(H:Hp):(pK h H).objs.size=h.objs.size:=PySem.W.hideAll_size _ _
theorem Wl{H:Hp}(e:h.get? b=aa o)(n:H b=ab):(pK h H).get? b=aa o:=
 PySem.W.hideAll_get _ e λhm=>by
  have q:(H b).isSome=af:=(gC.1 hm).2;rw[n] at q;simp at q
theorem Ow{H:Hp}(e:(pK h H).get? b=aa o):h.get? b=aa o/\H b=ab:=by
 have e':h.get? b=aa o:=PySem.W.of_hideAll (u7 h H) e;refine⟨e',?_⟩;cases q:H b with
 |none=>rfl
 |some x=>
  have hm:b∈u7 h H:=gC.2 ⟨iS.2 (bZ e'),by simp[q]⟩
  have z:(pK h H).get? b=ab:=PySem.W.hideAll_none (u7 h H) hm;rw[z] at e;cases e
def Lv (g h:aU)(L:aD):List (aD×bK):=(cP h.objs.size).filterMap λa=>if a=L\/(g.get? a).isSome=af then ab else(h.get? a).map λo=>(a,o)
def rest (g h:aU)(L d:aD):List (aD×bK):=(Lv g h L).filter λp=>decide (p.1≠d)
structure Mod (K:aM)(mg:aE->Option aF)(base:aU):Prop where
 kin:K.In base
 glob:base.Ns jI mg
 blt:∃ mb,base.Ns builtinsNs mb/\∀ x:aE,x ≠ "__name__" -> mb x=lV x
 nolimit:base.NoLimit
structure Cx where
 prog:bP
 w:bE
 K:aM
 mg:aE->Option aF
 base:aU
 A:cE
 N:List aE
 s₀:aI
 H₀:Hp
 env:dP
 outer:List dP
 stack:List dP
 ex:List aD
 fn:aE->Bool
 calm:Bool
 pn:List (aD×bK)
 xe:aF->aI->Prop
def jx (l:List dP):List aD:=l.filterMap (·.frame)
abbrev Cx.fs (X:Cx):List aD:=jx X.outer
def AB (sc:fZ)(x:aE):Prop:=sc.names.lookup x=aa .local\/sc.names.lookup x=aa .cell\/sc.names.lookup x=aa .free
def iU (sc:fZ)(x:aE):Prop:=sc.names.lookup x=aa .local\/sc.names.lookup x=aa .cell
def Look (env:dP)(h:aU)(m:aE->Option aF)(x:aE)(u:aF):Prop:=
 (env.kindOf x=aa .local/\m x=aa u)\/((env.kindOf x=aa .cell\/env.kindOf x=aa .free)/\∃ c,env.cells.lookup x=aa c/\h.IsCell c (aa u))
structure Cx.Ok (X:Cx):Prop where
 mod:Mod X.K X.mg X.base
 kind:X.env.scope.kind=.function
 glob:X.env.globals=jI
 blt:X.env.builtins=builtinsNs
 above:X.s₀.heap.objs.size<=X.env.locals
 inj:∀ x y c,X.env.cells.lookup x=aa c->X.env.cells.lookup y=aa c->x=y
 has:∀ x,(X.env.kindOf x=aa .cell\/X.env.kindOf x=aa .free)->∃ c,X.env.cells.lookup x=aa c
 cab:∀ x c,X.fn x=af->X.env.cells.lookup x=aa c->X.s₀.heap.objs.size<=c
 hd:X.calm=af->X.A.handled=ab
 frames:X.A.frames=aa X.stack
 stk:X.stack=X.outer\/(X.stack=X.env::X.outer/\X.env.frame=aa X.env.locals)
 exf:∀ b∈X.ex,b≠X.env.locals/\∀ x c,X.env.cells.lookup x=aa c->c≠b
 bs:∀ b o,X.base.get? b=aa o->X.s₀.heap.get? b=aa o/\X.H₀ b=ab
 bsz:X.base.objs.size<=X.s₀.heap.objs.size
 noex:∀ b o,X.base.get? b=aa o->b∉X.ex
 exfs:∀ b∈X.ex,b∉X.fs
 funs:X.s₀.heap.FunFrames X.base X.outer
 frf:∀ b∈X.fs,X.H₀ b=ab
structure Inv (X:Cx)(ad:List (aD×bK))(Z:List (Option V))(H:Hp)(s:aI):Prop where
 ok:X.Ok
 os:s.os=X.s₀.os
 bare:rN s.gens
 base:Un X.fs X.ex X.H₀ H X.s₀.heap s.heap
 loc:∃ m,s.heap.Ns X.env.locals m/\∀ (i:Nat) (x:aE) (v:V),X.N[i]?=aa x->Z[i]?=aa (aa v)->AB X.env.scope x->∃ u,RelV v u/\Look X.env s.heap m x u
 cell:∀ x c,X.env.cells.lookup x=aa c->∃ v,s.heap.IsCell c v
 free:H X.env.locals=ab
 freeC:∀ x c,X.env.cells.lookup x=aa c->H c=ab
 pin:∀ p∈X.pn++ad,s.heap.get? p.1=aa p.2/\H p.1=ab/\p.1≠X.env.locals/\p.1∉X.fs/\∀ v,p.2.data ≠ .cell v
 hok:HOk X.prog X.w H s.heap
 len:Z.length=X.N.length
section
variable {X:Cx}{Z:List (Option V)}{H H':Hp}
theorem Cx.Ok.nofr (ok:X.Ok)(e:X.base.get? b=aa o):b∉X.fs:=λhb=>by
 have:=(ok.funs.mem hb).1;rw[e] at this;cases this
theorem Inv.bs (I:Inv X ad Z H s):∀ b o,X.base.get? b=aa o->s.heap.get? b=aa o/\H b=ab:=λb o e=>
 ⟨I.base.keep b o (I.ok.bs b o e).1 (I.ok.bs b o e).2 (I.ok.nofr e) (I.ok.noex b o e),I.base.free b o (I.ok.bs b o e).1 (I.ok.bs b o e).2 (I.ok.noex b o e)⟩
theorem Inv.bk (I:Inv X ad Z H s):∀ b o,X.base.get? b=aa o->s.heap.get? b=aa o:=λb o e=>(I.bs b o e).1
theorem Inv.mod (I:Inv X ad Z H s):Mod X.K X.mg X.base:=I.ok.mod
theorem Inv.kIn (I:Inv X ad Z H s):X.K.In s.heap:=I.ok.mod.kin.keeps I.bk
theorem Inv.nolimit (I:Inv X ad Z H s):s.heap.NoLimit:=I.ok.mod.nolimit.keeps I.bk
theorem Inv.fr (I:Inv X ad Z H s):∃ m,Fr X.base X.env.locals s.heap m:=
 let ⟨m,hn,_⟩:=I.loc
 ⟨m,hn,I.bk,cL I.ok.bsz I.ok.above⟩
theorem Inv.lt (I:Inv X ad Z H s):X.env.locals<s.heap.objs.size:=let ⟨_,hn,_⟩:=I.loc;hn.lt
theorem Inv.sz (I:Inv X ad Z H s):X.s₀.heap.objs.size<=s.heap.objs.size:=cL I.ok.above (pY I.lt)
theorem Inv.nofs (I:Inv X ad Z H s)(h:s.heap.objs.size<=a):a∉X.fs:=λhb=>by
 obtain⟨_,o,ho,_⟩:=I.ok.funs.mem hb;exact absurd (jK (bZ ho) (cL I.sz h)) (mT _)
theorem Inv.cne (I:Inv X ad Z H s):∀ x c,X.env.cells.lookup x=aa c->c≠X.env.locals:=λx c e z=>by
 obtain⟨v,o,ho,hd⟩:=I.cell x c e;obtain⟨m,⟨o',es,ep,ko,km,_⟩,_⟩:=I.loc
 grind
theorem Inv.funs (I:Inv X ad Z H s):s.heap.FunFrames X.base X.outer:=by
 have all:∀ (l:List dP),(∀ b∈jx l,b∈X.fs)->X.s₀.heap.FunFrames X.base l->s.heap.FunFrames X.base l:=by
  intro l;induction l with
  |nil=>intro _ _;trivial
  |cons env r ih=>
   intro hs hl;obtain⟨hk,⟨L,o,hf,hn,ho,hd⟩,hr⟩:=hl;have hL:L∈X.fs:=hs L (by unfold jx;rw[NL,hf];exact bO)
   obtain⟨sl,e⟩:=I.base.slot L o ho (I.ok.frf L hL) hL λz=>I.ok.exfs L z hL
   exact⟨hk,⟨L,_,hf,hn,e,hd⟩,ih (λb hb=>hs b (by unfold jx;rw[NL,hf];exact bN _ hb)) hr⟩
 exact all X.outer (λ_ hb=>hb) I.ok.funs
theorem Inv.stack (I:Inv X ad Z H s):s.heap.FunFrames X.base X.stack:=by
 rcases I.ok.stk with e|⟨e,hf⟩
 .rw[e];exact I.funs
 .rw[e];obtain⟨m,hn,_⟩:=I.loc;refine .cons (by rw[I.ok.kind];decide) hf hn ?_ I.funs
  exact Heap.get?_none_of_le (cL I.ok.bsz I.ok.above)
theorem Inv.stkSub (I:Inv X ad Z H s):∀ b∈jx X.stack,b∈X.env.locals::X.fs:=λb hb=>by
 rcases I.ok.stk with e|⟨e,hf⟩
 .rw[e] at hb;exact bN _ hb
 .rw[e] at hb;unfold jx at hb;rw[NL,hf] at hb;exact hb
theorem Inv.stkFree (I:Inv X ad Z H s):∀ b∈jx X.stack,H b=ab:=λb hb=>by
 rcases cZ.1 (I.stkSub b hb) with e|hb
 .rw[e];exact I.free
 .obtain⟨_,o,ho,_⟩:=I.ok.funs.mem hb;exact I.base.free b o ho (I.ok.frf b hb) λz=>I.ok.exfs b z hb
theorem Inv.step {g':Array zW}{d':Drawn}(I:Inv X ad Z H s)
  (k8:∀ b∈ch,(b∈X.ex\/X.s₀.heap.objs.size<=b)/\b≠X.env.locals/\(∀ x c,X.env.cells.lookup x=aa c->c≠b)/\∀ p∈X.pn++ad,p.1≠b)
  (keep:∀ b o,b≠X.env.locals->b∉X.fs->b∉ch->s.heap.get? b=aa o->H b=ab->h'.get? b=aa o)
  (slot:∀ b o,b≠X.env.locals->b∈X.fs->b∉ch->s.heap.get? b=aa o->H b=ab->∃ sl,h'.get? b=aa { o with slots:=sl }) (free:∀ b o,b∉ch->s.heap.get? b=aa o->H b=ab->H' b=ab)
  (there:∀ b o,b∉ch->s.heap.get? b=aa o->∃ o',h'.get? b=aa o')
  (tups:∀ b xs,H b=aa (.tup xs)->H' b=aa (.tup xs)) (frzs:∀ b o u,H b=aa (.frz o u)->H' b=aa (.frz o u)) (tbls:∀ b ps,H b=aa (.tbl ps)->∃ more,H' b=aa (.tbl (ps++more)))
  (ns:∀ m,s.heap.Ns X.env.locals m->h'.Ns X.env.locals m) (hok:HOk X.prog X.w H' h') (hg:rN g') :
  Inv X ad Z H' { s with heap:=h',gens:=g',drawn:=d',toks:=t' }:=by
 have xt:∀ b o,X.s₀.heap.get? b=aa o->b≠X.env.locals:=λb o e=>eD (jK (bZ e) I.ok.above)
 have ug:∀ b o,X.s₀.heap.get? b=aa o->b∉X.ex->b∉ch:=λb o e hx hb=>by
  rcases(k8 b hb).1 with z|z
  .exact hx z
  .exact absurd (jK (bZ e) z) (mT _)
 have mw:∀ x c,X.env.cells.lookup x=aa c->∀ v,s.heap.IsCell c v->h'.IsCell c v:=λx c e v gh=>by
  obtain⟨o,ho,hd⟩:=gh;have xu:c∉ch:=λz=>(k8 c z).2.2.1 x c e rfl
  by_cases hc:c∈X.fs
  .obtain⟨sl,q⟩:=slot c o (I.cne x c e) hc xu ho (I.freeC x c e);exact⟨_,q,hd⟩
  .exact⟨o,keep c o (I.cne x c e) hc xu ho (I.freeC x c e),hd⟩
 refine⟨I.ok,I.os,hg,⟨λb o e n hb hx=>?_,λb o e n hb hx=>?_,λb o e n hx=>?_,λb o e hx=>?_,λb xs e=>tups b xs (I.base.tups b xs e),λb o xs e=>frzs b o xs (I.base.frzs b o xs e),λb ps e=>?_⟩,?_,λx c e=>?_,?_,λx c e=>?_,λp hp=>?_,hok,I.len⟩
 .exact keep b o (xt b o e) hb (ug b o e hx) (I.base.keep b o e n hb hx) (I.base.free b o e n hx)
 .obtain⟨sl,e1⟩:=I.base.slot b o e n hb hx;obtain⟨ve,e2⟩:=slot b _ (xt b o e) hb (ug b o e hx) e1 (I.base.free b o e n hx);exact⟨ve,e2⟩
 .obtain⟨o',e1⟩:=I.base.there b o e hx;exact free b o' (ug b o e hx) e1 (I.base.free b o e n hx)
 .obtain⟨o',e1⟩:=I.base.there b o e hx;exact there b o' (ug b o e hx) e1
 .obtain⟨m1,e1⟩:=I.base.tbls b ps e
  grind
 .obtain⟨m,hn,hl⟩:=I.loc;refine⟨m,ns m hn,λi x v e1 e2 e3=>?_⟩
  obtain⟨u,r,l⟩:=hl i x v e1 e2 e3;refine⟨u,r,?_⟩;rcases l with l|⟨k,c,e,z⟩
  .exact .inl l
  .exact .inr ⟨k,c,e,mw x c e _ z⟩
 .obtain⟨v,z⟩:=I.cell x c e;exact⟨v,mw x c e v z⟩
 .obtain⟨m,⟨o,_,_,ho,_⟩,_⟩:=I.loc;exact free _ o (λz=>(k8 _ z).2.1 rfl) ho I.free
 .obtain⟨v,o,ho,hd⟩:=I.cell x c e;exact free c o (λz=>(k8 c z).2.2.1 x c e rfl) ho (I.freeC x c e)
 .obtain⟨e,n,ne,nf,d⟩:=I.pin p hp
  grind
theorem Inv.un(I:Inv X ad Z H s)(u:Un X.fs [] H H' s.heap h')(hok:HOk X.prog X.w H' h'):Inv X ad Z H' { s with heap:=h',toks:=t' }:=by
 obtain⟨m,⟨o,es,ep,ho,r⟩,_⟩:=id I.loc;obtain⟨sl,hL⟩:=u.any ho I.free (by simp)
 exact I.step (g':=s.gens) (d':=s.drawn) (ch:=[]) (λ_ z=>nomatch z) (λb o _ hb _ e n=>u.keep b o e n hb (by simp)) (λb o _ hb _ e n=>u.slot b o e n hb (by simp)) (λb o _ e n=>u.free b o e n (by simp)) (λb o _ e=>u.there b o e (by simp)) u.tups u.frzs u.tbls (λm' hm=>by
  obtain⟨o',ir,g9,ko,r'⟩:=hm;rw[ho] at ko;cases ko;exact⟨_,ir,g9,hL,r'⟩) hok I.bare
theorem Inv.call {g':Array zW}{d':Drawn}(I:Inv X ad Z H s)(u:Un (jx X.stack) ch H H' s.heap h')(hok:HOk X.prog X.w H' h')(hg:rN g')
  (k8:∀ b∈ch,(b∈X.ex\/X.s₀.heap.objs.size<=b)/\b≠X.env.locals/\(∀ x c,X.env.cells.lookup x=aa c->c≠b)/\∀ p∈X.pn++ad,p.1≠b) :
  Inv X ad Z H' { s with heap:=h',gens:=g',drawn:=d',toks:=t' }:=by
 obtain⟨m,⟨o,es,ep,ho,r⟩,_⟩:=id I.loc;obtain⟨sl,hL⟩:=u.any ho I.free λz=>(k8 _ z).2.1 rfl
 exact I.step (ch:=ch) k8 (λb o hL hb hc e n=>u.keep b o e n (λz=>(cZ.1 (I.stkSub b z)).elim hL hb) hc) (λb o _ _ hc e n=>u.any e n hc) (λb o hc e n=>u.free b o e n hc) (λb o hc e=>u.there b o e hc) u.tups u.frzs u.tbls (λm' hm=>by
  obtain⟨o',ir,g9,ko,r'⟩:=hm;rw[ho] at ko;cases ko;exact⟨_,ir,g9,hL,r'⟩) hok hg
theorem Inv.turned{it:aD}(I:Inv X ad Z H s)(k:∀ b o,b≠it->s.heap.get? b=aa o->h'.get? b=aa o)(hn:H it=ab)(hL:it≠X.env.locals)
  (h1:it∈X.ex\/X.s₀.heap.objs.size<=it) (h2:∀ x c,X.env.cells.lookup x=aa c->c≠it) (h3:∀ p∈X.pn++ad,p.1≠it):Inv X ad Z H { s with heap:=h',toks:=t' }:=by
 have nit:∀ b u,H b=aa u->b≠it:=λb u e z=>by rw[z,hn] at e;cases e
 refine I.step (g':=s.gens) (d':=s.drawn) (ch:=[it]) (λb hb=>?_) (λb o _ _ hc e _=>k b o (λz=>hc (by simp[z])) e) (λb o _ _ hc e _=>⟨o.slots,k b o (λz=>hc (by simp[z])) e⟩) (λ_ _ _ _ n=>n)
  (λb o hc e=>⟨o,k b o (λz=>hc (by simp[z])) e⟩) (λ_ _ e=>e) (λ_ _ _ e=>e) (λb ps e=>⟨#[],by rw[e];simp⟩) (λm hm=>?_) (λb u e=>?_) I.bare
 .grind
 .obtain⟨o,es,ep,ho,r⟩:=hm;exact⟨o,es,ep,k _ o (kF hL) ho,r⟩
 .refine(I.hok b u e).stay (λc v hc q=>k c v ?_ q) (λ_ q=>q) λ_ _ q=>q
  grind
theorem Inv.tok (I:Inv X ad Z H s)(t:Nat):Inv X ad Z H { s with toks:=t }:=I.un (h':=s.heap) (t':=t) Un.refl I.hok
theorem Inv.kept(I:Inv X ad Z H s)(k:∀ b u,s.heap.get? b=aa u->h'.get? b=aa u):Inv X ad Z H { s with heap:=h',toks:=t' }:=I.un (Un.kept k) (I.hok.kept k)
theorem Inv.laid{o:HO}(I:Inv X ad Z H s)(k:∀ b u,s.heap.get? b=aa u->h'.get? b=aa u)(hp:s.heap.objs.size<=a)(new:Acz X.prog X.w (upd H a o) h' a o) :
  Inv X ad Z (upd H a o) { s with heap:=h',toks:=t' }:=I.un (Un.laid k hp (I.hok.fresh hp)) (I.hok.laid k hp new)
theorem Inv.write {x e:aD}{o:HO}(I:Inv X ad Z H s)(mu:wL (H x))(he:e=x\/H e=aa (.own x))(k:∀ b u,b≠e->s.heap.get? b=aa u->h'.get? b=aa u)(qq:∃ u,h'.get? e=aa u)
  (new:Acz X.prog X.w (upd H x o) h' x o):Inv X ad Z (upd H x o) { s with heap:=h',toks:=t' }:=I.un (Un.write mu he k qq) (I.hok.write mu he k qq new)
theorem Inv.pins_of {m3:List (aD×bK)}(I:Inv X ad Z H s)(h:∀ p∈m3,s.heap.get? p.1=aa p.2/\H p.1=ab/\p.1≠X.env.locals/\p.1∉X.fs/\∀ v,p.2.data ≠ .cell v):Inv X m3 Z H s:=
 ⟨I.ok,I.os,I.bare,I.base,I.loc,I.cell,I.free,I.freeC,λp hp=>(dH.1 hp).elim (λz=>I.pin p (NF _ z)) (h p),I.hok,I.len⟩
theorem UB {N:List aE}(hN:N.Nodup)(a:N[i]?=aa x)(b:N[j]?=aa x):i=j:=by
 obtain⟨h1,e1⟩:=cW.1 a;obtain⟨h2,e2⟩:=cW.1 b;exact(List.getElem_inj hN).1 (e1.trans e2.symm)
theorem VS{v:V}{Q:Unit->aI->Prop}(I:Inv X ad Z H s)(hN:X.N.Nodup)(hi:X.N[i]?=aa x)(hx:iU X.env.scope x)(r:RelV v u)
  (h:∀ s',Inv X ad (Z.set i (aa v)) H s'->(∃ a,wJ a s.heap s'.heap/\(a=X.env.locals\/X.env.cells.lookup x=aa a))->Q Unit.unit s') (hf:X.fn x=af\/X.env.scope.names.lookup x=aa .local:=by first|exact .inl rfl|exact .inr rfl|assumption):aW M A (storeName X.env x u) Q E s:=by
 obtain⟨m,hn,hl⟩:=id I.loc;have vf:(X.env.scope.kind==.class||(X.env.scope.kind==.module&&X.env.locals != X.env.globals))=ag:=by rw[I.ok.kind];rfl
 have qr:i<Z.length:=by rw[I.len];exact(cW.1 hi).1
 have cne:=I.cne;have iu:∀ {a:aD} {h':aU},(∃ o,s.heap.get? a=aa o/\H a=ab)->wJ a s.heap h'->HOk X.prog X.w H h':=λ{a h'} ha hs b ob e=>by
  obtain⟨_,_,m4⟩:=ha;refine(I.hok b ob e).stay (λc w' hc q=>(hs.2 c ?_).trans q) (λ_ q=>q) λ_ _ q=>q
  rintro rfl;rcases hc with rfl|hc
  .rw[m4] at e;cases e
  .rw[m4] at hc;cases hc
 rcases hx with hk|hk
 .refine wpAny_storeName_local hk hn (λh' zm hs=>?_) vf
  obtain⟨oL,_,_,n6,_⟩:=id hn;refine h _ ⟨I.ok,I.os,I.bare,⟨λb o e n hb hx=>?_,λb o e n hb hx=>?_,I.base.free,λb o e hx=>?_,I.base.tups,I.base.frzs,I.base.tbls⟩,⟨_,zm,λj y v' e1 e2 e3=>?_⟩,λy c e=>?_,I.free,I.freeC,λp hp=>?_,iu ⟨oL,n6,I.free⟩ hs,by simpa using I.len⟩ ⟨_,hs,.inl rfl⟩
  .exact(hs.2 b (eD (jK (bZ e) I.ok.above))).trans (I.base.keep b o e n hb hx)
  .obtain⟨sl,e1⟩:=I.base.slot b o e n hb hx;exact⟨sl,(hs.2 b (eD (jK (bZ e) I.ok.above))).trans e1⟩
  .obtain⟨o',e1⟩:=I.base.there b o e hx;exact⟨o',(hs.2 b (eD (jK (bZ e) I.ok.above))).trans e1⟩
  .by_cases hj:j=i
   .subst hj;rw[hi] at e1;cases e1;rw[pZ qr] at e2;cases e2;exact⟨u,r,.inl ⟨hk,by simp⟩⟩
   .rw[mW (kF hj)] at e2;obtain⟨u',r',q⟩:=hl j y v' e1 e2 e3;refine⟨u',r',?_⟩;rcases q with⟨k,e⟩|⟨k,c,e,z⟩
    .refine .inl ⟨k,?_⟩;have:y≠x:=λe=>hj (UB hN e1 (e ▸ hi))
     simp[this,e]
    .exact .inr ⟨k,c,e,z.sameBut hs (cne y c e)⟩
  .obtain⟨w',z⟩:=I.cell y c e;exact⟨w',z.sameBut hs (cne y c e)⟩
  .obtain⟨e,n,ne,nf,d⟩:=I.pin p hp;exact⟨(hs.2 p.1 ne).trans e,n,ne,nf,d⟩
 .have vg:X.fn x=af:=by
   rcases hf with z|z
   .exact z
   .rw[z] at hk;cases hk
  obtain⟨c,hc⟩:=I.ok.has x (.inl hk);obtain⟨w',z⟩:=I.cell x c hc;refine wpAny_storeName_cell I.ok.kind hk hc z (λh' dr hs=>?_)
  obtain⟨oc,xv,vh⟩:=id z;refine h { s with heap:=h' } ⟨I.ok,I.os,I.bare,⟨λb o e n hb hx=>?_,λb o e n hb hx=>?_,I.base.free,λb o e hx=>?_,I.base.tups,I.base.frzs,I.base.tbls⟩,⟨m,hn.sameBut hs (kF (cne x c hc)),λj y v' e1 e2 e3=>?_⟩,λy c' e=>?_,I.free,I.freeC,λp hp=>?_,iu ⟨oc,xv,I.freeC x c hc⟩ hs,by simpa using I.len⟩ ⟨c,hs,.inr hc⟩
  .exact(hs.2 b (eD (jK (bZ e) (I.ok.cab x c vg hc)))).trans (I.base.keep b o e n hb hx)
  .obtain⟨sl,e1⟩:=I.base.slot b o e n hb hx;exact⟨sl,(hs.2 b (eD (jK (bZ e) (I.ok.cab x c vg hc)))).trans e1⟩
  .obtain⟨o',e1⟩:=I.base.there b o e hx;exact⟨o',(hs.2 b (eD (jK (bZ e) (I.ok.cab x c vg hc)))).trans e1⟩
  .by_cases hj:j=i
   .subst hj;rw[hi] at e1;cases e1;rw[pZ qr] at e2;cases e2;exact⟨u,r,.inr ⟨.inl hk,c,hc,dr⟩⟩
   .rw[mW (kF hj)] at e2;obtain⟨u',r',q⟩:=hl j y v' e1 e2 e3;refine⟨u',r',?_⟩;rcases q with q|⟨k,c',e,z'⟩
    .exact .inl q
    .refine .inr ⟨k,c',e,z'.sameBut hs ?_⟩;rintro rfl;exact hj (UB hN e1 (I.ok.inj _ _ _ e hc ▸ hi))
  .by_cases xw:c'=c
   .subst xw;exact⟨_,dr⟩
   .obtain⟨w2,z2⟩:=I.cell y c' e;exact⟨w2,z2.sameBut hs xw⟩
  .obtain⟨e,n,ne,nf,d⟩:=I.pin p hp;refine⟨(hs.2 p.1 ?_).trans e,n,ne,nf,d⟩;intro q;rw[q,xv] at e;have q':oc=p.2:=gQ e;exact d w' (by rw[<-q'];exact vh)
theorem SC{v:V}{Q:Unit->aI->Prop}(I:Inv X ad Z H s)(hN:X.N.Nodup)(hi:X.N[i]?=aa x)(hx:iU X.env.scope x)(r:RelV v u)
  (h:∀ s',Inv X ad (Z.set i (aa v)) H s'->Q Unit.unit s') (hf:X.fn x=af\/X.env.scope.names.lookup x=aa .local:=by first|exact .inl rfl|exact .inr rfl|assumption):aW M A (storeName X.env x u) Q E s:=
 VS I hN hi hx r (λs' I' _=>h s' I') hf
theorem Inv.call'(I:Inv X ad Z H s)(ho:s'.os=s.os)(u:Un (jx X.stack) ch H H' s.heap s'.heap)(hok:HOk X.prog X.w H' s'.heap)(hg:rN s'.gens)
  (k8:∀ b∈ch,(b∈X.ex\/X.s₀.heap.objs.size<=b)/\b≠X.env.locals/\(∀ x c,X.env.cells.lookup x=aa c->c≠b)/\∀ p∈X.pn++ad,p.1≠b):Inv X ad Z H' s':=by
 obtain⟨h',g',d',t',o'⟩:=s';have e:o'=s.os:=ho;subst e;exact I.call (g':=g') (t':=t') (d':=d') u hok hg k8
end
abbrev XK:=aF->Option aD->Hp->Prop
abbrev St:=List (Option V)
abbrev VK:=V->Hp->Prop
abbrev TE:=St->Hp->VK->Prop
abbrev TT:=St->Hp->(Bool->Hp->Prop)->Prop
abbrev TA:=St->Hp->(List V->Hp->Prop)->Prop
structure Ends where
 nx:St->Hp->Prop
 rt:VK
 bk:St->Hp->Prop:=λ_ _=>False
 ct:St->Hp->Prop:=λ_ _=>False
abbrev TS:=Ends->St->Hp->Prop
def EP (X:Cx)(ad:List (aD×bK))(Z:St)(Q:VK)(u:aF)(s':aI):Prop:=∃ v H',Inv X ad Z H' s'/\RelV v u/\Q v H'
def TP (X:Cx)(ad:List (aD×bK))(Z:St)(Q:Bool->Hp->Prop)(b:Bool)(s':aI):Prop:=∃ H',Inv X ad Z H' s'/\Q b H'
def AP (X:Cx)(ad:List (aD×bK))(Z:St)(Q:List V->Hp->Prop)(us:List aF)(s':aI):Prop:=∃ vs H',Inv X ad Z H' s'/\Vals vs us/\Q vs H'
def SP (X:Cx)(ad:List (aD×bK))(D:Ends)(f:Flow)(s':aI):Prop:=
 match f with
 |.next=>∃ Z' H',Inv X ad Z' H' s'/\D.nx Z' H'
 |.brk=>∃ Z' H',Inv X ad Z' H' s'/\D.bk Z' H'
 |.cont=>∃ Z' H',Inv X ad Z' H' s'/\D.ct Z' H'
 |.ret u=>∃ v Z' H',Inv X ad Z' H' s'/\RelV v u/\D.rt v H'
def PE (X:Cx)(e:aR)(t:TE):Prop:=
 ∀ (ad:List (aD×bK)) (s:aI) (Z:St) (H:Hp) (Q:VK),Inv X ad Z H s->t Z H Q->aW (aY X.prog X.w) X.A (bW e X.env) (EP X ad Z Q) X.xe s
def PT (X:Cx)(e:aR)(t:TT):Prop:=
 ∀ (ad:List (aD×bK)) (s:aI) (Z:St) (H:Hp) (Q:Bool->Hp->Prop),Inv X ad Z H s->t Z H Q->aW (aY X.prog X.w) X.A (isTrue e X.env (bW e X.env)) (TP X ad Z Q) X.xe s
def PW (X:Cx)(e:aR)(t:TT):Prop:=
 ∀ (dt:Sem aF) (ad:List (aD×bK)) (s:aI) (Z:St) (H:Hp) (Q:Bool->Hp->Prop),Inv X ad Z H s->t Z H Q->aW (aY X.prog X.w) X.A (isTrue e X.env dt) (TP X ad Z Q) X.xe s
theorem PW.pt {X:Cx}{t:TT}(h:PW X e t):PT X e t:=h _
def PA (X:Cx)(es:List aR)(t:TA):Prop:=
 ∀ (pos:bL) (ad:List (aD×bK)) (s:aI) (Z:St) (H:Hp) (Q:List V->Hp->Prop),Inv X ad Z H s->t Z H Q->aW (aY X.prog X.w) X.A (spliced (iQ pos (cA es X.env))) (AP X ad Z Q) X.xe s
def PS (X:Cx)(st:eO)(t:TS):Prop:=
 ∀ (ad:List (aD×bK)) (s:aI) (Z:St) (H:Hp) (D:Ends),Inv X ad Z H s->t D Z H->aW (aY X.prog X.w) X.A (exec st X.env) (SP X ad D) X.xe s
def PSs (X:Cx)(st:List eO)(t:TS):Prop:=
 ∀ (ad:List (aD×bK)) (s:aI) (Z:St) (H:Hp) (D:Ends),Inv X ad Z H s->t D Z H->aW (aY X.prog X.w) X.A (execs st X.env) (SP X ad D) X.xe s
theorem bf {α:Type}{t:Sem α}{Q Q':α->aI->Prop}(h:aW M A t Q E s)(hQ:∀ a s,Q a s->Q' a s):aW M A t Q' E s:=jO h hQ λ_ _ x=>x
section
variable {X:Cx}
abbrev FJ (i:Nat):TE:=λZ H Q=>∃ v,Z[i]?=aa (aa v)/\Q v H
abbrev tC (v:V):TE:=λ_ H Q=>Q v H
theorem Ku(hN:X.N[i]?=aa x)(hv:AB X.env.scope x)(hd:(x==("__debug__" : aE))=ag:=by decide)(j0:(x==("__classdict__" : aE))=ag:=by decide):PE X (.Name x pos) (FJ i):=by
 rw[9];obtain⟨v,e,h⟩:=h;obtain⟨m,hn,hl⟩:=I.loc;obtain⟨u,r,l⟩:=hl i x v hN e hv;have fin:EP X ad Z Q u s:=⟨v,H,I,r,h⟩;rcases l with⟨hk,hm⟩|⟨hk,c,hc,iw⟩
 .exact wpAny_Name (wpAny_loadName_local I.ok.kind hk hn hm fin) hd
 .rcases hk with hk|hk
  .exact wpAny_Name (wpAny_loadName_cell I.ok.kind hk hc iw fin) hd
  .exact wpAny_Name (wpAny_loadName_free I.ok.kind hk hc iw fin j0) hd
structure Nm (X:Cx)(i:Nat)(x:aE):Prop where
 a:X.N[i]?=aa x
 v:AB X.env.scope x
 d:(x==("__debug__" : aE))=ag
 c:(x==("__classdict__" : aE))=ag
theorem gL(hN:X.N[i]?=aa x:=by rfl)(hv:AB X.env.scope x:=by first|exact dW rfl|exact fM (dW rfl)|exact fM (fM rfl))(hd:(x==("__debug__" : aE))=ag:=by decide)(j0:(x==("__classdict__" : aE))=ag:=by decide):Nm X i x:=⟨hN,hv,hd,j0⟩
theorem Nm.pe(h:Nm X i x):PE X (.Name x pos) (FJ i):=Ku h.a h.v h.d h.c
theorem Bp {i j pos}:PE X (.Constant (.int i) j pos) (tC (.int i)):=λ_ _ _ H _ I h=>wpAny_Constant_int ⟨.int i,H,I.tok _,⟨_,rfl⟩,h⟩
theorem Ib {b j pos}:PE X (.Constant (.bool b) j pos) (tC (.bl b)):=λ_ _ _ H _ I h=>Constant_bool ⟨.bl b,H,I,rfl,h⟩
theorem Aj {j pos}:PE X (.Constant .none j pos) (tC .non):=λ_ _ _ H _ I h=>Constant_none ⟨.non,H,I,rfl,h⟩
theorem Kg {x j pos}:PE X (.Constant (.str x) j pos) (tC (.str x)):=λ_ _ _ H _ I h=>Calls.Constant_str ⟨.str x,H,I.tok _,⟨_,rfl⟩,h⟩
def Gl (X:Cx)(x:aE):Prop:=X.env.kindOf x=aa .globalImplicit
theorem Ca{Z:St}{H:Hp}(I:Inv X ad Z H s)(hg:Gl X x)(hm:X.mg x=aa u)(h:Q u s)
  (hd:(x==("__debug__" : aE))=ag:=by decide):aW (aY X.prog X.w) X.A (bW (.Name x pos) X.env) Q E s:=
 Calls.Name_function_global I.ok.kind hg (Calls.loadGlobal_global (by rw[I.ok.glob];exact I.mod.glob.keeps I.bk) hm h) hd
theorem wW{Z:St}{H:Hp}(I:Inv X ad Z H s)(hg:Gl X x)(hm:X.mg x=ab)(hv:lV x=aa u)(h:Q u s)
  (hn:x ≠ "__name__":=by decide) (hd:(x==("__debug__" : aE))=ag:=by decide):aW (aY X.prog X.w) X.A (bW (.Name x pos) X.env) Q E s:=by
 obtain⟨mb,h1,h2⟩:=I.mod.blt;exact Calls.Name_function_global I.ok.kind hg (Calls.loadGlobal_builtin (by rw[I.ok.glob];exact I.mod.glob.keeps I.bk) hm (by rw[I.ok.blt];exact h1.keeps I.bk) ((h2 x hn).trans hv) h) hd
theorem Pl{v:V}(hg:Gl X x)(hm:X.mg x=aa u)(r:RelV v u)(hd:(x==("__debug__" : aE))=ag:=by decide):PE X (.Name x pos) (tC v):=
 λ_ _ _ H _ I h=>Ca I hg hm ⟨v,H,I,r,h⟩ hd
theorem Oc{v:V}(hg:Gl X x)(hm:X.mg x=ab)(hv:lV x=aa u)(r:RelV v u)(hn:x ≠ "__name__":=by decide)(hd:(x==("__debug__" : aE))=ag:=by decide):PE X (.Name x pos) (tC v):=
 λ_ _ _ H _ I h=>wW I hg hm hv ⟨v,H,I,r,h⟩ hn hd
variable {a b:aR}{ta tb:TE}
def tB (t:TE):TT:=λZ H Q=>t Z H λx H1=>∃ c,x=.bl c/\Q c H1
theorem Kb{t:TE}(h:PE X e t)(he:∀ dt,isTrue e X.env dt=(do let v <-dt;standAt e.pos;kX [v] (truthy v)):=by intro _;rfl):PT X e (tB t):=by
 intro ad s Z H Q I hw;refine isTrue_plain (bf (h ad s Z H _ I hw) λv s1 ⟨x,H1,I1,r1,q1⟩=>?_) (he _)
 obtain⟨d,rfl,q⟩:=q1;cases r1;exact yX ⟨H1,I1,q⟩
variable {tA tB':TT}{rest:List aR}
def Ge (t u:TT):TT:=λZ H Q=>t Z H λc H1=>if c=af then u Z H1 Q else Q ag H1
def G8 (t u:TT):TT:=λZ H Q=>t Z H λc H1=>if c=af then Q af H1 else u Z H1 Q
def Ff (t:TT):TT:=λZ H Q=>t Z H λc H1=>Q (!c) H1
theorem QB (ha:PT X a tA):PW X (.BoolOp .And [a] pos) tA:=by
 intro wh ad s Z H Q I h;refine isTrue_and (bf (ha ad s Z H Q I h) λc s1 e=>?_)
 cases c with
 |true=>exact isTrue_and_nil e
 |false=>exact e
theorem Kj (ha:PT X a tA):PW X (.BoolOp .Or [a] pos) tA:=by
 intro wh ad s Z H Q I h;refine isTrue_or (bf (ha ad s Z H Q I h) λc s1 e=>?_)
 cases c with
 |false=>exact isTrue_or_nil e
 |true=>exact e
theorem Az (ha:PT X a tA)(hb:PW X (.BoolOp .And (b::rest) pos) tB'):PW X (.BoolOp .And (a::b::rest) pos) (Ge tA tB'):=by
 intro wh ad s Z H Q I h;refine isTrue_and (bf (ha ad s Z H _ I h) λc s1 gh=>?_)
 obtain⟨H1,I1,q1⟩:=gh;cases c with
 |true=>exact hb wh ad s1 Z H1 Q I1 q1
 |false=>exact⟨H1,I1,q1⟩
theorem Hn (ha:PT X a tA)(hb:PW X (.BoolOp .Or (b::rest) pos) tB'):PW X (.BoolOp .Or (a::b::rest) pos) (G8 tA tB'):=by
 intro wh ad s Z H Q I h;refine isTrue_or (bf (ha ad s Z H _ I h) λc s1 gh=>?_)
 obtain⟨H1,I1,q1⟩:=gh;cases c with
 |true=>exact⟨H1,I1,q1⟩
 |false=>exact hb wh ad s1 Z H1 Q I1 q1
theorem Jk (ha:PT X a tA):PT X (.UnaryOp .Not a pos) (Ff tA):=by
 rw[9];exact isTrue_not (ha ad s Z H (λc H1=>Q (!c) H1) I h)
def Hy (ta tb:TE):TE:=λZ H Q=>ta Z H λx H1=>∃ c,x=.bl c/\if c=af then tb Z H1 Q else Q (.bl ag) H1
def Gr (ta:TE):TE:=λZ H Q=>ta Z H λx H1=>∃ c,x=.bl c/\Q (.bl (!c)) H1
theorem Ip {op}{t:TE}(h:PE X a t):PE X (.BoolOp op [a] pos) t:=λad s Z H Q I hw=>BoolOp_one (h ad s Z H Q I hw)
theorem Jx (ha:PE X a ta)(hb:PE X (.BoolOp .And (b::rest) pos) tb):PE X (.BoolOp .And (a::b::rest) pos) (Hy ta tb):=by
 rw[9];refine BoolOp_and (bf (ha ad s Z H _ I h) λv s1 gh=>?_)
 obtain⟨x,H1,I1,r1,q1⟩:=gh;obtain⟨c,rfl,q1⟩:=q1;cases r1;refine yX ?_;cases c with
 |true=>exact hb ad s1 Z H1 Q I1 q1
 |false=>exact⟨.bl ag,H1,I1,rfl,q1⟩
theorem Jt (ha:PE X a ta):PE X (.UnaryOp .Not a pos) (Gr ta):=by
 rw[9];refine UnaryOp_ (bf (ha ad s Z H _ I h) λv s1 gh=>?_)
 obtain⟨x,H1,I1,r1,q1⟩:=gh;obtain⟨c,rfl,q1⟩:=q1;cases r1;exact not_of (yX ⟨.bl (!c),H1,I1,rfl,q1⟩)
def G6 (t:TT)(ta tb:TE):TE:=λZ H Q=>t Z H λc H1=>if c=af then ta Z H1 Q else tb Z H1 Q
theorem IK(hc:PT X c tA)(ha:PE X a ta)(hb:PE X b tb):PE X (.IfExp c a b pos) (G6 tA ta tb):=by
 rw[9];refine wpAny_IfExp (bf (hc ad s Z H _ I h) λd s1 gh=>?_)
 obtain⟨H1,I1,q1⟩:=gh;cases d with
 |true=>exact ha ad s1 Z H1 Q I1 q1
 |false=>exact hb ad s1 Z H1 Q I1 q1
end
def SqL (K:aM)(H:Hp)(a:aD)(xs:List V):Prop:=
 Rd H a (.lst xs) \/
  ∃ (o:bK) (its:Array aF) (n:Nat),K.lookup a=aa o/\o.cls=.type "list" /\ o.dict=ab/\o.data=.seq its n/\its.size<=sizeLine/\Vals xs its.toList
def SqT (K:aM)(H:Hp)(a:aD)(xs:List V):Prop:=
 Rd H a (.tup xs) \/
  ∃ (o:bK) (its:Array aF) (n:Nat),K.lookup a=aa o/\o.cls=.type "tuple" /\ o.data=.seq its n/\its.size<=sizeLine/\Vals xs its.toList
def Fg:aF->Option V
 |.none=>aa .non
 |.bool b=>aa (.bl b)
 |.int i _=>aa (.int i)
 |.str x _=>aa (.str x)
 |.bytes b _=>aa (.byt b)
 |.float b _=>aa (.flt b)
 |.ref a=>aa (.ref a)
 |.type n=>aa (.ty n)
 |_=>ab
theorem RelV.abs {x:V}(r:RelV x u):Fg u=aa x:=by
 cases x with
 |non=>cases r;rfl
 |bl _=>cases r;rfl
 |int _=>obtain⟨t,rfl⟩:=r;rfl
 |str _=>obtain⟨t,rfl⟩:=r;rfl
 |byt _=>obtain⟨t,rfl⟩:=r;rfl
 |flt _=>obtain⟨t,rfl⟩:=r;rfl
 |ref _=>cases r;rfl
 |ty _=>cases r;rfl
theorem RelV.inj {x y:V}(r:RelV x u)(q:RelV y u):x=y:=gQ (r.abs.symm.trans q.abs)
theorem Vals.inj:∀ {xs ys:List V} {us:List aF},Vals xs us->Vals ys us->xs=ys:=by
 intro xs ys us h;induction h generalizing ys with
 |nil=>intro h;cases h;rfl
 |cons r _ ih=>
  intro h;cases h with
  |cons r' t'=>rw[r.inj r',ih t']
section
variable {X:Cx}{Z:St}{H:Hp}{xs ys:List V}
theorem SqL.of(h:H a=aa (.lst xs)):SqL K H a xs:=.inl (.inl h)
theorem SqT.of(h:H a=aa (.tup xs)):SqT K H a xs:=.inl (.inl h)
theorem Inv.list (I:Inv X ad Z H s)(h:SqL X.K H a xs):∃ its:List aF,Vals xs its/\PlainL s.heap a its.toArray/\xs.length<=sizeLine:=by
 rcases h with h|⟨o,its,n,hk,hc,hd,hs,hz,r⟩
 .obtain⟨z,its,n,r,e⟩:=h.ok I.hok;exact⟨its,r,⟨_,n,e,rfl,rfl,rfl⟩,z⟩
 .refine⟨its.toList,r,⟨o,n,I.kIn a o hk,hc,hd,by simpa using hs⟩,?_⟩
  have e:=r.length
  grind
theorem Inv.tuple (I:Inv X ad Z H s)(h:SqT X.K H a xs):∃ its:List aF,Vals xs its/\IsTup s.heap a its.toArray/\xs.length<=sizeLine:=by
 rcases h with h|⟨o,its,n,hk,hc,hs,hz,r⟩
 .obtain⟨z,its,r,p⟩:=h.ok I.hok;exact⟨its,r,p.1,z⟩
 .refine⟨its.toList,r,⟨o,I.kIn a o hk,hc,n,by simpa using hs⟩,?_⟩
  have e:=r.length
  grind
theorem Inv.list_inj (I:Inv X ad Z H s)(h:SqL X.K H a xs)(h':SqL X.K H a ys):xs=ys:=by
 obtain⟨its,r,⟨o,n,e,_,_,d⟩,_⟩:=I.list h;obtain⟨its',r',⟨o',n',e',_,_,d'⟩,_⟩:=I.list h';rw[e] at e';cases e';rw[d] at d';injection d' with d1 _;have:its=its':=by simpa using congrArg Array.toList d1
 rw[10];exact r.inj r'
theorem Inv.tuple_inj (I:Inv X ad Z H s)(h:SqT X.K H a xs)(h':SqT X.K H a ys):xs=ys:=by
 obtain⟨its,r,⟨o,e,_,n,d⟩,_⟩:=I.tuple h;obtain⟨its',r',⟨o',e',_,n',d'⟩,_⟩:=I.tuple h';rw[e] at e';cases e';rw[d] at d';injection d' with d1 _;have:its=its':=by simpa using congrArg Array.toList d1
 rw[10];exact r.inj r'
end
abbrev Cx.wish (X:Cx)(E:aF->aI->Prop):Cx:={ X with xe:=E }
abbrev Cx.nox (X:Cx):Cx:=X.wish λ_ _=>False
theorem Cx.Ok.wish {X:Cx}(ok:X.Ok)(E:aF->aI->Prop):(X.wish E).Ok:=
 ⟨ok.mod,ok.kind,ok.glob,ok.blt,ok.above,ok.inj,ok.has,ok.cab,ok.hd,ok.frames,ok.stk,ok.exf,ok.bs,ok.bsz,ok.noex,ok.exfs,ok.funs,ok.frf⟩
theorem Cx.Ok.unwish {X:Cx}(ok:(X.wish E).Ok):X.Ok:=
 ⟨ok.mod,ok.kind,ok.glob,ok.blt,ok.above,ok.inj,ok.has,ok.cab,ok.hd,ok.frames,ok.stk,ok.exf,ok.bs,ok.bsz,ok.noex,ok.exfs,ok.funs,ok.frf⟩
section
variable {X:Cx}{Z:St}{H:Hp}
theorem Inv.wish (I:Inv X ad Z H s)(E:aF->aI->Prop):Inv (X.wish E) ad Z H s:=⟨I.ok.wish E,I.os,I.bare,I.base,I.loc,I.cell,I.free,I.freeC,I.pin,I.hok,I.len⟩
theorem Inv.unwish (I:Inv (X.wish E) ad Z H s):Inv X ad Z H s:=⟨I.ok.unwish,I.os,I.bare,I.base,I.loc,I.cell,I.free,I.freeC,I.pin,I.hok,I.len⟩
theorem SP.unwish {D:Ends}{f:Flow}(h:SP (X.wish E) ad D f s'):SP X ad D f s':=by
 cases f with
 |next=>obtain⟨Z',H',I,q⟩:=h;exact⟨Z',H',I.unwish,q⟩
 |brk=>obtain⟨Z',H',I,q⟩:=h;exact⟨Z',H',I.unwish,q⟩
 |cont=>obtain⟨Z',H',I,q⟩:=h;exact⟨Z',H',I.unwish,q⟩
 |ret u=>obtain⟨v,Z',H',I,r,q⟩:=h;exact⟨v,Z',H',I.unwish,r,q⟩
theorem PE.nox{t:TE}(h:PE X.nox e t):PE X e t:=λad s Z H Q I hw=>
 jO (h ad s Z H Q (I.wish _) hw) (λ_ _ ⟨v,H',I',r,q⟩=>⟨v,H',I'.unwish,r,q⟩) λ_ _ z=>mX z
theorem PT.nox{t:TT}(h:PT X.nox e t):PT X e t:=λad s Z H Q I hw=>
 jO (h ad s Z H Q (I.wish _) hw) (λ_ _ ⟨H',I',q⟩=>⟨H',I'.unwish,q⟩) λ_ _ z=>mX z
theorem PSs.nox {st:List eO}{t:TS}(h:PSs X.nox st t):PSs X st t:=λad s Z H D I hw=>
 jO (h ad s Z H D (I.wish _) hw) (λ_ _ q=>q.unwish) λ_ _ z=>mX z
end
section
variable {X:Cx}{st:eO}{rest:List eO}{t u:TS}{te:TE}
def OZ:TS:=λD Z H=>D.nx Z H
def Fm (t u:TS):TS:=λD Z H=>t { D with nx:=u D } Z H
theorem HJ:PSs X [] OZ:=λ_ _ Z H _ I h=>MG ⟨Z,H,I,h⟩
theorem Wk (h1:PS X st t)(h2:PSs X rest u):PSs X (st::rest) (Fm t u):=by
 intro ad s Z H D I h;refine wpAny_execs_cons (bf (h1 ad s Z H { D with nx:=u D } I h) λf s1 q=>?_)
 cases f with
 |next=>
  obtain⟨Z',H',I',q⟩:=q;exact h2 ad s1 Z' H' D I' q
 |ret v=>exact q
 |brk=>exact q
 |cont=>exact q
theorem Lq (h1:PS X st t):PSs X [st] t:=by
 intro ad s Z H D I h;refine wpAny_execs_cons (bf (h1 ad s Z H D I h) λf s1 q=>?_)
 cases f with
 |next=>exact MG q
 |ret v=>exact q
 |brk=>exact q
 |cont=>exact q
theorem Inv.quiet{Z:St}{H:Hp}(I:Inv X ad Z H s):interactive X.env=ag:=by simp[interactive,I.ok.kind]
def Ha (te:TE):TS:=λD Z H=>te Z H λ_ H1=>D.nx Z H1
theorem nP (he:PE X e te)(hs:iO e ab pos.line X.env=pure ag:=by rfl):PS X (.Expr e pos) (Ha te):=by
 intro ad s Z H D I h;exact wpAny_Expr_any (bf (he ad s Z H _ I h) λv s1 ⟨x,H1,I1,r1,q1⟩=>⟨Z,H1,I1,q1⟩) I.quiet hs
def Fd (te:TE):TS:=λD Z H=>te Z H D.rt
theorem BD (he:PE X e te):PS X (.Return (aa e) pos) (Fd te):=by
 intro ad s Z H D I h;exact wpAny_Return_some (bf (he ad s Z H _ I h) λv s1 ⟨x,H1,I1,r1,q1⟩=>⟨x,Z,H1,I1,r1,q1⟩)
def Fp (c:TT)(t u:TS):TS:=λD Z H=>c Z H λb H1=>if b=af then t D Z H1 else u D Z H1
theorem FU{a b:List eO}{tc:TT}(hc:PT X c tc)(ha:PSs X a t)(hb:PSs X b u):PS X (.If c a b pos) (Fp tc t u):=by
 intro ad s Z H D I h;refine wpAny_If (bf (hc ad s Z H _ I h) λd s1 gh=>?_)
 obtain⟨H1,I1,q1⟩:=gh;cases d with
 |true=>exact ha ad s1 Z H1 D I1 q1
 |false=>exact hb ad s1 Z H1 D I1 q1
end
abbrev TG:=V->St->Hp->(St->Hp->Prop)->Prop
abbrev l4:=List V->St->Hp->(St->Hp->Prop)->Prop
def PG (X:Cx)(ft:aR)(t:TG):Prop:=
 ∀ (ad:List (aD×bK)) (s:aI) (Z:St) (H:Hp) (v:V) (u:aF) (Q:St->Hp->Prop),Inv X ad Z H s->RelV v u->t v Z H Q ->
  aW (aY X.prog X.w) X.A (iI ft X.env u) (λ_ s'=>∃ Z' H',Inv X ad Z' H' s'/\Q Z' H') X.xe s
def t5 (X:Cx)(ts:List aR)(t:l4):Prop:=
 ∀ (ad:List (aD×bK)) (s:aI) (Z:St) (H:Hp) (vs:List V) (us:List aF) (Q:St->Hp->Prop),Inv X ad Z H s->Vals vs us->t vs Z H Q ->
  aW (aY X.prog X.w) X.A (assignInOrder ((eQ ts X.env).map (·.2)) us) (λ_ s'=>∃ Z' H',Inv X ad Z' H' s'/\Q Z' H') X.xe s
abbrev FI:=V->V->V->Hp->(Hp->Prop)->Prop
def OL (X:Cx)(t:FI):Prop:=
 ∀ (ad:List (aD×bK)) (s:aI) (Z:St) (H:Hp) (o i v:V) (ov iv u:aF) (Q:Hp->Prop),Inv X ad Z H s->RelV o ov->RelV i iv->RelV v u->t o i v H Q ->
  aW (aY X.prog X.w) X.A (setItem ov iv u) (λ_ s'=>∃ H',Inv X ad Z H' s'/\Q H') X.xe s
section
variable {X:Cx}
def FW (i:Nat):TG:=λv Z H Q=>Q (Z.set i (aa v)) H
theorem qQ(hN:X.N.Nodup)(hi:X.N[i]?=aa x)(hx:iU X.env.scope x)(hf:X.fn x=af\/X.env.scope.names.lookup x=aa .local:=by first|exact .inl rfl|exact .inr rfl|assumption):PG X (.Name x pos) (FW i):=by
 intro ad s Z H v u Q I r h;exact wpAny_assign_Name (SC I hN hi hx r (λs' I'=>⟨_,H,I',h⟩) hf)
def Fy:l4:=λvs Z H Q=>vs=[]/\Q Z H
def Hr (t:TG)(u:l4):l4:=λvs Z H Q=>∃ v r,vs=v::r/\t v Z H λZ' H'=>u r Z' H' Q
theorem HI:t5 X [] Fy:=by
 intro ad s Z H vs us Q I r h;obtain⟨e,h⟩:=h;subst e;cases r;exact assignInOrder_nil ⟨Z,H,I,h⟩
theorem vC{t:TG}{u:l4}(h1:PG X e t)(h2:t5 X es u)
  (hs:(eQ (e::es) X.env).map (·.2)=iI e X.env::(eQ es X.env).map (·.2):=by rfl):t5 X (e::es) (Hr t u):=by
 intro ad s Z H vs us Q I r h;obtain⟨v,vr,e1,h⟩:=h;subst e1;cases r with
 |cons r rr=>
  rw[hs];refine assignInOrder_cons (bf (h1 ad s Z H _ _ _ I r h) λ_ s1 gh=>?_)
  obtain⟨Z1,H1,I1,q1⟩:=gh;exact h2 ad s1 Z1 H1 _ _ Q I1 rr q1
def Fi (K:aM)(n:Nat)(t:l4):TG:=λv Z H Q=>∃ a xs,v=.ref a/\SqT K H a xs/\xs.length=n/\t xs Z H Q
theorem ZX{k:Nat}{t:l4}{n:Nat}(hc:X.calm=af)(h:t5 X es t)
  (hn:(eQ es X.env).length=n:=by rfl) (gw:(eQ es X.env).findIdx? (·.1)=ab:=by rfl):PG X (.Tuple es k pos) (Fi X.K n t):=by
 intro ad s Z H v u Q I r hw;obtain⟨a,xs,e1,hq,hl,hw⟩:=hw;subst e1;cases r;obtain⟨its,rv,ht,hz⟩:=I.tuple hq;refine assign_Tuple_tuple (I.ok.hd hc) ht (by simp[hn,<-hl,rv.length]) gw λh' hx=>?_
 have I1:Inv X ad Z H { s with heap:=h' }:=I.kept (t':=s.toks) λb o e=>hx b o (eD (bZ e)) e
 exact h ad _ Z H xs _ Q I1 (by simpa using rv) hw
def Fz (to ti:TE)(t:FI):TG:=λv Z H Q=>to Z H λo H1=>ti Z H1 λi H2=>t o i v H2 λH3=>Q Z H3
theorem GI {o i:aR}{to ti:TE}{t:FI}(ho:PE X o to)(hi:PE X i ti)(hs:OL X t)
  (ha:∀ v,iI (.Subscript o i pos) X.env v=(do
   let ov <-kX [v] (bW o X.env)
   let iv <-kX [v,ov] (bW i X.env)
   standAt pos
   kX [v,ov,iv] (setItem ov iv v)
   release [v,ov,iv] []):=by intro _;rfl):PG X (.Subscript o i pos) (Fz to ti t):=by
 intro ad s Z H v u Q I r h;rw[ha];refine aK (iA (bf (ho ad s Z H _ I h) λov s1 gh=>?_))
 obtain⟨x,H1,I1,r1,q1⟩:=gh;refine aK (iA (bf (hi ad s1 Z H1 _ I1 q1) λiv s2 gh=>?_))
 obtain⟨y,H2,I2,r2,q2⟩:=gh;refine aK (MA (aK (iA (bf (hs ad s2 Z H2 x y v ov iv u _ I2 r1 r2 r q2) λ_ s3 gh=>?_))))
 obtain⟨H3,I3,q3⟩:=gh;exact wpAny_release ⟨Z,H3,I3,q3⟩
def FL (te:TE)(g:TG):TS:=λD Z H=>te Z H λx H1=>g x Z H1 D.nx
theorem AS{te:TE}{g:TG}(he:PE X e te)(hg:PG X tg g)(hs:DY [tg] e pos.line X.env=pure ag:=by rfl)(hw:DZ [tg] e X.env=pure ab:=by rfl)
  (h1:(eQ [tg] X.env).map (·.2)=[iI tg X.env]:=by rfl):PS X (.Assign [tg] e pos) (FL te g):=by
 intro ad s Z H D I h;refine wpAny_Assign_stores (bf (he ad s Z H _ I h) λv s1 ⟨x,H1,I1,r1,q1⟩=>?_) hs hw
 rw[h1];exact bf (hg ad s1 Z H1 x v _ I1 r1 q1) λ_ s2 q=>q
theorem An{te:TE}{gx:bL}(hN:X.N.Nodup)(hi:X.N[i]?=aa x)(hx:iU X.env.scope x)(he:PE X e te)(hs:iO e (aa (.Name x gx)) pos.line X.env=pure ag:=by rfl)(hf:X.fn x=af\/X.env.scope.names.lookup x=aa .local:=by first|exact .inl rfl|exact .inr rfl|assumption) :
  PS X (.Assign [.Name x gx] e pos) (FL te (FW i)):=by
 intro ad s Z H D I h;refine wpAny_Assign_Name (bf (he ad s Z H _ I h) λv s1 ⟨y,H1,I1,r1,q1⟩=>?_) hs
 exact SC I1 hN hi hx r1 (λs2 I2=>⟨_,H1,I2,q1⟩) hf
end
section
variable {X:Cx}
def Mi (c:TT)(tb:TS):TS:=λD Z H=>∃ W:Nat->St->Hp->Prop,(∃ m,W m Z H)/\∀ m Z H,W m Z H ->
 c Z H λb H1=>if b=af then ∃ N:St->Hp->Prop,(∀ Z' H',N Z' H'->∃ m',m'<m/\W m' Z' H')/\tb { D with nx:=N,ct:=N,bk:=D.nx } Z H1 else D.nx Z H1
theorem Wn{tc:TT}{tb:TS}(hp:zO (aY X.prog X.w) X.A X.env X.xe)(hc:PT X c tc)(hb:PSs X body tb):PS X (.While c body [] pos) (Mi tc tb):=by
 intro ad s Z H D I h;obtain⟨W,⟨m0,w0⟩,turn⟩:=h;refine wpAny_While (codeAny_whileLoop (λn s'=>∃ Z' H',Inv X ad Z' H' s'/\W n Z' H') ?_ m0 ⟨Z,H,I,w0⟩)
 rintro n s1 ⟨Z1,H1,I1,w1⟩;refine vN hp (bf (hc ad s1 Z1 H1 _ I1 (turn n Z1 H1 w1)) λb s2 gh=>?_)
 obtain⟨H2,I2,q2⟩:=gh;cases b with
 |true=>
  obtain⟨N,hN,q2⟩:=q2;rw[if_pos rfl];refine vN hp (bf (hb ad s2 Z1 H2 _ I2 q2) λf s3 q3=>?_)
  cases f with
  |next=>
   obtain⟨Z3,H3,I3,n3⟩:=q3
   grind
  |cont=>
   obtain⟨Z3,H3,I3,n3⟩:=q3
   grind
  |brk=>exact q3
  |ret v=>exact q3
 |false=>
  rw[if_neg mB];exact MG ⟨Z1,H2,I2,q2⟩
end
structure It where
 go:Nat->Hp->Prop
 yld:Nat->Hp->V->Hp->Prop
 stop:Nat->Hp->Prop
def iX (X:Cx)(ad:List (aD×bK))(H:Hp)(b:aD):Prop:=
 H b=ab/\b≠X.env.locals/\b∉X.fs/\(b∈X.ex\/X.s₀.heap.objs.size<=b)/\(∀ x c,X.env.cells.lookup x=aa c->c≠b)/\∀ p∈X.pn++ad,p.1≠b
theorem Inv.fpOk {X:Cx}{Z:St}{H H':Hp}(I:Inv X ad Z H s)(hb:s.heap.objs.size<=b)(hn:H' b=ab):iX X ad H' b:=by
 refine⟨hn,rD (jK I.lt hb),I.nofs hb,.inr (cL I.sz hb),λx c e z=>?_,λp hp z=>?_⟩
 .obtain⟨v,q⟩:=I.cell x c e;exact absurd (jK q.lt (by rw[z];exact hb)) (mT _)
 .exact absurd (jK (bZ (I.pin p hp).1) (by rw[z];exact hb)) (mT _)
structure Turn (P:bP)(w:bE)(K:aM)(tg:aR)(J:It)(fp:List aD)(it:aD)(tn:Nat->aU->Prop):Prop where
 mem:it∈fp
 obj:∀ i h,tn i h->∀ b∈fp,∃ o,h.get? b=aa o/\∀ v,o.data ≠ .cell v
 keep:∀ i h h',tn i h->(∀ b∈fp,∀ o,h.get? b=aa o->h'.get? b=aa o)->tn i h'
 item:∀ (X:Cx),X.prog=P->X.w=w->X.K=K->X.calm=af->∀ (i:Nat) (ad:List (aD×bK)) (s:aI) (Z:St) (H:Hp) (E:aF->aI->Prop),Inv X ad Z H s->(∀ b∈fp,iX X ad H b)->tn i s.heap->J.go i H ->
  aW (aY P w) X.A (oI (.ref it)) (λr s1=>∃ u,r=aa u /\
   aW (aY P w) X.A (MK tg (.ref it) u) (λ_ s2=>∃ x H',Inv X ad Z H' s2/\RelV x u/\J.yld i H x H'/\tn (i+1) s2.heap/\∀ b∈fp,H' b=ab) E s1) E s
 done:∀ (X:Cx),X.prog=P->X.w=w->X.K=K->X.calm=af->∀ (i:Nat) (ad:List (aD×bK)) (s:aI) (Z:St) (H:Hp) (E:aF->aI->Prop),Inv X ad Z H s->(∀ b∈fp,iX X ad H b)->tn i s.heap->J.stop i H ->
  aW (aY P w) X.A (oI (.ref it)) (λr s1=>r=ab/\Inv X ad Z H s1) E s
 self:∀ (A:cE) (i:Nat) (s:aI) (Q:aF->aI->Prop) (E:aF->aI->Prop),tn i s.heap->Q (.ref it) s->aW (aY P w) A (tQ (.ref it)) Q E s
abbrev TI:=St->Hp->(It->Hp->Prop)->Prop
def xj (X:Cx)(ad:List (aD×bK))(Z:St)(tg:aR)(R:It->Hp->Prop)(uh:aF)(s2:aI):Prop:=
 ∃ (it:aD) (fp:List aD) (tn:Nat->aU->Prop) (J:It) (H':Hp),uh=.ref it/\Inv X ad Z H' s2/\Turn X.prog X.w X.K tg J fp it tn/\tn 0 s2.heap/\(∀ b∈fp,iX X ad H' b)/\R J H'
def PI (X:Cx)(tg bg:aR)(wi:TI):Prop:=
 ∀ (ad:List (aD×bK)) (s:aI) (Z:St) (H:Hp) (R:It->Hp->Prop),Inv X ad Z H s->wi Z H R ->
  aW (aY X.prog X.w) X.A (bW bg X.env) (λv s1=>aW (aY X.prog X.w) X.A (tQ v) (xj X ad Z tg R) X.xe s1) X.xe s
theorem yW{it:aD}{n:String}{vs:Array aF}{Q:Unit->aI->Prop}(ho:s.heap.get? it=aa o)(hc:o.cls=.type n)(hd:o.data=.fields vs)
    (hn:["enumerate","zip","dict_itemiterator","dict_reverseitemiterator","odict_iterator","itertools.zip_longest","itertools.pairwise"].contains n=ag) (hQ:Q Unit.unit s):aW M A (MK tg (.ref it) u) Q E s:=by
  unfold MK;cases tg<;>first
    |exact aZ hQ
    | (cases u<;>first
        |exact aZ hQ
        | (refine aK (wpAny_load ho ?_)
           rw[hc,hd];show aW M A (if (["enumerate","zip","dict_itemiterator","dict_reverseitemiterator","odict_iterator","itertools.zip_longest","itertools.pairwise"].contains n&&vs[0]?==aa (jP _))=af then _ else _) Q E s
           rw[if_neg (by intro h;rw[hn,Bool.false_and] at h;cases h)]
           exact aZ hQ))
def FD (K:aM)(a:aD):It:=
 ⟨λi H=>∃ xs x,SqL K H a xs/\xs[i]?=aa x,λi H x H'=>H'=H/\∀ xs,SqL K H a xs->xs[i]?=aa x,λi H=>∃ xs,SqL K H a xs/\xs.length<=i⟩
def FB (K:aM)(a:aD):It:=
 ⟨λi H=>∃ xs x,SqT K H a xs/\xs[i]?=aa x,λi H x H'=>H'=H/\∀ xs,SqT K H a xs->xs[i]?=aa x,λi H=>∃ xs,SqT K H a xs/\xs.length<=i⟩
def AD (lo:Int)(n:Nat):It:=⟨λi _=>i<n,λi H x H'=>H'=H/\x=.int (lo+i),λi _=>n<=i⟩
theorem Rk {P:bP}{w:bE}(a it:aD):Turn P w K tg (FD K a) [it] it (λi h=>h.IsListIter it a i) where
 mem:=by simp
 obj:=λi h st b hb=>by
  have e:b=it:=by simpa using hb
  subst e;obtain⟨o,e,c,d⟩:=st
  grind
 keep:=λi h h' st k=>st.at λo e=>k it (by simp) o e
 item:=by
  rw[2];obtain⟨xs,x,hq,hx⟩:=hg;obtain⟨its,rv,p,hz⟩:=I.list hq;obtain⟨u,hu,ru⟩:=rv.get hx;obtain⟨f0,f1,f2,f3,f4,f5⟩:=hf it (by simp)
  refine wpAny_pyNext_list_item st p.isList (x:=u) (by simpa using hu) λh' gg sb=>?_
  have I1:Inv X ad Z H { s with heap:=h' }:=I.turned (t':=s.toks) (λb o hb e=>(sb.2 b hb).trans e) f0 f1 f3 f4 f5
  obtain⟨o,e,c,d⟩:=id gg;exact⟨u,rfl,yW (s:={ s with heap:=h' }) e c d nofun ⟨x,H,I1,ru,⟨rfl,λys hy=>by rw[I.list_inj hy hq];exact hx⟩,gg,λb hb=>(hf b hb).1⟩⟩
 done:=by
  rw[2];obtain⟨xs,hq,hx⟩:=hg;obtain⟨its,rv,p,hz⟩:=I.list hq;obtain⟨f0,f1,f2,f3,f4,f5⟩:=hf it (by simp)
  have hl:=rv.length;exact wpAny_pyNext_list_end (I.ok.hd hc) st p.isList (by simp;lia) λh' eb=>⟨rfl,I.turned (t':=s.toks) (λb o hb e=>eb b o hb e) f0 f1 f3 f4 f5⟩
 self:=λ_ _ _ _ _ st h=>wpAny_pyIter_listiter st h
theorem Sn {P:bP}{w:bE}(a it:aD):Turn P w K tg (FB K a) [it] it (λi h=>h.IsTupleIter it a i) where
 mem:=by simp
 obj:=λi h st b hb=>by
  have e:b=it:=by simpa using hb
  subst e;obtain⟨o,e,c,d⟩:=st
  grind
 keep:=λi h h' st k=>st.at λo e=>k it (by simp) o e
 item:=by
  rw[2];obtain⟨xs,x,hq,hx⟩:=hg;obtain⟨its,rv,p,hz⟩:=I.tuple hq;obtain⟨u,hu,ru⟩:=rv.get hx;obtain⟨f0,f1,f2,f3,f4,f5⟩:=hf it (by simp)
  refine wpAny_pyNext_tuple_item st (show s.heap.IsTuple a its.toArray from p) (x:=u) (by simpa using hu) λh' gg sb=>?_
  have I1:Inv X ad Z H { s with heap:=h' }:=I.turned (t':=s.toks) (λb o hb e=>(sb.2 b hb).trans e) f0 f1 f3 f4 f5
  obtain⟨o,e,c,d⟩:=id gg;exact⟨u,rfl,yW (s:={ s with heap:=h' }) e c d nofun ⟨x,H,I1,ru,⟨rfl,λys hy=>by rw[I.tuple_inj hy hq];exact hx⟩,gg,λb hb=>(hf b hb).1⟩⟩
 done:=by
  rw[2];obtain⟨xs,hq,hx⟩:=hg;obtain⟨its,rv,p,hz⟩:=I.tuple hq;obtain⟨f0,f1,f2,f3,f4,f5⟩:=hf it (by simp)
  have hl:=rv.length;exact wpAny_pyNext_tuple_end (I.ok.hd hc) st (show s.heap.IsTuple a its.toArray from p) (by simp;lia) λh' eb=>⟨rfl,I.turned (t':=s.toks) (λb o hb e=>eb b o hb e) f0 f1 f3 f4 f5⟩
 self:=λ_ _ _ _ _ st h=>wpAny_pyIter_tupleiter st h
theorem Sh {P:bP}{w:bE}(it:aD)(lo:Int)(n:Nat):Turn P w K tg (AD lo n) [it] it (λi h=>IsRangeIter h it (lo+(i:Nat)*1) ((n:Int)-(i:Nat)) 1) where
 mem:=by simp
 obj:=λi h st b hb=>by
  grind
 keep:=λi h h' st k=>k it (by simp) _ st
 item:=by
  rw[2];obtain⟨f0,f1,f2,f3,f4,f5⟩:=hf it (by simp)
  have W:=Walks.range (prog:=X.prog) (w:=X.w) (I.ok.hd hc) it lo 1 n;refine W.item i s _ _ hg st λv h' tk hv gg kk=>?_
  obtain⟨t,rfl⟩:=hv;have I1:Inv X ad Z H { s with heap:=h',toks:=tk }:=I.turned (λb o hb e=>kk b o (by simpa using hb) e) f0 f1 f3 f4 f5
  refine⟨_,rfl,yW (s:={ s with heap:=h',toks:=tk }) (n:="range_iterator") gg rfl rfl nofun ⟨.int (lo+i),H,I1,⟨t,?_⟩,⟨rfl,rfl⟩,gg,λb hb=>(hf b hb).1⟩⟩
  rw[Int.mul_one]
 done:=by
  rw[2];obtain⟨f0,f1,f2,f3,f4,f5⟩:=hf it (by simp)
  exact wpAny_pyNext_range_end (I.ok.hd hc) st (by have:n<=i:=hg;lia) λh' eb=>⟨rfl,I.turned (t':=s.toks) (λb o hb e=>eb b o hb e) f0 f1 f3 f4 f5⟩
 self:=λ_ _ _ _ _ st h=>wpAny_pyIter_rangeiter st h
section
variable {X:Cx}
def Ie (K:aM)(tl:TE):TI:=λZ H R=>tl Z H λx H1=>∃ a,x=.ref a/\(∃ xs,SqL K H1 a xs)/\R (FD K a) H1
def Gg (K:aM)(tl:TE):TI:=λZ H R=>tl Z H λx H1=>∃ a,x=.ref a/\(∃ xs,SqT K H1 a xs)/\R (FB K a) H1
theorem Nk {l:aR}{tl:TE}(hl:PE X l tl):PI X tg l (Ie X.K tl):=by
 intro ad s Z H R I h;refine bf (hl ad s Z H _ I h) λv s1 gh=>?_
 obtain⟨x,H1,I1,r1,q1⟩:=gh;obtain⟨a,e,⟨xs,hq⟩,q⟩:=q1;subst e;cases r1;obtain⟨its,rv,p,hz⟩:=I1.list hq;refine zF p.isList ?_;refine⟨s1.heap.objs.size,[s1.heap.objs.size],_,_,H1,rfl,I1.kept (t':=s1.toks) λb o e=>cD _ e,Rk a _,⟨_,dM _ rfl,rfl,rfl⟩,λb hb=>?_,q⟩
 have e:b=s1.heap.objs.size:=by simpa using hb
 subst e;exact I1.fpOk (bI _) (I1.hok.fresh (bI _))
theorem Kh {l:aR}{tl:TE}(hl:PE X l tl):PI X tg l (Gg X.K tl):=by
 intro ad s Z H R I h;refine bf (hl ad s Z H _ I h) λv s1 gh=>?_
 obtain⟨x,H1,I1,r1,q1⟩:=gh;obtain⟨a,e,⟨xs,hq⟩,q⟩:=q1;subst e;cases r1;obtain⟨its,rv,p,hz⟩:=I1.tuple hq;refine wpAny_pyIter_tuple (show s1.heap.IsTuple a its.toArray from p) ?_
 refine⟨s1.heap.objs.size,[s1.heap.objs.size],_,_,H1,rfl,I1.kept (t':=s1.toks) λb o e=>cD _ e,Sn a _,⟨_,dM _ rfl,rfl,rfl⟩,λb hb=>?_,q⟩
 have e:b=s1.heap.objs.size:=by simpa using hb
 subst e;exact I1.fpOk (bI _) (I1.hok.fresh (bI _))
theorem Wt{Z:St}{H:Hp}{R:It->Hp->Prop}{lo hi:Int}{t u v:Tok}{tk:Nat}(I:Inv X ad Z H s)(h1 : -(2^62)<=lo)(h2:lo<2^62)(h3 : -(2^62)<=hi)(h4:hi<2^62)
  (q:R (AD lo (hi-lo).toNat) H):aW (aY X.prog X.w) X.A (tQ (.ref s.heap.objs.size)) (xj X ad Z tg R) E { s with heap:=s.heap.push { cls:=.type "range",data:=.fields #[.int lo t,.int hi u,.int 1 v] },toks:=tk }:=by
 refine wpAny_pyIter_range (IsRange.new ..) (small_one h1 h2 h3 h4) ?_;have I1:Inv X ad Z H { s with heap:=s.heap.push { cls:=.type "range",data:=.fields #[.int lo t,.int hi u,.int 1 v] },toks:=tk }:=I.kept λb o e=>cD _ e
 refine⟨(s.heap.push { cls:=.type "range",data:=.fields #[.int lo t,.int hi u,.int 1 v] }).objs.size,[(s.heap.push { cls:=.type "range",data:=.fields #[.int lo t,.int hi u,.int 1 v] }).objs.size],_,_,H,rfl,
  I1.kept (t':=tk) λb o e=>cD _ e,Sh _ lo (hi-lo).toNat,?_,λb hb=>?_,q⟩
 .have e1:lo+((0:Nat):Int)*1=lo:=by simp
  have e2:(((hi-lo).toNat:Nat):Int)-((0:Nat):Int)=Builtin.Range.rangeSize lo hi 1:=by rw[rangeSize_one];split<;>lia
  show IsRangeIter _ _ (lo+((0:Nat):Int)*1) ((((hi-lo).toNat:Nat):Int)-((0:Nat):Int)) 1;rw[e1,e2];exact dM _ rfl
 .have e:b=(s.heap.push { cls:=.type "range",data:=.fields #[.int lo t,.int hi u,.int 1 v] }).objs.size:=by simpa using hb
  subst e;exact I1.fpOk (bI _) (I1.hok.fresh (bI _))
def Hb (ta:TA):TI:=λZ H R=>ta Z H λvs H1=>∃ j:Int,vs=[.int j] /\ -(2^62)<=j/\j<2^62/\R (AD 0 j.toNat) H1
theorem Zr {a:aR}{ta:TA}(hg:Gl X "range")(hm:X.mg "range" = ab)(ha:PA X [a] ta)(hs:cA [a] X.env=[(ag,bW a X.env)]:=by rfl):PI X tg (.Call (.Name "range" p) [a] [] pos) (Hb ta):=by
 intro ad s Z H R I h;refine Call_ (wW I hg hm boot_range (Dx (bf (ha pos ad s Z H _ I h) λus s1 ⟨vs,H1,I1,r1,q1⟩=>?_) hs rfl))
 obtain⟨j,e,q1,q2,q⟩:=q1;subst e;cases r1 with
 |cons r rr=>
  cases rr;obtain⟨t,rfl⟩:=r;exact call_range_1 (Wt I1 () () q1 q2 (by simpa using q))
def Fw (wi:TI)(g:TG)(tb:TS):TS:=λD Z H=>wi Z H λJ H1=>∃ W:Nat->Nat->St->Hp->Prop,(∃ m,W 0 m Z H1)/\∀ i m Z H,W i m Z H ->
 (J.stop i H/\D.nx Z H)\/(J.go i H/\∃ N:St->Hp->Prop,(∀ Z' H',N Z' H'->∃ m',m'<m/\W (i+1) m' Z' H')/\∀ x H',J.yld i H x H'->g x Z H' λZ2 H2=>tb { D with nx:=N,ct:=N,bk:=D.nx } Z2 H2)
def xB (fp:List aD)(h:aU):List (aD×bK):=fp.filterMap λb=>(h.get? b).map λo=>(b,o)
theorem CK(hb:b∈fp)(e:h.get? b=aa o):(b,o)∈xB fp h:=rF.2 ⟨b,hb,by rw[e];rfl⟩
theorem Yp{p:aD×bK}(hp:p∈xB fp h):p.1∈fp/\h.get? p.1=aa p.2:=by
 obtain⟨b,hb,e⟩:=rF.1 hp;cases q:h.get? b with
 |none=>rw[q] at e;cases e
 |some o=>
  grind
theorem Inv.pinned{Z:St}{H:Hp}(I:Inv X ad Z H s)(hf:∀ b∈fp,iX X ad H b)(ho:∀ b∈fp,∃ o,s.heap.get? b=aa o/\∀ v,o.data ≠ .cell v):Inv X (ad++xB fp s.heap) Z H s:=
 I.pins_of λp hp=>(dH.1 hp).elim (λz=>I.pin p (mU _ z)) λz=>by
  obtain⟨hb,e⟩:=Yp z;obtain⟨f0,f1,f2,_⟩:=hf p.1 hb
  grind
theorem Inv.unpinned {pl:List (aD×bK)}{Z:St}{H:Hp}(I:Inv X (ad++pl) Z H s):Inv X ad Z H s:=I.pins_of λp hp=>I.pin p (mU _ (NF _ hp))
theorem Lk {bg:aR}{wi:TI}{g:TG}{tb:TS}(hp:zO (aY X.prog X.w) X.A X.env X.xe)(hc:X.calm=af)(hi:PI X tg bg wi)(hg:PG X tg g)(hb:PSs X body tb)
  (hs:∀ x,rC bg X.env x=pure x:=by intro _;rfl):PS X (.For tg bg body [] pos) (Fw wi g tb):=by
 intro ad s Z H D I h;refine wpAny_For (bf (hi ad s Z H _ I h) λv s1 h1=>bf h1 λuh s2 h2=>?_) hs
 obtain⟨it,fp,tn,J,H2,e,I2,T,j1,f2,W,⟨m0,w0⟩,turn⟩:=h2;subst e;have ia:∀ {H':Hp},(∀ b∈fp,H' b=ab)->∀ b∈fp,iX X ad H' b:=λhn b hb=>⟨hn b hb,(f2 b hb).2⟩
 refine codeAny_forLoop_any (λn s'=>∃ i Z' H',Inv X ad Z' H' s'/\tn i s'.heap/\(∀ b∈fp,H' b=ab)/\W i n Z' H') ?_ m0 ⟨0,Z,H2,I2,j1,λb hb=>(f2 b hb).1,w0⟩
 rintro n s3 ⟨i,Z3,H3,I3,qt,qu,w3⟩;rcases turn i n Z3 H3 w3 with⟨stop,qn⟩|⟨go,N,hN,step⟩
 .refine vN hp (bf (T.done X rfl rfl rfl hc i ad s3 Z3 H3 X.xe I3 (ia qu) qt stop) λr s4 gh=>?_)
  obtain⟨hr,I4⟩:=gh;subst hr;exact MG ⟨Z3,H3,I4,qn⟩
 .refine vN hp (bf (T.item X rfl rfl rfl hc i ad s3 Z3 H3 X.xe I3 (ia qu) qt go) λr s4 gh=>?_)
  obtain⟨u,hr,h4⟩:=gh;subst hr;refine vN hp (bf h4 λ_ s5 gh=>?_)
  obtain⟨x,H5,I5,r5,y5,n8,vi⟩:=gh;have vj:=I5.pinned (ia vi) (T.obj _ _ n8);refine vN hp (bf (hg _ s5 Z3 H5 x u _ vj r5 (step x H5 y5)) λ_ s6 gh=>?_)
  obtain⟨Z6,H6,I6,q6⟩:=gh;refine vN hp (bf (hb _ s6 Z6 H6 _ I6 q6) λf s7 q7=>?_)
  have again:∀ {Z7:St} {H7:Hp},Inv X (ad++xB fp s5.heap) Z7 H7 s7->N Z7 H7->∃ m,m<n/\∃ i Z' H',Inv X ad Z' H' s7/\tn i s7.heap/\(∀ b∈fp,H' b=ab)/\W i m Z' H':=λ{Z7 H7} I7 n7=>by
   obtain⟨m',hm,w7⟩:=hN Z7 H7 n7;refine⟨m',hm,i+1,Z7,H7,I7.unpinned,T.keep _ _ _ n8 λb hb o e=>(I7.pin (b,o) (mU _ (mU _ (CK hb e)))).1,λb hb=>?_,w7⟩
   obtain⟨o,e,d⟩:=T.obj _ _ n8 b hb;exact(I7.pin (b,o) (mU _ (mU _ (CK hb e)))).2.1
  cases f with
  |next=>obtain⟨Z7,H7,I7,n7⟩:=q7;exact again I7 n7
  |cont=>obtain⟨Z7,H7,I7,n7⟩:=q7;exact again I7 n7
  |brk=>obtain⟨Z7,H7,I7,q7⟩:=q7;exact⟨Z7,H7,I7.unpinned,q7⟩
  |ret v=>obtain⟨x7,Z7,H7,I7,r7,q7⟩:=q7;exact⟨x7,Z7,H7,I7.unpinned,r7,q7⟩
end
abbrev R2:=V->V->Hp->VK->Prop
def OpR (X:Cx)(f:aF->aF->Sem aF)(r:R2):Prop:=
 ∀ (ad:List (aD×bK)) (s:aI) (Z:St) (H:Hp) (x y:V) (v u:aF) (Q:VK),Inv X ad Z H s->RelV x v->RelV y u->r x y H Q ->
  aW (aY X.prog X.w) X.A (f v u) (EP X ad Z Q) X.xe s
def Adc (X:Cx)(f:aF)(r:List V->Hp->VK->Prop):Prop:=
 ∀ (ad:List (aD×bK)) (s:aI) (Z:St) (H:Hp) (xs:List V) (us:List aF) (Q:VK),Inv X ad Z H s->Vals xs us->r xs H Q ->
  aW (aY X.prog X.w) X.A (call f us) (EP X ad Z Q) X.xe s
def qm (r:R2)(ta tb:TE):TE:=λZ H Q=>ta Z H λx H1=>tb Z H1 λy H2=>r x y H2 Q
def rI (C:Int->Int->Prop)(g:Int->Int->V):R2:=λx y H Q=>∃ i j,x=.int i/\y=.int j/\C i j/\Q (g i j) H
def k6 (g:Int->Int->V):R2:=λx y H Q=>∃ i j,x=.int i/\y=.int j/\Q (g i j) H
section
variable {X:Cx}{a b:aR}{ta tb tc:TE}
theorem FK (ha:PE X a ta)(hb:PE X b tb){Z:St}{H:Hp}{R:V->V->Hp->Prop}(I:Inv X ad Z H s)
  (h:ta Z H λx H1=>tb Z H1 λy H2=>R x y H2) {Q:aF->aI->Prop} {f:aF->aF->Sem aF}
  (hf:∀ v u s2 x y H2,Inv X ad Z H2 s2->RelV x v->RelV y u->R x y H2->aW (aY X.prog X.w) X.A (f v u) Q X.xe s2) :
  aW (aY X.prog X.w) X.A (bW a X.env) (λv s₁=>aW (aY X.prog X.w) X.A (bW b X.env) (λu s₂=>aW (aY X.prog X.w) X.A (f v u) Q X.xe s₂) X.xe s₁) X.xe s:=by
 refine bf (ha ad s Z H _ I h) λv s1 gh=>?_
 obtain⟨x,H1,I1,r1,q1⟩:=gh;refine bf (hb ad s1 Z H1 _ I1 q1) λu s2 gh=>?_
 obtain⟨y,H2,I2,r2,q2⟩:=gh;exact hf v u s2 x y H2 I2 r1 r2 q2
theorem Gq {op:Operator}{r:R2}(ho:OpR X (jQ op) r)(ha:PE X a ta)(hb:PE X b tb):PE X (.BinOp a op b pos) (qm r ta tb):=by
 rw[9];exact wpAny_BinOp (FK ha hb I h λv u s2 x y H2 I2 rx ry q=>ho ad s2 Z H2 x y v u Q I2 rx ry q)
theorem qj {f:aF->aF->Sem aF}{C:Int->Int->Prop}{g:Int->Int->Int}
  (rule:∀ (i j:Int) (t u:Tok) (s:aI) (Q:aF->aI->Prop) (E:aF->aI->Prop),C i j->Q (.int (g i j) s.toks) { s with toks:=s.toks+1 }->aW (aY X.prog X.w) X.A (f (.int i t) (.int j u)) Q E s) :
  OpR X f (rI C λi j=>.int (g i j)):=by
 rw[3];obtain⟨i,j,rfl,rfl,hc,q⟩:=h;obtain⟨t,rfl⟩:=rx;obtain⟨t',rfl⟩:=ry;exact rule i j t t' s _ _ hc ⟨.int (g i j),H,I.tok _,⟨_,rfl⟩,q⟩
theorem OK {f:aF->aF->Sem aF}{g:Int->Int->Int}
  (rule:∀ (i j:Int) (t u:Tok) (s:aI) (Q:aF->aI->Prop) (E:aF->aI->Prop),Q (.int (g i j) s.toks) { s with toks:=s.toks+1 }->aW (aY X.prog X.w) X.A (f (.int i t) (.int j u)) Q E s) :
  OpR X f (k6 λi j=>.int (g i j)):=by
 rw[3];obtain⟨i,j,rfl,rfl,q⟩:=h;obtain⟨t,rfl⟩:=rx;obtain⟨t',rfl⟩:=ry;exact rule i j t t' s _ _ ⟨.int (g i j),H,I.tok _,⟨_,rfl⟩,q⟩
theorem OJ {f:aF->aF->Sem aF}{g:Int->Int->Bool}
  (rule:∀ (i j:Int) (t u:Tok) (s:aI) (Q:aF->aI->Prop) (E:aF->aI->Prop),Q (.bool (g i j)) s->aW (aY X.prog X.w) X.A (f (.int i t) (.int j u)) Q E s) :
  OpR X f (k6 λi j=>.bl (g i j)):=by
 rw[3];obtain⟨i,j,rfl,rfl,q⟩:=h;obtain⟨t,rfl⟩:=rx;obtain⟨t',rfl⟩:=ry;exact rule i j t t' s _ _ ⟨.bl (g i j),H,I,rfl,q⟩
def Fu (i j:Int):Prop:=0<j/\j<1073741824
def Ga (i j:Int):Prop:=0<=j/\j<=1000000/\i.natAbs<2^64
def Biw (i j:Int):Prop:=(-(2^64)<i/\i<2^64)\/(-(2^64)<j/\j<2^64)
theorem Biw.ok {i j:Int}(h:Biw i j):IntMulOk i j:=by
 rcases h with⟨h1,h2⟩|⟨h1,h2⟩
 .exact .of_left (intBits_le_64 h1 h2)
 .exact .of_right (intBits_le_64 h1 h2)
theorem Bgj:OpR X (jQ .Add) (k6 λi j=>.int (i+j)):=OK λ_ _ _ _ _ _ _ q=>add_int q
theorem Ja:OpR X (jQ .Sub) (k6 λi j=>.int (i-j)):=OK λ_ _ _ _ _ _ _ q=>sub_int q
theorem Ir:OpR X (jQ .Mult) (rI Biw λi j=>.int (i*j)):=qj λ_ _ _ _ _ _ _ hc q=>mul_int q hc.ok
theorem Ve:OpR X (jQ .FloorDiv) (rI Fu λi j=>.int (i/j)):=qj λi j _ _ _ _ _ hc q=>by
 have h1:(0:Int)<j:=hc.1;have h2:j<1073741824:=hc.2;exact floordiv_int () (by rw[Int.fdiv_eq_ediv_of_nonneg i ()];exact q) (.inl (PyProof.noPylong_small ()))
theorem Ml:OpR X (jQ .Mod) (rI (λ_ j=>0<j) λi j=>.int (i%j)):=qj λi j _ _ _ _ _ hc q=>by
 have h1:(0:Int)<j:=hc;exact mod_int' () (by rw[Int.fmod_eq_emod_of_nonneg i ()];exact q)
theorem Jo:OpR X (jQ .Pow) (rI Ga λi j=>.int (i^j.toNat)):=qj λ_ _ _ _ _ _ _ hc q=>pow_int_small hc.1 hc.2.1 hc.2.2 q
end
section
variable {X:Cx}{a b:aR}{ta tb tc:TE}
theorem BA{Z:St}{H:Hp}{Q:VK}{k k':Bool}(I:Inv X ad Z H s)(q:Q (.bl k) H)(e:k=k'):EP X ad Z Q (.bool k') s:=by
 subst e;exact⟨.bl k,H,I,rfl,q⟩
theorem Bix:OpR X (iB .Lt) (k6 λi j=>.bl (decide (i<j))):=OJ λ_ _ _ _ _ _ _ q=>lt_int q
theorem DM:OpR X (iB .Gt) (k6 λi j=>.bl (decide (j<i))):=OJ λ_ _ _ _ _ _ _ q=>gt_int q
theorem Qx:OpR X (iB .Lt) (λx y H Q=>∃ i j,x=.str i/\y=.str j/\Q (.bl (decide (i.cps.toList<j.cps.toList))) H):=by
 rw[3];obtain⟨i,j,rfl,rfl,q⟩:=h;obtain⟨t,rfl⟩:=rx;obtain⟨t',rfl⟩:=ry;exact lt_str (BA I q rfl)
theorem Qv:OpR X (iB .In) (λx y H Q=>∃ i j,x=.str i/\y=.str j/\Q (.bl (!(NT j i 0 j.length 1).isEmpty)) H):=by
 rw[3];obtain⟨i,j,rfl,rfl,q⟩:=h;obtain⟨t,rfl⟩:=rx;obtain⟨t',rfl⟩:=ry;exact in_str (BA I q rfl)
theorem GR:OpR X (iB .Is) (λx y H Q=>y=.non/\Q (.bl (decide (x=.non))) H):=by
 rw[3];obtain⟨rfl,q⟩:=h;cases ry;refine is_none_gen (BA I q ?_);cases x<;>first
  |(cases rx;rfl)
  |(obtain⟨t,rfl⟩:=rx;rfl)
theorem De:OpR X (iB .IsNot) (λx y H Q=>y=.non/\Q (.bl (!decide (x=.non))) H):=by
 rw[3];obtain⟨rfl,q⟩:=h;cases ry;refine isnot_none_gen (BA I q ?_);cases x<;>first
  |(cases rx;rfl)
  |(obtain⟨t,rfl⟩:=rx;rfl)
theorem OpR.or {f:aF->aF->Sem aF}{r r':R2}(h:OpR X f r)(h':OpR X f r'):OpR X f (λx y H Q=>r x y H Q\/r' x y H Q):=by
 intro ad s Z H x y v u Q I rx ry q;rcases q with q|q
 .exact h ad s Z H x y v u Q I rx ry q
 .exact h' ad s Z H x y v u Q I rx ry q
theorem gW (b:aR)(h:op ≠ .In:=by decide)(h2:op ≠ .NotIn:=by decide):tR op b=ag:=by
 have e1:(op==CmpOp.In)=ag:=by cases op<;>first|rfl|exact absurd rfl h
 have e2:(op==CmpOp.NotIn)=ag:=by cases op<;>first|rfl|exact absurd rfl h2
 cases b<;>simp[tR,e1,e2]
theorem Pg{r:R2}(ho:OpR X (iB op) r)(ha:PE X a ta)(hb:PE X b tb)(hm:tR op b=ag):PE X (.Compare a [op] [b] pos) (qm r ta tb):=by
 rw[9];exact wpAny_Compare1 (FK ha hb I h λv u s2 x y H2 I2 rx ry q=>ho ad s2 Z H2 x y v u Q I2 rx ry q) hm
def Ic (t:TE):TT:=λZ H Q=>t Z H λx H'=>∃ k,x=.bl k/\Q k H'
theorem HR{r:R2}(ho:OpR X (iB op) r)(ha:PE X a ta)(hb:PE X b tb)(hm:tR op b=ag):PT X (.Compare a [op] [b] pos) (Ic (qm r ta tb)):=by
 rw[9];refine wpAny_isTrue_Compare1 (bf (ha ad s Z H _ I h) λv s1 ⟨x,H1,I1,r1,q1⟩=>bf (hb ad s1 Z H1 _ I1 q1) λu s2 ⟨y,H2,I2,r2,q2⟩=>
  bf (ho ad s2 Z H2 x y v u _ I2 r1 r2 q2) λc s3 ⟨z,H3,I3,r3,k,e,q3⟩=>?_) hm
 subst e;cases r3;exact yX ⟨H3,I3,q3⟩
theorem qK:(sizeLine:Nat)<2^63:=by rw[zG];decide
theorem Aw9:OpR X (jQ .Add) (λx y H Q=>∃ i j,x=.str i/\y=.str j/\i.length+j.length<=sizeLine/\Q (.str (i++j)) H):=by
 rw[3];obtain⟨i,j,rfl,rfl,hz,q⟩:=h;obtain⟨t,rfl⟩:=rx;obtain⟨t',rfl⟩:=ry;exact add_str (λt' tk=>⟨.str (i++j),H,I.tok _,⟨_,rfl⟩,q⟩) hz
theorem vals1 {x:V}(r:Vals [x] us):∃ u,us=[u]/\RelV x u:=by
 cases r with
 |cons r1 r2=>cases r2;exact⟨_,rfl,r1⟩
theorem vals2 {x y:V}(r:Vals [x,y] us):∃ u w',us=[u,w']/\RelV x u/\RelV y w':=by
 cases r with
 |cons r1 r2=>
  cases r2 with
  |cons r3 r4=>cases r4;exact⟨_,_,rfl,r1,r3⟩
theorem JU (hc:X.calm=af):Adc X (.builtin "max") (λxs H Q=>∃ i j,xs=[.int i,.int j]/\Q (.int (if j > i then j else i)) H):=by
 rw[5];obtain⟨i,j,rfl,q⟩:=h;obtain⟨u,w',rfl,⟨t,rfl⟩,⟨t',rfl⟩⟩:=vals2 r;refine max_two_ints (I.ok.hd hc) λh' tk k=>⟨_,H,I.kept k,?_,q⟩
 by_cases hj:j > i
 .rw[if_pos hj,if_pos hj];exact⟨_,rfl⟩
 .rw[if_neg hj,if_neg hj];exact⟨_,rfl⟩
theorem Zt (hc:X.calm=af):Adc X (.builtin "min") (λxs H Q=>∃ i j,xs=[.int i,.int j]/\Q (.int (if j<i then j else i)) H):=by
 rw[5];obtain⟨i,j,rfl,q⟩:=h;obtain⟨u,w',rfl,⟨t,rfl⟩,⟨t',rfl⟩⟩:=vals2 r;refine min_two_ints (I.ok.hd hc) λh' tk k=>⟨_,H,I.kept k,?_,q⟩
 by_cases hj:j<i
 .rw[if_pos hj,if_pos hj];exact⟨_,rfl⟩
 .rw[if_neg hj,if_neg hj];exact⟨_,rfl⟩
theorem Yz:Adc X (.type "int") (λxs H Q=>(∃ i,xs=[.int i]/\Q (.int i) H)\/∃ k,xs=[.bl k]/\Q (.int (if k then 1 else 0)) H):=by
 rw[5];rcases h with⟨i,rfl,q⟩|⟨k,rfl,q⟩
 .obtain⟨u,rfl,t,rfl⟩:=vals1 r;exact call_int_int ⟨.int i,H,I,⟨_,rfl⟩,q⟩
 .obtain⟨u,rfl,r1⟩:=vals1 r;cases r1;exact call_int_bool ⟨.int (if k then 1 else 0),H,I.tok _,⟨_,rfl⟩,q⟩
end
structure ObjM (h:aU)(x dx C:aD)(mA:aE->Option aF):Prop where
 obj:h.get? x=aa (Dr C dx)
 ns:h.Ns1 dx mA
 ne:dx≠x
theorem Zc{mA:aE->Option aF}(n:h.Ns1 dx mA):∃ od,h.get? dx=aa od/\∀ name,Dn name od=aa (mA name):=by
 obtain⟨o,es,ep,ho,hd,hk,_,hm⟩:=n;refine⟨o,ho,λname=>?_⟩
 have e:=hm name;unfold nsFind findBy at e;rw[<-Array.find?_toList] at e;unfold Dn;rw[hd];dsimp only;split
 .rename_i y q;rw[q] at e;exact congrArg aa e
 .rename_i q;rw[q] at e;have a:es.toList.any (·.refKey)=ag:=by
   rw[EO];intro y hy;obtain⟨z,t,ib⟩:=hk y (Array.mem_toList_iff.1 hy);simp[DictEntry.refKey,ib]
  grind
theorem ObjM.look{x:aD}{mA:aE->Option aF}(I:ObjM h x dx C mA):∃ od,PySem.W.InstAt h x (Dr C dx) C (aa od)/\∀ name,Dn name od=aa (mA name):=
 let ⟨od,ho,hl⟩:=Zc I.ns
 ⟨od,⟨I.obj,rfl,rfl,ho⟩,hl⟩
theorem Ath.some_of {v:V}{o:Option aF}(r:Ath (aa v) o):∃ u,o=aa u/\RelV v u:=by
 cases o with
 |none=>exact(show False from r).elim
 |some u=>exact⟨u,rfl,r⟩
theorem Ath.none_of {o:Option aF}(r:Ath ab o):o=ab:=by
 cases o with
 |none=>rfl
 |some u=>exact(show False from r).elim
section
variable {P:bP}{w:bE}{H H':Hp}{fs vd:List (aE×V)}
theorem Qc (hok:HOk P w H h)(e:H a=aa (.ins C dx fs)):∃ mA,ObjM h a dx C mA/\(∀ f,Ath (fs.lookup f) (mA f))/\PySem.Within mA (fs.map (·.1))/\fs.length<=1000/\H dx=aa (.own a):=by
 obtain⟨d,z,ne,ob,mA,n,r,q⟩:=(show Acz P w H h a (.ins C dx fs) from hok a _ e)
 exact⟨mA,⟨ob,n,ne⟩,r,q,z,d⟩
end
structure Cls (K:aM)(C:aD):Prop where
 pg:PySem.W.plainGet K C Str.empty=af
 hd:PySem.W.hasDictIn K C=af
 po:PySem.W.plainOver K C=af
 sa:PySem.W.findIn K (.ref C) "__setattr__" = aa (aa (.builtin "object.__setattr__"))
theorem Cls.get(c:Cls K C)(f:aE):PySem.W.plainGet K C f=af:=c.pg
section
variable {X:Cx}{Z:St}{H:Hp}{c:aF}{b:Bool}
inductive TyOf (K:aM)(H:Hp):V->aF->Prop where
 |non:TyOf K H .non (.type "NoneType")
 |bl (x:Bool):TyOf K H (.bl x) (.type "bool")
 |int (i:Int):TyOf K H (.int i) (.type "int")
 |str (x:aE):TyOf K H (.str x) (.type "str")
 |flt (x:UInt64):TyOf K H (.flt x) (.type "float")
 |lst {a:aD} {xs:List V} (e:H a=aa (.lst xs)):TyOf K H (.ref a) (.type "list")
 |frz {a:aD} {o:bK} {xs:List V} (e:H a=aa (.frz o (.lst xs))):TyOf K H (.ref a) (.type "list")
 |tup {a:aD} {xs:List V} (e:H a=aa (.tup xs)):TyOf K H (.ref a) (.type "tuple")
 |dK {a:aD} {ep:Nat} {kvs:List (aH×V)} (e:H a=aa (.dK ep kvs)):TyOf K H (.ref a) (.type "dict")
 |dT {a:aD} {ep:Nat} {kvs:List (List aA×V)} (e:H a=aa (.dT ep kvs)):TyOf K H (.ref a) (.type "dict")
 |ins {a C dx:aD} {fs:List (aE×V)} (e:H a=aa (.ins C dx fs)) (cl:Cls K C) (ha:PySem.W.findIn K (.ref C) "__class__" = aa (aa (.builtin "object.__class__")))
   (hn:PySem.W.specialIn K (.builtin "object.__class__") "__get__" = aa (aa (.builtin "getset_descriptor.__get__"))) (ui:PySem.W.takesIn K (.builtin "object.__class__")=aa af)
   (hm:PySem.W.mroIn K C (.type "object")=aa af):TyOf K H (.ref a) (.ref C)
theorem Qo {x:V}{t:aF}(I:Inv X ad Z H s)(rx:RelV x u)(ty:TyOf X.K H x t)(e:Dq X.K t c=aa b)(h:∀ tk,Q (.bool b) { s with toks:=tk }) :
  aW (aY X.prog X.w) A (call (.builtin "isinstance") [u,c]) Q E s:=by
 cases ty with
 |non=>cases(show u=fT from rx);exact lW PySem.W.kitx_none I.kIn oP e (λz=>nomatch z) h
 |bl y=>cases(show u=Value.bool y from rx);exact lW PySem.W.kitx_bool I.kIn oP e (λz=>nomatch z) h
 |int i=>obtain⟨t,q⟩:=(show ∃ t,u=tU i t from rx);cases q;exact lW PySem.W.kitx_int I.kIn oP e (λz=>nomatch z) h
 |str y=>obtain⟨t,q⟩:=(show ∃ t,u=tT y t from rx);cases q;exact lW PySem.W.kitx_str I.kIn oP e (λz=>nomatch z) h
 |flt y=>obtain⟨t,q⟩:=(show ∃ t,u=Value.float y t from rx);cases q;exact lW PySem.W.kitx_float I.kIn oP e (λz=>nomatch z) h
 |@lst a xs ea=>
  cases(show u=fR a from rx)
  obtain⟨_,_,n,_,h1⟩:=(show Acz X.prog X.w H s.heap a (.lst xs) from I.hok a _ ea)
  exact lW Do I.kIn ⟨_,h1,rfl⟩ e (λz=>nomatch z) h
 |@frz a ob xs ea=>
  cases(show u=fR a from rx)
  obtain⟨_,_,_,n,_,h1⟩:=(show Acz X.prog X.w H s.heap a (.frz ob (.lst xs)) from I.hok a _ ea)
  exact lW Do I.kIn ⟨_,h1,rfl⟩ e (λz=>nomatch z) h
 |@tup a xs ea=>
  cases(show u=fR a from rx)
  obtain⟨_,_,_,p⟩:=(show Acz X.prog X.w H s.heap a (.tup xs) from I.hok a _ ea)
  obtain⟨o,h1,h2,_⟩:=p.1;exact lW PySem.W.kitx_tuple I.kIn ⟨o,h1,h2⟩ e (λz=>nomatch z) h
 |@dK a ep kvs ea=>
  cases(show u=fR a from rx)
  obtain⟨_,_,vs,_,p⟩:=(show Acz X.prog X.w H s.heap a (.dK ep kvs) from I.hok a _ ea)
  obtain⟨o,es,h1,h2,_⟩:=p;exact lW Dp I.kIn ⟨o,h1,h2.1⟩ e (λz=>nomatch z) h
 |@dT a ep kvs ea=>
  cases(show u=fR a from rx)
  obtain⟨_,_,xs,_,o,es,h1,h2,_⟩:=(show Acz X.prog X.w H s.heap a (.dT ep kvs) from I.hok a _ ea)
  exact lW Dp I.kIn ⟨o,h1,h2.1⟩ e (λz=>nomatch z) h
 |@ins a C dx fs ea cl ha hn ui hm=>
  cases(show u=fR a from rx)
  obtain⟨mA,O,_⟩:=Qc I.hok ea;obtain⟨od,J,_⟩:=O.look;exact lW (PySem.W.kitx_own (cl.get _) cl.hd ha hn ui hm) I.kIn J e (λz=>nomatch z) h
end
structure Room (k:Nat)(A:cE):Prop where
 hd:A.handled=ab
 dp:A.depth+3*k+5<recursionLimit
 un:A.units+16*k+200<cLine
theorem Room.mono {k:Nat}(r:Room k A)(h:j<=k):Room j A:=⟨r.hd,by have:=r.dp;lia,by have:=r.un;lia⟩
theorem Room.deeper {k:Nat}(r:Room (k+1) A)(env:dP):Room k (A.deeper env):=
 ⟨r.hd,by have:=r.dp;show A.depth+1+3*k+5<_;lia,by have:=r.un;show A.units+3+16*k+200<_;lia⟩
theorem Room.in1 {k:Nat}(r:Room (k+1) A):Room k A.in1:=
 ⟨r.hd,by have:=r.dp;show A.depth+3*k+5<_;lia,by have:=r.un;show A.units+1+16*k+200<_;lia⟩
theorem Room.depth {k:Nat}(r:Room k A):A.depth<recursionLimit:=by have:=r.dp;lia
theorem Room.units {k:Nat}(r:Room k A):A.units+64<cLine:=by have:=r.un;lia
abbrev OB:TA:=λ_ H Q=>Q [] H
abbrev GD (ta:TE)(tr:TA):TA:=λZ H Q=>ta Z H λx H1=>tr Z H1 λxs H2=>Q (x::xs) H2
section
variable {X:Cx}{te:TE}{t:TA}
theorem iH:PA X [] OB:=λ_ _ _ _ H Q I h=>Calls.spliced_nil ⟨[],H,I,.nil,h⟩
theorem eZ (ha:PE X e te)(hr:PA X es t)(hs:cA (e::es) X.env=(ag,bW e X.env)::cA es X.env:=by rfl):PA X (e::es) (GD te t):=by
 intro pos ad s Z H Q I h;rw[hs];show aW _ _ (spliced ((ag,bW e X.env)::iQ pos (cA es X.env))) _ _ s;refine Et (bf (ha ad s Z H _ I h) λu s1 gh=>?_)
 obtain⟨x,H1,I1,r1,q1⟩:=gh;exact bf (hr pos ad s1 Z H1 _ I1 q1) λus s2 ⟨xs,H2,I2,r2,q2⟩=>⟨x::xs,H2,I2,.cons r1 r2,q2⟩
def Fq (t:TA):TE:=λZ H Q=>t Z H λxs H1=>xs.length<=sizeLine/\∀ p,H1 p=ab->Q (.ref p) (upd H1 p (.tup xs))
def Fj (t:TA):TE:=λZ H Q=>t Z H λxs H1=>xs.length<=sizeLine/\∀ p,H1 p=ab->Q (.ref p) (upd H1 p (.lst xs))
theorem Bd {x1}(h:PA X es t):PE X (.Tuple es x1 pos) (Fq t):=by
 intro ad s Z H Q I hq;refine wpAny_Tuple_spliced (bf (h pos ad s Z H _ I hq) λus s1 ⟨xs,H1,I1,r,z,q⟩=>⟨by rw[<-r.length];exact z,?_⟩)
 have hf:H1 s1.heap.objs.size=ab:=I1.hok.fresh (bI _);refine⟨.ref s1.heap.objs.size,upd H1 s1.heap.objs.size (.tup xs),I1.laid (t':=s1.toks) (λb u e=>cD _ e) (bI _) ?_,rfl,q _ hf⟩
 exact⟨z,us,r,⟨_,dM _ rfl,rfl,_,rfl⟩,_,dM _ rfl,rfl⟩
theorem Ji (h:PA X es t):PE X (.List es pos) (Fj t):=by
 intro ad s Z H Q I hq;refine wpAny_List_spliced (bf (h pos ad s Z H _ I hq) λus s1 ⟨xs,H1,I1,r,z,q⟩=>⟨by rw[<-r.length];exact z,?_⟩)
 have hf:H1 s1.heap.objs.size=ab:=I1.hok.fresh (bI _);refine⟨.ref s1.heap.objs.size,upd H1 s1.heap.objs.size (.lst xs),I1.laid (t':=s1.toks) (λb u e=>cD _ e) (bI _) ?_,rfl,q _ hf⟩
 exact⟨z,us,0,r,dM _ rfl⟩
end
abbrev Sp:=List V->Hp->VK->XK->Prop
abbrev jv:=List dP->Hp->aI->XK->aF->aI->Prop
structure Env0 (P:bP)(w:bE)(K:aM)(mg:aE->Option aF)(base:aU)(A:cE)(outer:List dP)(s:aI)(H:Hp):Prop where
 frames:A.frames=aa outer
 mod:Mod K mg base
 bs:∀ b o,base.get? b=aa o->s.heap.get? b=aa o/\H b=ab
 bsz:base.objs.size<=s.heap.objs.size
 funs:s.heap.FunFrames base outer
 frf:∀ b∈jx outer,H b=ab
 hok:HOk P w H s.heap
 bare:rN s.gens
def CE (outer:List dP)(P:bP)(w:bE)(H:Hp)(s:aI)(Q:VK)(u:aF)(s':aI):Prop:=
 ∃ v H',s'.os=s.os/\rN s'.gens/\Un (jx outer) [] H H' s.heap s'.heap/\HOk P w H' s'.heap/\RelV v u/\Q v H'
def CR (CX:jv)(outer:List dP)(P:bP)(w:bE)(H:Hp)(s:aI)(Q:VK)(E:XK)(r:Result)(s':aI):Prop:=
 match r with
 |.ok (.ret u)=>CE outer P w H s Q u s'
 |.ok _=>False
 |.error e=>CX outer H s E e s'
structure FnOk (P:bP)(w:bE)(K:aM)(mg:aE->Option aF)(base:aU)(CX:jv)(k:Nat)(f:aD)(fd:kI)(ps:List aE)(sp:Sp):Prop where
 len:∀ vs H Q E,sp vs H Q E->vs.length=ps.length
 run:∀ (A:cE) (outer:List dP) (s:aI) (H:Hp) (args:Args) (us:List aF) (vs:List V) (Q:VK) (E:XK),Room k A->Env0 P w K mg base A outer s H->BindsTo s fd args (ps.zip us)->Vals vs us->sp vs H Q E ->
  oK (aY P w) A (.call (.ref f) args) (CR CX outer P w H s Q E) s
theorem FnOk.mono {P:bP}{w:bE}{CX:jv}{k:Nat}{sp:Sp}(F:FnOk P w K mg base CX j f fd ps sp)(h:j<=k) :
  FnOk P w K mg base CX k f fd ps sp:=⟨F.len,λA outer s H args us vs Q E hr=>F.run A outer s H args us vs Q E (hr.mono h)⟩
theorem FnOk.imp {P:bP}{w:bE}{CX:jv}{k:Nat}{sp xy:Sp}(F:FnOk P w K mg base CX k f fd ps sp)
  (h:∀ vs H Q E,xy vs H Q E->sp vs H Q E):FnOk P w K mg base CX k f fd ps xy:=
 ⟨λvs H Q E q=>F.len vs H Q E (h _ _ _ _ q),λA outer s H args us vs Q E hr he hb hv hs=>F.run A outer s H args us vs Q E hr he hb hv (h _ _ _ _ hs)⟩
theorem Env0.in1 {P:bP}{w:bE}{outer:List dP}{H:Hp}(e:Env0 P w K mg base A outer s H) :
  Env0 P w K mg base A.in1 outer s H:=⟨e.frames,e.mod,e.bs,e.bsz,e.funs,e.frf,e.hok,e.bare⟩
section
variable {X:Cx}{Z:St}{H:Hp}
theorem Inv.env0 (I:Inv X ad Z H s):Env0 X.prog X.w X.K X.mg X.base X.A X.stack s H:=
 ⟨I.ok.frames,I.ok.mod,I.bs,cL I.ok.bsz I.sz,I.stack,I.stkFree,I.hok,I.bare⟩
theorem Inv.after {Q:VK}(I:Inv X ad Z H s)(h:CE X.stack X.prog X.w H s Q u s'):EP X ad Z Q u s':=by
 obtain⟨v,H',os,bare,un,hok,r,q⟩:=h;obtain⟨hh,g,d,t,vk⟩:=s';obtain rfl:vk=s.os:=os;exact⟨v,H',I.call (h':=hh) (g':=g) (d':=d) (t':=t) (ch:=[]) un hok bare (λb z=>absurd z (by simp)),r,q⟩
end
def OR (sp:Sp)(m5:List V)(E:XK)(t:TA):TE:=λZ H Q=>t Z H λvs H1=>sp (vs++m5) H1 Q E
def Binds (K:aM)(fd:kI)(ps:List aE)(ds:List aF):Prop:=
 ∀ (s:aI) (us:List aF),K.In s.heap->(us++ds).length=ps.length->BindsTo s fd ⟨us,[]⟩ (ps.zip (us++ds))
theorem Binds.all(h:∀ us:List aF,us.length=ps.length->bindArgs fd ⟨us,[]⟩=pure (ps.zip us)):Binds K fd ps []:=λs us _ hl=>by
 rw[lY] at hl ⊢;exact .of_eq (h us hl)
def Passes (CX:jv)(X:Cx)(E:XK):Prop:=∀ (ad:List (aD×bK)) (Z:St) (H:Hp) (s:aI) (e:aF) (s':aI),Inv X ad Z H s->CX X.stack H s E e s'->X.xe e s'
section
variable {X:Cx}{CX:jv}{k:Nat}{sp:Sp}{m5:List V}{ds:List aF}{E:XK}{m:aE}{aq:bL}{o:aR}{ta:TE}{t:TA}
theorem Jc{Z:St}{H:Hp}{Q:VK}{vs:List V}(F:FnOk X.prog X.w X.K X.mg X.base CX k f fd ps sp)(hr:Room k X.A)(hb:Binds X.K fd ps ds)(hd:Vals m5 ds)(hx:Passes CX X E)
  (I:Inv X ad Z H s) (r:Vals vs us) (h:sp (vs++m5) H Q E):aW (aY X.prog X.w) X.A (call (.ref f) us) (EP X ad Z Q) X.xe s:=by
 have r2:Vals (vs++m5) (us++ds):=r.append hd;have hl:(us++ds).length=ps.length:=by rw[<-r2.length];exact F.len _ _ _ _ h
 refine wpAny_call (codeAny_mono (F.run X.A X.stack s H ⟨us,[]⟩ (us++ds) (vs++m5) Q E hr I.env0 (hb s us I.kIn hl) r2 h) λr s' hq=>?_)
 cases r with
 |error e=>exact hx ad Z H s e s' I hq
 |ok fl=>
  cases fl with
  |ret u=>exact I.after hq
  |next=>exact mX hq
  |brk=>exact mX hq
  |cont=>exact mX hq
theorem Ny (F:FnOk X.prog X.w X.K X.mg X.base CX k f fd ps sp)(hr:Room k X.A)(hg:Gl X x)(hm:X.mg x=aa (.ref f))(hk:EA X.K (.ref f)=af)(hb:Binds X.K fd ps ds)(hd:Vals m5 ds)(hx:Passes CX X E)
  (ha:PA X (e::es) t) (ic:(x==("__debug__" : aE))=ag:=by decide) (he:cA (e::es) X.env=(ag,bW e X.env)::cA es X.env:=by rfl) (gs:(iQ pos (cA es X.env)).any (·.1)=ag:=by rfl) :
  PE X (.Call (.Name x p) (e::es) [] pos) (OR sp m5 E t):=by
 rw[9];refine Dk (Ca I hg hm ?_ ic);refine PySem.W.callWith_K (h₀:=X.base) I.ok.mod.kin hk (bf (ha pos ad s Z H _ I h) λus s1 ⟨vs,H1,I1,r,q⟩=>⟨I1.kIn,?_⟩) he gs
 exact Jc F hr hb hd hx I1 r q
end
structure FnScope (N P:List aE)(sc:fZ):Prop where
 kind:sc.kind=.function
 co:sc.isCoroutine=ag
 gen:sc.isGenerator=ag
 nd:N.Nodup
 pre:N.take P.length=P
 par:∀ x∈P,sc.names.lookup x=aa .local\/sc.names.lookup x=aa .cell
 nofree:∀ y∈sc.names,y.2 ≠ .free
theorem UG {kindOf:aE->Option iR}:∀ {binds:List (aE×aF)} {m:aE->Option aF},(∀ v,(x,v)∉binds)->bindL kindOf binds m x=m x
 |[],_,_=>rfl
 |(n,v)::r,m,h=>by
  unfold bindL;rw[UG λw hw=>h w (bN _ hw)]
  split
  all_goals grind
theorem UY {kindOf:aE->Option iR}:∀ {binds:List (aE×aF)} {m:aE->Option aF},(∀ v,(x,v)∉binds)->bindC kindOf binds m x=m x
 |[],_,_=>rfl
 |(n,v)::r,m,h=>by
  unfold bindC;rw[UY λw hw=>h w (bN _ hw)]
  split
  all_goals grind
theorem WK {kindOf:aE->Option iR}{x:aE}{v:aF}:∀ {P:List aE} {vs:List aF} {i:Nat} {m:aE->Option aF},P.Nodup->P[i]?=aa x->vs[i]?=aa v->kindOf x=aa .local ->
  bindL kindOf (P.zip vs) m x=aa v
 |[],_,_,_,_,h,_,_=>by simp at h
 |_::_,[],_,_,_,_,h,_=>by simp at h
 |p::P,w::vs,0,m,nd,h1,h2,hk=>by
  simp at h1 h2;subst h1;subst h2;show bindL kindOf ((p,w)::P.zip vs) m p=_;unfold bindL;rw[UG λv hv=>(iJ.1 nd).1 (wD hv).1,if_pos hk]
  simp
 |p::P,w::vs,i+1,m,nd,h1,h2,hk=>by
  show bindL kindOf ((p,w)::P.zip vs) m x=_;unfold bindL;exact WK (i:=i) (iJ.1 nd).2 (by simpa using h1) (by simpa using h2) hk
theorem WH {kindOf:aE->Option iR}{x:aE}{v:aF}:∀ {P:List aE} {vs:List aF} {i:Nat} {m:aE->Option aF},P.Nodup->P[i]?=aa x->vs[i]?=aa v->kindOf x≠aa .local ->
  bindC kindOf (P.zip vs) m x=aa v
 |[],_,_,_,_,h,_,_=>by simp at h
 |_::_,[],_,_,_,_,h,_=>by simp at h
 |p::P,w::vs,0,m,nd,h1,h2,hk=>by
  simp at h1 h2;subst h1;subst h2;show bindC kindOf ((p,w)::P.zip vs) m p=_;unfold bindC;rw[UY λv hv=>(iJ.1 nd).1 (wD hv).1,if_neg hk]
  simp
 |p::P,w::vs,i+1,m,nd,h1,h2,hk=>by
  show bindC kindOf ((p,w)::P.zip vs) m x=_;unfold bindC;exact WH (i:=i) (iJ.1 nd).2 (by simpa using h1) (by simpa using h2) hk
def start (N:List aE)(vs:List V):St:=vs.map aa++oU (N.length-vs.length) ab
def oB (CX:jv)(P:bP)(w:bE)(K:aM)(mg:aE->Option aF)(base:aU)(N:List aE)(qual:aE)(scope:fZ)(f:aD)(cd:aF)(A:cE)(outer:List dP)(s:aI)(H:Hp)(E:XK):Cx where
 prog:=P
 w:=w
 K:=K
 mg:=mg
 base:=base
 A:=A.deeper (envOfC qual scope s.heap.objs.size f cd)
 N:=N
 s₀:=s
 H₀:=H
 env:=envOfC qual scope s.heap.objs.size f cd
 outer:=outer
 stack:=envOfC qual scope s.heap.objs.size f cd::outer
 ex:=[]
 calm:=af
 fn:=λ_=>af
 pn:=[]
 xe:=λe s'=>aW (aY P w) (A.deeper (envOfC qual scope s.heap.objs.size f cd)) (leaving (envOfC qual scope s.heap.objs.size f cd) e) (λ_ n9=>CX outer H s E e n9) (λe' n9=>CX outer H s E e' n9) s'
theorem SD {sc:fZ}{n:Nat}(h:sc.names.lookup x=aa .cell):∃ c,(iC n sc.names []).lookup x=aa c:=by
 have q:=PySem.W.cellsFrom_some sc.names n [] (.inl h);exact vY.1 q
theorem Qk {CX:jv}{P:bP}{w:bE}{N:List aE}{qual:aE}{scope:fZ}{cd:aF}{outer:List dP}{s1:aI}{H:Hp}{E:XK}{vs:List V}
  (S:FnScope N ps scope) (hd:A.handled=ab) (e0:Env0 P w K mg base A outer s H) (hl:vs.length=ps.length) (r:Vals vs us)
  (x:InCallC s s.heap.objs.size (bindL (envOfC qual scope s.heap.objs.size f cd).kindOf (ps.zip us) λ_=>ab) (iC (s.heap.objs.size+1) scope.names []) (bindC (envOfC qual scope s.heap.objs.size f cd).kindOf (ps.zip us) λ_=>ab) s1) :
  Inv (oB CX P w K mg base N qual scope f cd A outer s H E) [] (start N vs) H s1:=by
 have gs:ps.length<=N.length:=by have:=congrArg List.length S.pre;rw[EK] at this;lia
 obtain⟨h1,tk,rfl,hk⟩:=x.done;have qv:∀ b:aD,b∉(oB CX P w K mg base N qual scope f cd A outer s H E).ex:=λb z=>absurd (show b∈([]:List aD) from z) (by simp)
 refine⟨⟨e0.mod,S.kind,rfl,rfl,bI _,λy z c h1 h2=>?_,λy hy=>?_,λy c _ h=>?_,λ_=>hd,Around.frames_deeper e0.frames,.inr ⟨rfl,rfl⟩,λb z=>absurd z (qv b),e0.bs,e0.bsz,λb _ _=>qv b,λb z=>absurd z (qv b),e0.funs,e0.frf⟩,
  rfl,e0.bare,Un.kept hk,⟨_,x.toInCall.ns,λi y v h1 h2 h3=>?_⟩,λy c h=>⟨_,x.cell y c h⟩,e0.hok.fresh (bI _),λy c h=>?_,λp hp=>absurd (show p∈([]:List (aD×bK)) from hp) (by simp),e0.hok.kept hk,?_⟩
 .exact name_of_addr x.apart (vV h1) (vV h2)
 .have hy:scope.names.lookup y=aa .cell\/scope.names.lookup y=aa .free:=hy;rcases hy with hy|hy
  .exact SD hy
  .exact absurd rfl (S.nofree _ (vV hy))
 .exact pY (x.above y c (vV h))
 .have hi:i<vs.length:=by
   unfold start at h2;by_cases hi:i<vs.length
   all_goals grind
  have ha:vs[i]?=aa v:=by
   unfold start at h2
   grind
  obtain⟨u,hu,rv⟩:=r.get ha;have hp:ps[i]?=aa y:=by
   rw[<-S.pre,List.getElem?_take_of_lt ()];exact h1
  have xz:ps.Nodup:=by rw[<-S.pre];exact S.nd.sublist (List.take_sublist _ _)
  refine⟨u,rv,?_⟩;rcases S.par y (eX hp) with k|k
  .exact .inl ⟨k,WK xz hp hu k⟩
  .obtain⟨c,e⟩:=SD (n:=s.heap.objs.size+1) k;refine .inr ⟨.inl k,c,e,?_⟩;have q:=x.cell y c e;rw[WH xz hp hu (by show scope.names.lookup y≠_;rw[k];decide)] at q
   exact q
 .exact e0.hok.fresh (pY (x.above y c (vV h)))
 .unfold start;show _=N.length;rw[jS,bR,List.length_replicate]
  lia
theorem Gx {CX:jv}{P:bP}{w:bE}{k:Nat}{name qual:aE}{params:Arguments}{scope:fZ}{dV kV gt pm cg ct oc:aF}{an od:Option aD}
  {m6:Array (Option aF)} {N ps:List aE} {sp:Sp} (lk:K.lookup f=aa ⟨oc,od,.func (vW name qual params body scope dV kV gt pm an cg ct),m6⟩) (j0:MO K cg qual=af) (S:FnScope N ps scope)
  (len:∀ vs H Q E,sp vs H Q E->vs.length=ps.length)
  (j2:∀ (A:cE) (outer:List dP) (s:aI) (H:Hp) (vs:List V) (Q:VK) (E:XK),Room k (A.deeper (envOfC qual scope s.heap.objs.size f cg))->sp vs H Q E ->
   ∃ t,PSs (oB CX P w K mg base N qual scope f cg A outer s H E) body t/\t { nx:=λ_ H'=>Q .non H',rt:=Q } (start N vs) H) :
  FnOk P w K mg base CX (k+1) f (vW name qual params body scope dV kV gt pm an cg ct) ps sp:=by
 refine⟨len,λA outer s H args us vs Q E hr e0 hb r m7=>?_⟩
 have hl:=len _ _ _ _ m7;have KX:K.In s.heap:=e0.mod.kin.keeps λb o e=>(e0.bs b o e).1
 have zn:s.heap.NoLimit:=e0.mod.nolimit.keeps λb o e=>(e0.bs b o e).1
 have j3:∀ y∈ps.zip us,scope.names.lookup y.1=aa .local\/(scope.names.lookup y.1=aa .cell/\((iC (s.heap.objs.size+1) scope.names []).lookup y.1).isSome=af):=λ⟨n,v⟩ hy=>by
  rcases S.par n (wD hy).1 with q|q
  .exact .inl q
  .exact .inr ⟨q,PySem.W.cellsFrom_some _ _ _ (.inl q)⟩
 refine codeAny_call_function hr.depth (KX _ _ lk) rfl S.co S.gen rfl (PySem.W.codeRec_of KX j0) (hb _ _ _ _ ?_);refine wpAny_newFunctionEnv_cells S.kind j3 λenv he s1 x=>?_
 subst he;refine⟨zn.keeps x.toInCall.keep,codeAny_func ?_⟩;obtain⟨t,ht,hq⟩:=j2 A outer s H vs Q E (hr.deeper _) m7;have I:Inv (oB CX P w K mg base N qual scope f cg A outer s H E) [] (start N vs) H s1:=Qk S hr.hd e0 hl r x;refine jO (ht [] s1 (start N vs) H _ I hq) (λfl s' hs=>?_) λe s' hs=>hs
 have fin:∀ {Z':St} {H':Hp} {v:V} {u:aF},Inv (oB CX P w K mg base N qual scope f cg A outer s H E) [] Z' H' s'->RelV v u->Q v H'->CE outer P w H s Q u s':=
  λ{Z' H' v u} J rv q=>⟨v,H',J.os,J.bare,J.base,J.hok,rv,q⟩
 cases fl with
 |ret u=>
  obtain⟨v,Z',H',J,rv,q⟩:=hs;exact fin J rv q
 |next=>
  obtain⟨Z',H',J,q⟩:=hs;exact fin (v:=V.non) (u:=fT) J rfl q
 |brk=>
  obtain⟨_,_,_,q⟩:=hs;exact mX q
 |cont=>
  obtain⟨_,_,_,q⟩:=hs;exact mX q
section
variable {X:Cx}{t:TA}{id T:String}{r:List V->Hp->VK->Prop}
def zi (r:List V->Hp->VK->Prop)(t:TA):TE:=λZ H Q=>t Z H λvs H1=>r vs H1 Q
theorem SX (hc:Adc X (.builtin id) r)(hg:Gl X x)(hm:X.mg x=ab)(hv:lV x=aa (.builtin id))(ha:PA X (e::es) t)(hn:x ≠ "__name__":=by decide)(ic:(x==("__debug__" : aE))=ag:=by decide)
  (he:cA (e::es) X.env=(ag,bW e X.env)::cA es X.env:=by rfl) (gs:(iQ pos (cA es X.env)).any (·.1)=ag:=by rfl):PE X (.Call (.Name x p) (e::es) [] pos) (zi r t):=by
 rw[9];refine Dk (wW I hg hm hv ?_ hn ic);exact PyProof.Rows.callWith_builtin1 (bf (ha pos ad s Z H _ I h) λus s1 ⟨vs,H1,I1,r1,q1⟩=>hc ad s1 Z H1 vs us Q I1 r1 q1) he gs
theorem JV (hc:Adc X (.type T) r)(hg:Gl X x)(hm:X.mg x=ab)(hv:lV x=aa (.type T))(ha:PA X (e::es) t)(hn:x ≠ "__name__":=by decide)(ic:(x==("__debug__" : aE))=ag:=by decide)
  (he:cA (e::es) X.env=(ag,bW e X.env)::cA es X.env:=by rfl) (gs:(iQ pos (cA es X.env)).any (·.1)=ag:=by rfl):PE X (.Call (.Name x p) (e::es) [] pos) (zi r t):=by
 rw[9];refine Dk (wW I hg hm hv ?_ hn ic);exact Dx (bf (ha pos ad s Z H _ I h) λus s1 ⟨vs,H1,I1,r1,q1⟩=>hc ad s1 Z H1 vs us Q I1 r1 q1) he gs
end
section
variable {κ:Type}[DecidableEq κ]
def dR (kvs:List (κ×V))(k:κ):Option V:=(kvs.find? λkv=>decide (kv.1=k)).map (·.2)
def putK (kvs:List (κ×V))(k:κ)(v:V):List (κ×V):=
 if (kvs.any λkv=>decide (kv.1=k))=af then kvs.map (λkv=>if kv.1=k then(kv.1,v) else kv) else kvs++[(k,v)]
def OS (kvs:List (κ×V))(k:κ):List (κ×V):=kvs.filter λkv=>decide (kv.1≠k)
theorem kA {p:κ×V}{r:List (κ×V)}{k:κ}(e:p.1=k):dR (p::r) k=aa p.2:=by simp[dR,fH,e]
theorem jN {p:κ×V}{r:List (κ×V)}{k:κ}(e:¬ p.1=k):dR (p::r) k=dR r k:=by simp[dR,fH,e]
theorem vE (k:κ):∀ kvs:List (κ×V),(kvs.any λkv=>decide (kv.1=k))=(dR kvs k).isSome
 |[]=>rfl
 |p::r=>by
  rw[rK];by_cases e:p.1=k
  .simp only[kA e,decide_eq_true e,Bool.true_or,Option.isSome_some]
  .rw[jN e,decide_eq_false e,Bool.false_or];exact vE k r
theorem SB (k j:κ)(y:V):∀ kvs:List (κ×V),dR (kvs.map λkv=>if kv.1=k then(kv.1,y) else kv) j=(dR kvs j).map λx=>if j=k then y else x
 |[]=>rfl
 |p::r=>by
  have ih:=SB k j y r;rw[cT];by_cases h:p.1=k
  .rw[if_pos h];by_cases e:p.1=j
   .rw[kA (p:=(p.1,y)) e,kA e,EG,if_pos (e.symm.trans h)]
   .rw[jN (p:=(p.1,y)) e,jN e,ih]
  .rw[if_neg h];by_cases e:p.1=j
   .rw[kA (p:=p) e,kA e,EG,if_neg (λz=>h (e.trans z))]
   .rw[jN (p:=p) e,jN e,ih]
theorem UK (k j:κ)(y:V):∀ kvs:List (κ×V),dR kvs k=ab->dR (kvs++[(k,y)]) j=if j=k then aa y else dR kvs j
 |[],_=>by
  by_cases e:k=j
  .rw[if_pos e.symm];exact kA (p:=(k,y)) e
  .rw[if_neg (λz=>e z.symm)];exact jN (p:=(k,y)) e
 |p::r,hn=>by
  rw[NN];have hk:¬ p.1=k:=λz=>by rw[kA z] at hn;cases hn
  rw[jN hk] at hn;have ih:=UK k j y r hn;by_cases e:p.1=j
  .rw[kA e,kA e,if_neg (λz=>hk (e.trans z))]
  .rw[jN e,jN e,ih]
theorem Xk (kvs:List (κ×V))(k j:κ)(y:V):dR (putK kvs k y) j=if j=k then aa y else dR kvs j:=by
 unfold putK;by_cases a:(kvs.any λkv=>decide (kv.1=k))=af
 .rw[if_pos a,SB];rw[vE] at a;by_cases e:j=k
  .obtain⟨x,hx⟩:=vY.1 a
   grind
  .rw[if_neg e];cases dR kvs j with
   |none=>rfl
   |some x=>rw[EG,if_neg e]
 .rw[if_neg a];refine UK k j y kvs ?_;rw[vE] at a;cases q:dR kvs k with
  |none=>rfl
  |some x=>rw[q] at a;exact(a rfl).elim
theorem yN (kvs:List (κ×V))(k:κ)(v:V):(putK kvs k v).length<=kvs.length+1:=by
 unfold putK
 grind
theorem Ath.isSome_eq {o:Option V}{u:Option aF}(r:Ath o u):o.isSome=u.isSome:=by
 cases o with
 |none=>cases u with
  |none=>rfl
  |some _=>exact(show False from r).elim
 |some _=>cases u with
  |none=>exact(show False from r).elim
  |some _=>rfl
theorem Ath.getD {o:Option V}{u:Option aF}{d:V}{d':aF}(r:Ath o u)(rd:RelV d d'):RelV (o.getD d) (u.getD d'):=by
 cases o with
 |none=>cases u with
  |none=>exact rd
  |some _=>exact(show False from r).elim
 |some _=>cases u with
  |none=>exact(show False from r).elim
  |some _=>exact r
theorem KV.val {kvs:List (κ×V)}{vs:List (κ×aF)}(r:KV kvs vs)(k:κ):Ath (dR kvs k) (vO vs k):=by
 unfold KV at r;induction r with
 |nil=>exact oP
 |@cons p q ps qs h t ih=>
  obtain⟨h1,h2⟩:=h;by_cases e:p.1=k
  .have e':q.1=k:=h1.symm.trans e;have b:vO (q::qs) k=aa q.2:=by simp[vO,fH,e']
   rw[kA e,b];exact h2
  .have e':¬ q.1=k:=λz=>e (h1.trans z)
   have b:vO (q::qs) k=vO qs k:=by simp[vO,fH,e']
   rw[jN e,b];exact ih
theorem KV.any {kvs:List (κ×V)}{vs:List (κ×aF)}(r:KV kvs vs)(k:κ):(kvs.any λkv=>decide (kv.1=k))=vs.any λkv=>decide (kv.1=k):=by
 unfold KV at r;induction r with
 |nil=>rfl
 |cons h t ih=>rw[rK,rK,ih,h.1]
theorem KV.repl {kvs:List (κ×V)}{vs:List (κ×aF)}(r:KV kvs vs)(k:κ){y:V}(ry:RelV y u) :
  KV (kvs.map λkv=>if kv.1=k then(kv.1,y) else kv) (vs.map λkv=>if kv.1=k then(kv.1,u) else kv):=by
 unfold KV at r ⊢;induction r with
 |nil=>exact .nil
 |@cons p q ps qs h t ih=>
  rw[cT,cT];refine .cons ?_ ih
  grind
theorem KV.put {kvs:List (κ×V)}{vs:List (κ×aF)}(r:KV kvs vs)(k:κ){y:V}(ry:RelV y u):KV (putK kvs k y) (tP vs k u):=by
 unfold putK tP;rw[r.any k];by_cases e:(vs.any λkv=>decide (kv.1=k))=af
 .rw[if_pos e,if_pos e];exact r.repl k ry
 .rw[if_neg e,if_neg e];exact Paired.snoc r ⟨rfl,ry⟩
theorem KV.drop {kvs:List (κ×V)}{vs:List (κ×aF)}(r:KV kvs vs)(k:κ):KV (OS kvs k) (without vs k):=by
 unfold KV at r ⊢;unfold OS without;induction r with
 |nil=>exact .nil
 |@cons p q ps qs h t ih=>
  obtain⟨h1,h2⟩:=h;rw[NK,NK];by_cases e:p.1=k
  .grind
  .have e':¬ q.1=k:=λz=>e (h1.trans z)
   have a:decide (p.1≠k)=af:=by simp[e]
   have b:decide (q.1≠k)=af:=by simp[e']
   rw[if_pos a,if_pos b];exact .cons ⟨h1,h2⟩ ih
theorem KV.keys {kvs:List (κ×V)}{vs:List (κ×aF)}(r:KV kvs vs):kvs.map (·.1)=vs.map (·.1):=by
 unfold KV at r;induction r with
 |nil=>rfl
 |cons h t ih=>rw[cT,cT,ih,h.1]
theorem KV.length {kvs:List (κ×V)}{vs:List (κ×aF)}(r:KV kvs vs):kvs.length=vs.length:=oR r
end
theorem sF {P:bP}{w:bE}{k:aH}(r:RelV (kV k) u):(fG P w).is k u=af:=by
 cases k with
 |inl i=>obtain⟨t,e⟩:=(show ∃ t,u=tU i t from r);subst e;exact KQ P w i t
 |inr x=>obtain⟨t,e⟩:=(show ∃ t,u=tT x t from r);subst e;exact KU P w x t
abbrev KT (H:Hp):List (List aA×V)->List (List aA×aD×aF)->Prop:=eW λp q=>p.1=q.1/\Anx H p.1 q.2.1/\RelV p.2 q.2.2
theorem KT.val {H:Hp}{kvs:List (List aA×V)}(r:KT H kvs xs)(k:List aA):Ath (dR kvs k) ((oM xs k).map (·.2)):=by
 induction r with
 |nil=>exact oP
 |@cons p q ps qs h t ih=>
  obtain⟨h1,_,h2⟩:=h;by_cases e:p.1=k
  .have e':q.1=k:=h1.symm.trans e;have b:oM (q::qs) k=aa q.2:=by simp[oM,fH,e']
   rw[kA e,b];exact h2
  .have e':¬ q.1=k:=λz=>e (h1.trans z)
   have b:oM (q::qs) k=oM qs k:=by simp[oM,fH,e']
   rw[jN e,b];exact ih
theorem KT.repl {H:Hp}{kvs:List (List aA×V)}(r:KT H kvs xs)(k:List aA){y:V}(ry:RelV y u) :
  KT H (kvs.map λkv=>if kv.1=k then(kv.1,y) else kv) (xs.map (putAt k u)):=by
 induction r with
 |nil=>exact .nil
 |@cons p q ps qs h t ih=>
  rw[cT,cT];refine .cons ?_ ih;obtain⟨h1,h2,h3⟩:=h;unfold putAt
  grind
theorem KT.put {H:Hp}{kvs:List (List aA×V)}(r:KT H kvs xs)(k:List aA){y:V}(hb:Anx H k b)(ry:RelV y u) :
  KT H (putK kvs k y) (pU xs k b u):=by
 have e:(kvs.any λkv=>decide (kv.1=k))=(oM xs k).isSome:=by
  rw[vE,(r.val k).isSome_eq,MT]
 unfold putK pU;rw[e];by_cases q:(oM xs k).isSome=af
 .rw[if_pos q,if_pos q];exact r.repl k ry
 .rw[if_neg q,if_neg q];exact Paired.snoc r ⟨rfl,hb,ry⟩
theorem KT.keeps {H H':Hp}{kvs:List (List aA×V)}(r:KT H kvs xs)(ht:∀ b ys,H b=aa (.tup ys)->H' b=aa (.tup ys)):KT H' kvs xs:=
 Paired.mapP r λ_ _ z=>⟨z.1,z.2.1.keep ht,z.2.2⟩
section
variable {P:bP}{w:bE}{H:Hp}
theorem PN {u:HO}(ok:HOk P w H h)(e:Rd H a u):Acz P w H h a u:=e.ok ok
theorem sC{kvs:List (aH×V)}(ok:HOk P w H h)(e:Rd H a (.dK ep kvs)):kvs.length<=sizeLine/\(a==jH)=ag/\∃ vs,KV kvs vs/\h.DictAt (fG P w) a vs ep:=
 show Acz P w H h a (.dK ep kvs) from PN ok e
theorem pC{kvs:List (aH×V)}(ok:HOk P w H h)(e:Rd H a (.dK ep kvs)):kvs.length<=sizeLine/\(a==jH)=ag/\∃ vs,KV kvs vs/\h.DictOf (fG P w) a vs:=
 let ⟨z,y,vs,r,d⟩:=sC ok e;⟨z,y,vs,r,d.dictOf⟩
theorem qI{kvs:List (aH×V)}(ok:HOk P w H h)(e:H a=aa (.dK ep kvs)):kvs.length<=sizeLine/\(a==jH)=ag/\∃ vs,KV kvs vs/\h.DictOf (fG P w) a vs:=pC ok (.inl e)
theorem yS {P:bP}{w:bE}(hu:A.units+40<cLine):(kW P w).room A.in1:=by
 show A.in1.units+20<cLine
 grind
mutual
theorem UT (ok:HOk P w H h):∀ (d:aA) {v:V} {u:aF},Ajn H d v->RelV v u->∃ as,pX h u d as
 |.int i,v,u,k,r=>by
  have e:v=.int i:=by simpa [Ajn] using k
  subst e;obtain⟨t,rfl⟩:=r;exact⟨_,.int i t⟩
 |.str x,v,u,k,r=>by
  have e:v=.str x:=by simpa [Ajn] using k
  subst e;obtain⟨t,rfl⟩:=r;exact⟨_,.str x t⟩
 |.tuple ds,v,u,k,r=>by
  simp only[Ajn] at k;obtain⟨a,xs,rfl,e,ks⟩:=k;cases r;obtain⟨_,its,rv,⟨o,h1,h2,n,h3⟩,_⟩:=(show Acz P w H h a (.tup xs) from ok a _ e)
  obtain⟨as,ra⟩:=UW ok ds ks rv;exact⟨as,.tuple h1 h2 h3 (by simpa using ra)⟩
 |.none,v,u,k,r=>by simp[Ajn] at k
 |.bool _,v,u,k,r=>by simp[Ajn] at k
 |.list _,v,u,k,r=>by simp[Ajn] at k
 |.dict _,v,u,k,r=>by simp[Ajn] at k
theorem UW (ok:HOk P w H h):∀ (ds:List aA) {vs:List V} {us:List aF},Ags H ds vs->Vals vs us->∃ as,pW h us ds as
 |[],vs,us,k,r=>by
  have e:vs=[]:=by simpa [Ags] using k
  subst e;cases r;exact⟨_,.nil⟩
 |d::ds,vs,us,k,r=>by
  simp only[Ags] at k;obtain⟨x,rr,rfl,k1,k2⟩:=k;cases r with
  |cons r1 r2=>
   obtain⟨as,ra⟩:=UT ok d k1 r1;obtain⟨bs,rb⟩:=UW ok ds k2 r2;exact⟨_,.cons ra rb⟩
end
theorem key_of(ok:HOk P w H h)(e:Anx H ks a):(kW P w).is h ks a:=by
 obtain⟨k1,k2,xs,e,f8⟩:=e;refine⟨k1,k2,?_⟩;exact UT ok (.tuple ks) (v:=.ref a) (u:=.ref a) (by simp only[Ajn];exact⟨a,xs,rfl,e,f8⟩) rfl
theorem rW {kvs:List (List aA×V)}(ok:HOk P w H h)(e:∃ ep,Rd H a (.dT ep kvs)):kvs.length<=sizeLine/\(a==jH)=ag /\
  ∃ xs,KT H kvs xs/\h.DictOfH (kW P w) a xs:=by
 obtain⟨ep,e⟩:=e;obtain⟨z,y,xs,r,o,es,h1,h2,h3,h4,h5⟩:=(show Acz P w H h a (.dT ep kvs) from PN ok e)
 refine⟨z,y,xs,r,o,es,ep,h1,h2,h3,h4,λx hx=>?_,h5⟩
 have all:∀ {l:List (List aA×V)} {m:List (List aA×aD×aF)},KT H l m->∀ x∈m,(kW P w).is h x.1 x.2.1:=by
  intro l m q;induction q with
  |nil=>intro x hx;exact nomatch hx
  |@cons p q ps qs hq t ih=>
   intro x hx;rcases cZ.1 hx with e|hx
   .subst e;exact key_of ok (by rw[<-hq.1];exact hq.2.1)
   .exact ih x hx
 exact all r x hx
theorem Hq{kvs:List (List aA×V)}(ok:HOk P w H h)(e:H a=aa (.dT ep kvs)):kvs.length<=sizeLine/\(a==jH)=ag /\
  ∃ xs,KT H kvs xs/\h.DictOfH (kW P w) a xs:=rW ok ⟨ep,.inl e⟩
end
def Axm (H:Hp)(a:aD)(y:V)(r:Option V):Prop:=
 (∃ ep kvs k,Rd H a (.dK ep kvs)/\y=kV k/\r=dR kvs k)\/∃ kvs k b,(∃ ep,Rd H a (.dT ep kvs))/\y=.ref b/\Anx H k b/\r=dR kvs k
def Bdu (H:Hp)(a:aD)(y v:V)(H':Nat->Hp):Prop:=
 (∃ ep kvs k,H a=aa (.dK ep kvs)/\y=kV k/\kvs.length<sizeLine/\H'=λn=>upd H a (.dK n (putK kvs k v))) \/
 ∃ kvs k b,(∃ ep,H a=aa (.dT ep kvs))/\y=.ref b/\Anx H k b/\kvs.length<sizeLine/\H'=λn=>upd H a (.dT n (putK kvs k v))
theorem Axm.k {H:Hp}{kvs:List (aH×V)}{k:aH}(e:H a=aa (.dK ep kvs)):Axm H a (kV k) (dR kvs k):=.inl ⟨ep,kvs,k,.inl e,rfl,rfl⟩
theorem Axm.t {H:Hp}{kvs:List (List aA×V)}{k:List aA}(e:H a=aa (.dT ep kvs))(eb:Anx H k b):Axm H a (.ref b) (dR kvs k):=.inr ⟨kvs,k,b,⟨ep,.inl e⟩,rfl,eb,rfl⟩
theorem Bdu.k {H:Hp}{kvs:List (aH×V)}{k:aH}{v:V}(e:H a=aa (.dK ep kvs))(hl:kvs.length<sizeLine):Bdu H a (kV k) v (λn=>upd H a (.dK n (putK kvs k v))):=.inl ⟨ep,kvs,k,e,rfl,hl,rfl⟩
theorem Bdu.t {H:Hp}{kvs:List (List aA×V)}{k:List aA}{v:V}(e:H a=aa (.dT ep kvs))(eb:Anx H k b)(hl:kvs.length<sizeLine) :
  Bdu H a (.ref b) v (λn=>upd H a (.dT n (putK kvs k v))):=.inr ⟨kvs,k,b,⟨ep,e⟩,rfl,eb,hl,rfl⟩
section
variable {X:Cx}{Z:St}{H:Hp}{y v:V}{r:aF}{o:Option V}
theorem Inv.big (I:Inv X ad Z H s):jH<s.heap.objs.size:=by
 have h:jI<s.heap.objs.size:=(I.mod.glob.keeps I.bk).lt;exact Nat.lt_trans nofun h
theorem Zk(hu:A.units+40<cLine)(I:Inv X ad Z H s)(g:Axm H a y (aa v))(ry:RelV y u)(h:∀ w' s',Inv X ad Z H s'->RelV v w'->Q w' s') :
  aW (aY X.prog X.w) A (pV (.ref a) u) Q E s:=by
 rcases g with⟨ep,kvs,k,e,ey,l⟩|⟨kvs,k,b,e,ey,eb,l⟩
 .subst ey;obtain⟨z,hd,vs,cq,dd⟩:=pC I.hok e;obtain⟨w',hw,gm⟩:=Ath.some_of (v:=v) (o:=vO vs k) (by rw[l];exact cq.val k)
  exact wpAny_getItem_of (sF ry) dd.mapOf hw (h w' _ (I.tok _) gm)
 .subst ey;cases(show u=fR b from ry)
  obtain⟨z,hd,xs,cq,dd⟩:=rW I.hok e;obtain⟨w',hw,gm⟩:=Ath.some_of (v:=v) (o:=(oM xs k).map (·.2)) (by rw[l];exact cq.val k)
  obtain⟨p,hp,uj⟩:=jR.1 hw;refine wpAny_getItem_heap (yS hu) (key_of I.hok eb) dd hp ?_;rw[uj];exact h w' _ (I.tok _) gm
theorem Fo(hu:A.units+40<cLine)(I:Inv X ad Z H s)(g:Axm H a y o)(ry:RelV y u)(h:∀ s',Inv X ad Z H s'->Q (.bool o.isSome) s') :
  aW (aY X.prog X.w) A (iB .In u (.ref a)) Q E s:=by
 rcases g with⟨ep,kvs,k,e,ey,l⟩|⟨kvs,k,b,e,ey,eb,l⟩
 .subst ey;obtain⟨z,hd,vs,cq,dd⟩:=pC I.hok e;refine wpAny_in_of (sF ry) hd dd.mapOf ?_;rw[<-(cq.val k).isSome_eq,<-l];exact h _ (I.tok _)
 .subst ey;cases(show u=fR b from ry)
  obtain⟨z,hd,xs,cq,dd⟩:=rW I.hok e;refine wpAny_in_heap (yS hu) (key_of I.hok eb) hd dd ?_;have q:=(cq.val k).isSome_eq;rw[MT] at q;rw[<-q,<-l];exact h _ (I.tok _)
theorem Vg(hu:A.units+40<cLine)(I:Inv X ad Z H s)(g:Axm H a y o)(ry:RelV y u)(h:∀ s',Inv X ad Z H s'->Q (.bool (!o.isSome)) s') :
  aW (aY X.prog X.w) A (iB .NotIn u (.ref a)) Q E s:=by
 rcases g with⟨ep,kvs,k,e,ey,l⟩|⟨kvs,k,b,e,ey,eb,l⟩
 .subst ey;obtain⟨z,hd,vs,cq,dd⟩:=pC I.hok e;refine wpAny_notIn_of (sF ry) hd dd.mapOf ?_;rw[<-(cq.val k).isSome_eq,<-l];exact h _ (I.tok _)
 .subst ey;cases(show u=fR b from ry)
  obtain⟨z,hd,xs,cq,dd⟩:=rW I.hok e;refine wpAny_notIn_heap (yS hu) (key_of I.hok eb) hd dd ?_;have q:=(cq.val k).isSome_eq;rw[MT] at q;rw[<-q,<-l];exact h _ (I.tok _)
theorem BJ{ob:HO}(I:Inv X ad Z H s)(mu:wL (H a))(hs:wJ a s.heap h')(he:∃ q,h'.get? a=aa q)(new:Acz X.prog X.w (upd H a ob) h' a ob) :
  Inv X ad Z (upd H a ob) { s with heap:=h',toks:=t' }:=
 I.write (x:=a) (e:=a) mu (.inl rfl) (λb q hb z=>(hs.2 b hb).trans z) he new
theorem xD {P:bP}{w:bE}{H':Hp}{kvs:List (aH×V)}{vs:List (aH×aF)}(z:kvs.length<=sizeLine)(hd:(a==jH)=ag)(cq:KV kvs vs)(dd:h'.DictAt (fG P w) a vs ep) :
  Acz P w H' h' a (.dK ep kvs):=⟨z,hd,vs,cq,dd⟩
theorem Za {H':Nat->Hp}{Q:Unit->aI->Prop}(hu:A.units+40<cLine)(I:Inv X ad Z H s)(g:Bdu H a y v H')(ry:RelV y u)(rv:RelV v r)(h:∀ n s',Inv X ad Z (H' n) s'->Q Unit.unit s') :
  aW (aY X.prog X.w) A (setItem (.ref a) u r) Q E s:=by
 rcases g with⟨ep,kvs,k,e,ey,l,eH⟩|⟨kvs,k,b,e,ey,eb,l,eH⟩
 .subst ey eH;obtain⟨z,hd,vs,cq,dd⟩:=qI I.hok e;have hz:vs.length<=sizeLine:=by rw[<-cq.length];exact z
  have hl:(putK kvs k v).length<=sizeLine:=by have:=yN kvs k v;lia
  refine wpAny_setItem_pairs (hsz:=hz) (sF ry) dd λh' jr hs=>?_
  have he:∃ q,h'.get? a=aa q:=let ⟨q,_,_,hq,_⟩:=jr;⟨q,hq⟩;obtain⟨n,da⟩:=jr.dictAt;exact h n _ (BJ I (by rw[e];exact oP) hs he (xD hl hd (cq.put k rv) da))
 .subst ey eH;cases(show u=fR b from ry)
  obtain⟨xL,e⟩:=e;obtain⟨z,hd,xs,cq,dd⟩:=Hq I.hok e;have hz:xs.length<=sizeLine:=by rw[<-oR cq];exact z
  have hl:(putK kvs k v).length<=sizeLine:=by have:=yN kvs k v;lia
  refine wpAny_setItem_heap (hsz:=hz) (yS hu) (key_of I.hok eb) dd λh' jr hs=>?_
  obtain⟨q,es,ep,hq,h2,h3,h4,_,h5⟩:=jr;refine h ep _ ?_;refine BJ I (by rw[e];exact oP) hs ⟨q,hq⟩ ⟨hl,hd,_,(cq.put k eb rv).keeps λc ys ec=>?_,q,es,hq,h2,h3,h4,h5⟩
  rw[cO (Hv ec e (λz=>nomatch z))]
  exact ec
end
section
variable {X:Cx}{Z:St}{H:Hp}{kvs:List (aH×V)}{k:aH}
theorem Hk(I:Inv X ad Z H s)(e:Rd H a (.dK ep kvs))(h:∀ t s',Inv X ad Z H s'->Q (.int kvs.length t) s'):aW (aY X.prog X.w) A (call (.builtin "len") [.ref a]) Q E s:=by
 obtain⟨z,hd,vs,cq,dd⟩:=pC I.hok e;refine call_len_dict hd dd (by rw[<-cq.length];rw[zG] at z;lia) ?_
 rw[<-cq.length];exact h _ _ (I.tok _)
end
def AJ (i:aR):Prop:=∀ ov iv,MI i ag ov iv=operate [ov,iv] (pV ov iv)
theorem Pw{w:bE}{env:dP}{value cu:aR}{T id:String}
  (hl:typeLookup (.type T) "__getitem__" = pure (aa (.builtin id))) (hs:AJ cu)
  (h:aW (aY prog w) A (bW value env) (λo s₁=>aW (aY prog w) A (bW cu env) (λi s₂=>s₂.TypeIs o T/\aW (aY prog w) A (pV o i) Q E s₂) E s₁) E s) :
  aW (aY prog w) A (bW (.Subscript value cu pos) env) Q E s:=by
 refine Subscript_ (jO h (λo s₁ h₁=>jO h₁ (λi s₂ h₂=>?_) λ_ _ x=>x) λ_ _ x=>x)
 obtain⟨hT,h₂⟩:=h₂;unfold subscriptTail;refine aK ?_;rw[getitemInPython_of_ne hT.not_modules];refine aK (yY hT hl ?_);have fin:aW (aY prog w) A (MI cu ag o i) (λr s₃=>aW (aY prog w) A (letTemporaryGo value o r>>=λ_=>pure r) Q E s₃) E s₂:=by
  rw[hs o i];exact wpAny_operating (jO h₂ (λr s₃ h₃=>aK (wpAny_letTemporaryGo (aZ h₃))) λ_ _ x=>x)
 first
  |exact aZ (aK fin)
  |exact aK (aZ (aK fin))
  |exact aK fin
theorem Tj {X:Cx}{Z:St}{H:Hp}{y:V}{o:Option V}(I:Inv X ad Z H s)(g:Axm H a y o):s.TypeIs (.ref a) "dict":=by
 rcases g with⟨ep,kvs,k,e,_,_⟩|⟨kvs,k,b,e,_,_,_⟩
 .obtain⟨_,_,vs,_,dd⟩:=pC I.hok e;exact dd.typeIs
 .obtain⟨_,_,xs,_,dd⟩:=rW I.hok e;exact dd.typeIs
def Gv (td ty:TE):TE:=λZ H Q=>td Z H λx H1=>ty Z H1 λy H2=>∃ a v,x=.ref a/\Axm H2 a y (aa v)/\Q v H2
def Hm (td ty tv:TE):TS:=λD Z H=>tv Z H λv H1=>td Z H1 λx H2=>ty Z H2 λy H3=>∃ a H4,x=.ref a/\Bdu H3 a y v H4/\∀ n,D.nx Z (H4 n)
section
variable {X:Cx}{o i value:aR}{gx je:bL}{td ty tv:TE}
theorem HL (hu:X.A.units+40<cLine)(ho:PE X o td)(hi:PE X i ty)(hs:AJ i):PE X (.Subscript o i pos) (Gv td ty):=by
 rw[9];refine Pw PySem.F.slot_dict_getitem.lookup hs (bf (ho ad s Z H _ I h) λu s1 ⟨x,H1,I1,rx,q1⟩=>bf (hi ad s1 Z H1 _ I1 q1) λiv s2 gh=>?_)
 obtain⟨y,H2,I2,ry,a,v,ex,g,q2⟩:=gh;subst ex;obtain rfl:u=fR a:=rx;exact⟨Tj I2 g,Zk hu I2 g ry λw' s3 I3 gm=>⟨v,H2,I3,gm,q2⟩⟩
theorem Oa (hu:X.A.units+40<cLine)(ho:PE X o td)(hi:PE X i ty)(hv:PE X value tv)(hs:iO value (aa (.Subscript o i gx)) pos.line X.env=pure ag) :
  PS X (.Assign [.Subscript o i gx] value pos) (Hm td ty tv):=by
 intro ad s Z H D I h;refine wpAny_Assign_Subscript (bf (hv ad s Z H _ I h) λr s1 ⟨v,H1,I1,rv,q1⟩=>bf (ho ad s1 Z H1 _ I1 q1) λu s2 ⟨x,H2,I2,rx,q2⟩=>bf (hi ad s2 Z H2 _ I2 q2) λiv s3 ⟨y,H3,I3,ry,a,H4,ex,g,q3⟩=>?_) hs
 subst ex;obtain rfl:u=fR a:=rx;exact Za hu I3 g ry rv λn s4 I4=>⟨Z,H4 n,I4,q3 n⟩
end
theorem Wx {P:bP}{w:bE}{H:Hp}(h:aU)(hb:jH<h.objs.size):Acz P w H (h.push { cls:=.type "dict",data:=.dict #[] }) h.objs.size (.dK 0 []):=
 ⟨eB _,beq_eq_false_iff_ne.2 (kF (eD hb)),[],.nil,_,#[],dM _ rfl,⟨rfl,rfl,rfl⟩,rfl,λ_ he=>by simp at he,Pairs.nil,Ec⟩
def Ll:TE:=λ_ H Q=>∀ p,H p=ab->Q (.ref p) (upd H p (.dK 0 []))
section
variable {X:Cx}
theorem RS:PE X (.Dict [] [] pos) Ll:=λad s Z H Q I h=>
 wpAny_Dict_empty ⟨.ref s.heap.objs.size,_,I.laid (a:=s.heap.objs.size) (o:=.dK 0 []) (t':=s.toks) (λ_ _ q=>cD _ q) (bI _) (Wx s.heap I.big),rfl,h _ (I.hok.fresh (bI _))⟩
end
def nM (kvs more:List (aH×V)):List (aH×V):=more.foldl (λar kv=>putK ar kv.1 kv.2) kvs
theorem KV.merge:∀ {more:List (aH×V)} {rs:List (aH×aF)} {kvs:List (aH×V)} {vs:List (aH×aF)},KV more rs->KV kvs vs->KV (nM kvs more) (oJ vs rs):=by
 intro more rs kvs vs r;unfold KV at r;induction r generalizing kvs vs with
 |nil=>intro q;exact q
 |@cons p q ps qs h t ih=>
  intro r0;have e:KV (putK kvs p.1 p.2) (tP vs q.1 q.2):=by
   have:=r0.put p.1 h.2;rw[<-h.1];exact this
  exact ih e
theorem LD:∀ (more kvs:List (aH×V)),(nM kvs more).length<=kvs.length+more.length
 |[],kvs=>by show kvs.length<=kvs.length+0;lia
 |p::r,kvs=>by
  have h1:=LD r (putK kvs p.1 p.2);have h2:=yN kvs p.1 p.2;show(nM (putK kvs p.1 p.2) r).length<=_;rw[fU];lia
structure M1 (X:Cx)(o:aR)(m:aE)(aq:bL)(e:aR)(av:bL):Prop where
 base:vT o m X.env (bW o X.env)=bW o X.env
 few:((iQ av (cA [e] X.env)).all (λx=>!x.1)&&(backToKw av (keywordEach [] X.env)).all (λx=>x.1.isSome)
  && decide (([e]:List aR).length+([]:List Keyword).length+(if ([]:List Keyword).isEmpty then 0 else 1)<30))=af
 line:(aq.endLine==av.line)=af
 trees:iQ av (cA [e] X.env)=[(ag,bW e X.env)]
structure M2 (X:Cx)(o:aR)(m:aE)(aq:bL)(e f:aR)(av:bL):Prop where
 base:vT o m X.env (bW o X.env)=bW o X.env
 few:((iQ av (cA [e,f] X.env)).all (λx=>!x.1)&&(backToKw av (keywordEach [] X.env)).all (λx=>x.1.isSome)
  && decide (([e,f]:List aR).length+([]:List Keyword).length+(if ([]:List Keyword).isEmpty then 0 else 1)<30))=af
 line:(aq.endLine==av.line)=af
 trees:iQ av (cA [e,f] X.env)=[(ag,bW e X.env),(ag,bW f X.env)]
def zf (H:Hp)(a:aD):Prop:=(∃ ep kvs,Rd H a (.dK ep kvs))\/∃ kvs,∃ ep,Rd H a (.dT ep kvs)
theorem Mm {X:Cx}{Z:St}{H:Hp}(I:Inv X ad Z H s)(d:zf H a) :
  s.TypeIs (.ref a) "dict" /\ (∀ b,fR a=.ref b->∃ ob,s.heap.get? b=aa ob/\ob.dict=ab)/\(a==jH)=ag:=by
 rcases d with⟨ep,kvs,e⟩|⟨kvs,e⟩
 .obtain⟨_,hd,vs,_,dd⟩:=pC I.hok e;refine⟨dd.typeIs,λb q=>?_,hd⟩
  cases q;obtain⟨ob,_,_,h1,h2,_⟩:=dd;exact⟨ob,h1,h2.2.1⟩
 .obtain⟨_,hd,xs,_,dd⟩:=rW I.hok e;refine⟨dd.typeIs,λb q=>?_,hd⟩
  cases q;obtain⟨ob,_,_,h1,h2,_⟩:=dd;exact⟨ob,h1,h2.2.1⟩
section
variable {X:Cx}{Z:St}{H:Hp}{y d:V}{r:aF}{o:Option V}
theorem Km(hu:A.units+40<cLine)(I:Inv X ad Z H s)(g:Axm H a y o)(ry:RelV y u)(rd:RelV d r)(h:∀ w' s',Inv X ad Z H s'->RelV (o.getD d) w'->Q w' s') :
  aW (aY X.prog X.w) A (call (.builtin "dict.get") [.ref a,u,r]) Q E s:=by
 rcases g with⟨ep,kvs,k,e,ey,l⟩|⟨kvs,k,b,e,ey,eb,l⟩
 .subst ey;obtain⟨z,hd,vs,cq,dd⟩:=pC I.hok e;refine MM Dt dd.typeIs PySem.F.entry_dict_get (Zy _ _ _) (meets_dict_get_default (fG X.prog X.w) a (sF ry) hd r) ⟨_,dd.mapOf,h _ _ (I.tok _) ?_⟩;rw[l];exact(cq.val k).getD rd
 .subst ey;cases(show u=fR b from ry)
  obtain⟨z,hd,xs,cq,dd⟩:=rW I.hok e;refine MM Dt dd.typeIs PySem.F.entry_dict_get (Zy _ _ _) (meetsH_dict_get_default (kW X.prog X.w) a b hd r) ⟨yS hu,k,xs,key_of I.hok eb,dd,h _ _ (I.tok _) ?_⟩;rw[l];exact(cq.val k).getD rd
end
def Iv (td ty tx:TE):TE:=λZ H Q=>td Z H λx H1=>∃ a,x=.ref a/\zf H1 a/\ty Z H1 λy H2=>tx Z H2 λz H3=>∃ o,Axm H3 a y o/\Q (o.getD z) H3
section
variable {X:Cx}{o f:aR}{aq av:bL}{td ty tx:TE}
theorem Xi (hu:X.A.units+40<cLine)(ho:PE X o td)(he:PE X e ty)(hf:PE X f tx)(m:M2 X o "get" aq e f av):PE X (.Call (.Attribute o "get" aq) [e,f] [] av) (Iv td ty tx):=by
 rw[9];refine wpAny_Call_method m.base m.few m.line zL Dt PySem.F.type_dict_get (bf (ho ad s Z H _ I h) λu s1 gh=>?_)
 obtain⟨x,H1,I1,rx,a,ex,d,q1⟩:=gh;subst ex;obtain rfl:u=fR a:=rx;obtain⟨t1,t2,_⟩:=Mm I1 d;refine⟨t1,t2,?_⟩;rw[m.trees];refine Eu rfl (Calls.evalArgs_plain (Et (bf (he ad s1 Z H1 _ I1 q1) λiv s2 ⟨y,H2,I2,ry,q2⟩=>
  Et (bf (hf ad s2 Z H2 _ I2 q2) λfv s3 ⟨z,H3,I3,rz,ov,g,q3⟩=>Calls.spliced_nil ?_))))
 exact Km hu I3 g ry rz λw' s4 I4 gm=>⟨_,H3,I4,gm,q3⟩
end
section
variable {X:Cx}{Z:St}{H:Hp}{kvs:List (aH×V)}
theorem Xz(I:Inv X ad Z H s)(e:Rd H a (.dK ep kvs))(h:∀ p n s',H p=ab->Inv X ad Z (upd H p (.dK n kvs)) s'->Q (.ref p) s'):aW (aY X.prog X.w) A (call (.type "dict") [.ref a]) Q E s:=by
 obtain⟨z,hd,vs,cq,dd⟩:=pC I.hok e;refine kt_call_dict hd dd (by rw[<-cq.length];exact z) λh' jr hs=>?_
 obtain⟨n,da⟩:=jr.dictAt;refine h _ n _ (I.hok.fresh (bI _)) (I.laid (a:=s.heap.objs.size) (o:=.dK n kvs) (t':=s.toks) (λb q hq=>?_) (bI _) (xD z (beq_eq_false_iff_ne.2 (kF (eD I.big))) cq da))
 exact(hs.2 b (eD (bZ hq))).trans (cD _ hq)
end
end L2
namespace HT
open PySem PyProof.Rows
section
variable {prog:bP}{w:bE}{A:cE}{E:aF->aI->Prop}{s:aI}
theorem Bbb {t b:aD}{vs ws:List aF}{Q:aF->aI->Prop}(ht:IsTup s.heap t vs.toArray)(hb:IsTup s.heap b ws.toArray)(hv:vs≠[])
  (h1:ws=[]->Q (.ref t) s) (h2:ws≠[]->Q (.ref s.heap.objs.size) { s with heap:=s.heap.push { cls:=.type "tuple",data:=.seq (vs++ws).toArray } })
  (hsz:vs.length+ws.length<=sizeLine):aW (aY prog w) A (jQ .Add (.ref t) (.ref b)) Q E s:=by
 obtain⟨⟨cls,dd,data,sl⟩,ho,hc,n,hd⟩:=id ht;obtain⟨⟨qw,m8,data2,p6⟩,kq,ix,n2,js⟩:=id hb;simp only at hc hd ix js;subst hc hd ix js;have e:vs.toArray++ws.toArray=(vs++ws).toArray:=by simp
 by_cases hw:ws=[]
 .exact ML ⟨_,ho,rfl⟩ ⟨_,kq,rfl⟩ Dl seq_tuple_add Ds Du (Dv _ _)
   (tuple_addW1 t b vs.toArray ws.toArray n n2 dd m8 sl p6 (by simpa using hv) (by simp[hw])) ⟨ho,kq,h1 hw⟩
 .refine ML ⟨_,ho,rfl⟩ ⟨_,kq,rfl⟩ Dl seq_tuple_add Ds Du (Dv _ _)
   (tuple_addW2 t b vs.toArray ws.toArray n n2 dd m8 sl p6 (by simpa using hv) (by simpa using hw) (by rw[dX,dX];exact hsz)) ⟨ho,kq,?_⟩
  rw[e];exact h2 hw
def sIx (n d:Nat):Option Int->Nat
 |none=>d
 |some v=>if v<0 then(v+(n:Int)).toNat else min v.toNat n
theorem Avi (n d:Nat):sIx n d ab=d:=rfl
theorem Azz (n d k:Nat):sIx n d (aa (k:Int))=min k n:=by
 show(if (k:Int)<0 then((k:Int)+(n:Int)).toNat else min (k:Int).toNat n)=min k n
 grind
theorem Iw (n d:Nat)(hd:d<=n)(o:Option Int):sIx n d o<=n:=by
 cases o with
 |none=>exact hd
 |some v=>
  show(if v<0 then(v+(n:Int)).toNat else min v.toNat n)<=n
  grind
theorem RA (v:Int)(n d:Nat):(if v<0 then max (v+(n:Int)) 0 else min v (n:Int))=((sIx n d (aa v):Nat):Int):=by
 show(if v<0 then max (v+(n:Int)) 0 else min v (n:Int))=(((if v<0 then(v+(n:Int)).toNat else min v.toNat n):Nat):Int)
 grind
theorem Ro (lo hi:Option Int)(n:Nat):Ex lo hi 1 (n:Int)=(((sIx n 0 lo:Nat):Int),((sIx n n hi:Nat):Int)):=by
 have h1:¬ ((1:Int)<0):=()
 unfold Ex;simp only[h1,if_false];refine Prod.ext ?_ ?_
 .cases lo with
  |none=>rfl
  |some v=>exact RA v n 0
 .cases hi with
  |none=>rfl
  |some v=>exact RA v n n
theorem Rp (i j:Nat):NU (i:Int) (j:Int) 1=j-i:=by
 unfold NU
 grind
theorem WR {v:aF}{o:Option Int}{Q:Option Int->aI->Prop}(p:oY v o)(h:Q o s):aW (aY prog w) A (Builtin.Slice.slicePartIndex v) Q E s:=by
 cases p with
 |none=>exact slicePart_none h
 |int i t=>exact slicePart_int h
theorem Afu {sl:aD}{vl vu:aF}{lo hi:Option Int}{n:Nat}{Q:Int×Int×Nat->aI->Prop}(hs:s.heap.IsSliceOf sl vl vu .none)(pl:oY vl lo)(pu:oY vu hi)
  (h:Q (((sIx n 0 lo:Nat):Int),1,sIx n n hi-sIx n 0 lo) s):aW (aY prog w) A (Builtin.Slice.sliceApplied (.ref sl) (pure (n:Int))) Q E s:=by
 obtain⟨os,qy,x0,iy⟩:=id hs;unfold Builtin.Slice.sliceApplied Builtin.Slice.sliceFields;refine aK (aK (kE qy iy (x:=vl) rfl (aK (kE qy iy (x:=vu) rfl (aK (kE qy iy (x:=.none) rfl (aZ ?_)))))));refine aK (slicePart_none ?_);show aW _ _ (if ((1:Int)==0)=af then _ else _) _ _ s
 rw[if_neg nofun]
 refine aK (WR pl (aK (WR pu (aK (aZ ?_)))));show aW _ _ (match Ex lo hi 1 (n:Int) with|(lo,hi)=>pure (lo,(1:Int),NU lo hi 1)) _ _ s
 rw[Ro lo hi n];show aW _ _ (pure (((sIx n 0 lo:Nat):Int),(1:Int),NU ((sIx n 0 lo:Nat):Int) ((sIx n n hi:Nat):Int) 1)) _ _ s;rw[Rp];exact aZ h
theorem Vu (xs:Array aF)(i k:Nat):((cP k).filterMap λ(m:Nat)=>xs[((i:Int)+(m:Int)*1).toNat]?).toArray=((xs.toList.drop i).take k).toArray:=by
 have e:(λ(m:Nat)=>xs[((i:Int)+(m:Int)*1).toNat]?)=λm=>xs[i+m]?:=by
  grind
 rw[e];have:=pick_run xs i k;rw[List.filterMap_map] at this;have e2:((λx=>xs[x]?)∘λx=>i+x)=λm=>xs[i+m]?:=rfl
 rw[e2] at this;rw[this]
theorem Aik {t sl:aD}{ai:Array aF}{vl vu:aF}{lo hi:Option Int}{Q:aF->aI->Prop}(ht:IsTup s.heap t ai)(hs:s.heap.IsSliceOf sl vl vu .none)(pl:oY vl lo)(pu:oY vu hi)
  (hw:¬ (sIx ai.size 0 lo=0/\sIx ai.size ai.size hi=ai.size))
  (h:Q (.ref s.heap.objs.size) { s with heap:=s.heap.push { cls:=.type "tuple",data:=.seq ((ai.toList.drop (sIx ai.size 0 lo)).take (sIx ai.size ai.size hi-sIx ai.size 0 lo)).toArray } })
  (hsz:ai.size<=sizeLine):aW (aY prog w) A (pV (.ref t) (.ref sl)) Q E s:=by
 have iz:sizeOk (.seq ((ai.toList.drop (sIx ai.size 0 lo)).take (sIx ai.size ai.size hi-sIx ai.size 0 lo)).toArray):=by
  show((ai.toList.drop (sIx ai.size 0 lo)).take (sIx ai.size ai.size hi-sIx ai.size 0 lo)).toArray.size<=sizeLine
  grind
 have hj:sIx ai.size ai.size hi<=ai.size:=Iw _ _ (bI _) hi;obtain⟨os,qy,x0,iy⟩:=id hs;have zo:s.TypeIs (.ref sl) "slice":=⟨os,qy,x0⟩;unfold pV
 try with_reducible refine iA ?_
 first|refine aK (aZ ?_)|skip
 refine aK (wpAny_sequenceKey ht.typeIs nofun ?_)
 refine aK (tO (name:=Str.ofString "__getitem__") ht.typeIs Dw
  (lT Dw ht.typeIs entry_tuple_getitem ?_ (args_tuple_getitem _ _)))
 show aW _ _ (Ew (.ref t)>>=_) _ _ s;refine aK (tupleItemsOf_ ht ?_);refine aK (tN zo ?_);rw[if_pos nofun]
 refine aK (Afu hs pl pu ?_);have jf:¬ ((((sIx ai.size 0 lo:Nat):Int)==0&&(1:Int)==1&&(sIx ai.size ai.size hi-sIx ai.size 0 lo)==ai.size)=af):=by
  grind
 show aW _ _ (if (((sIx ai.size 0 lo:Nat):Int)==0&&(1:Int)==1&&(sIx ai.size ai.size hi-sIx ai.size 0 lo)==ai.size)=af then _ else _) _ _ s
 rw[if_neg jf,Vu]
 first
  |exact aK (m:=NS _) (pT (aZ ⟨_,rfl,aZ h⟩) iz)
  |exact aK (m:=NS _) (pT (aK (aZ (aZ ⟨_,rfl,aZ h⟩))) iz)
  |exact aK (aK (m:=NS _) (pT (aZ (aZ ⟨_,rfl,aZ h⟩)) iz))
  |exact aK (aK (m:=NS _) (pT (aZ ⟨_,rfl,aZ h⟩) iz))
end
end HT
namespace L2
open PySem PySem.Spec PyProof.Rows
variable {xs:List V}{us its:List aF}{n:Nat}{ad:List (aD×bK)}{Z:St}{H:Hp}{s:aI}{X:Cx}
abbrev TO:=St->Hp->(Option Int->Hp->Prop)->Prop
def PO (X:Cx)(e:Option aR)(t:TO):Prop:=
 ∀ (ad:List (aD×bK)) (s:aI) (Z:St) (H:Hp) (Q:Option Int->Hp->Prop),Inv X ad Z H s->t Z H Q ->
  aW (aY X.prog X.w) X.A (evalPart e X.env) (λu s'=>∃ o H',Inv X ad Z H' s'/\oY u o/\Q o H') X.xe s
def Nx:TO:=λ_ H Q=>Q ab H
def Ia (t:TE):TO:=λZ H Q=>t Z H λx H1=>∃ i,x=.int i/\Q (aa i) H1
section
variable {e:aR}{te:TE}{lo hi:Option aR}{tl th:TO}{pos p2:bL}
theorem Nr:PO X ab Nx:=by
 rw[9];rw[evalPart_none];exact aZ ⟨ab,H,I,.none,h⟩
theorem Oq (h:PE X e te):PO X (aa e) (Ia te):=by
 intro ad s Z H Q I hw;rw[evalPart_some];refine bf (h ad s Z H _ I hw) λu s1 gh=>?_
 obtain⟨x,H1,I1,r1,q1⟩:=gh;obtain⟨i,rfl,q⟩:=q1;obtain⟨t,rfl⟩:=r1;exact⟨aa i,H1,I1,.int i t,q⟩
def SlR (X:Cx)(r:V->Option Int->Option Int->Hp->VK->Prop):Prop:=
 ∀ (ad:List (aD×bK)) (s:aI) (Z:St) (H:Hp) (x:V) (v vl vu:aF) (lo hi:Option Int) (sl:aD) (Q:VK),Inv X ad Z H s->RelV x v->s.heap.IsSliceOf sl vl vu .none->oY vl lo->oY vu hi->r x lo hi H Q ->
  ∃ T id,typeLookup (.type T) "__getitem__" = pure (aa (.builtin id))/\s.TypeIs v T/\aW (aY X.prog X.w) X.A (pV v (.ref sl)) (EP X ad Z Q) X.xe s
theorem SlR.or {r r':V->Option Int->Option Int->Hp->VK->Prop}(h:SlR X r)(h':SlR X r'):SlR X (λx lo hi H Q=>r x lo hi H Q\/r' x lo hi H Q):=by
 intro ad s Z H x v vl vu lo hi sl Q I rx hs pl pu q;rcases q with q|q
 .exact h ad s Z H x v vl vu lo hi sl Q I rx hs pl pu q
 .exact h' ad s Z H x v vl vu lo hi sl Q I rx hs pl pu q
def G9 (r:V->Option Int->Option Int->Hp->VK->Prop)(te:TE)(tl th:TO):TE:=λZ H Q=>te Z H λx H1=>tl Z H1 λl H2=>th Z H2 λu H3=>r x l u H3 Q
theorem IS {r:V->Option Int->Option Int->Hp->VK->Prop}(hr:SlR X r)(he:PE X e te)(hl:PO X lo tl)(hu:PO X hi th):PE X (.Subscript e (.Slice lo hi ab p2) pos) (G9 r te tl th):=by
 rw[9];refine Subscript_ (bf (he ad s Z H _ I h) λv s1 gh=>?_)
 obtain⟨x,H1,I1,r1,q1⟩:=gh;refine wpAny_Slice (bf (hl ad s1 Z H1 _ I1 q1) λvl s2 ⟨l,H2,I2,pl,q2⟩=>bf (hu ad s2 Z H2 _ I2 q2) λvu s3 gh=>?_)
 obtain⟨u,H3,I3,pu,q3⟩:=gh;rw[evalPart_none];refine aZ ?_;have I4:Inv X ad Z H3 { s3 with heap:=s3.heap.push { cls:=.type "slice",data:=.fields #[vl,vu,.none] } }:=I3.kept (t':=s3.toks) λb ob q=>cD _ q
 obtain⟨T,id,hT,ht,hg⟩:=hr ad { s3 with heap:=s3.heap.push { cls:=.type "slice",data:=.fields #[vl,vu,.none] } } Z H3 x v vl vu l u s3.heap.objs.size Q I4 r1 (Heap.IsSliceOf.new ..) pl pu q3;show aW (aY X.prog X.w) X.A (subscriptTail e (.Slice lo hi ab p2) v (.ref s3.heap.objs.size)) (EP X ad Z Q) X.xe { s3 with heap:=s3.heap.push { cls:=.type "slice",data:=.fields #[vl,vu,.none] } };exact tail_any (ops:=[.ref s3.heap.objs.size,v]) ht hT hg (by with_unfolding_all rfl)
def pS (xs:List V)(lo hi:Option Int):List V:=(xs.drop (HT.sIx xs.length 0 lo)).take (HT.sIx xs.length xs.length hi-HT.sIx xs.length 0 lo)
theorem YN (xs:List V)(lo hi:Option Int):(pS xs lo hi).length<=xs.length:=by
 unfold pS;rw[EK,Eh]
 lia
def Fl (K:aM):V->Option Int->Option Int->Hp->VK->Prop:=λx lo hi H Q=>∃ a xs,x=.ref a/\SqT K H a xs /\
 ¬ (HT.sIx xs.length 0 lo=0/\HT.sIx xs.length xs.length hi=xs.length)/\∀ p,H p=ab->Q (.ref p) (upd H p (.tup (pS xs lo hi)))
theorem Bq:SlR X (Fl X.K):=by
 intro ad s Z H x v vl vu lo hi sl Q I rx hs pl pu h;obtain⟨a,xs,rfl,hx,hw,q⟩:=h;cases rx;obtain⟨its,r,ht,hz⟩:=I.tuple hx;have bj:its.toArray.size=xs.length:=by rw[dX];exact r.length.symm
 refine⟨"tuple",_,Dw.lookup,ht.typeIs,?_⟩;refine HT.Aik ht hs pl pu (by rw[bj];exact hw) ?_ (by rw[bj];exact hz)
 rw[bj];refine⟨.ref s.heap.objs.size,_,I.laid (t':=s.toks) (o:=.tup (pS xs lo hi)) (λb ob q=>cD _ q) (bI _) ?_,rfl,q _ (I.hok.fresh (bI _))⟩
 exact⟨cL (YN xs lo hi) hz,_,(r.drop (HT.sIx xs.length 0 lo)).take (HT.sIx xs.length xs.length hi-HT.sIx xs.length 0 lo),A8s.new _ _⟩
def FV (K:aM):R2:=λx y H Q=>∃ a b xs ys,x=.ref a/\y=.ref b/\SqT K H a xs/\SqT K H b ys/\xs≠[]/\xs.length+ys.length<=sizeLine /\
 (ys=[]->Q (.ref a) H)/\(ys≠[]->∀ p,H p=ab->Q (.ref p) (upd H p (.tup (xs++ys))))
theorem Vals.nil_iff(r:Vals xs us):us=[]↔xs=[]:=by
 cases r with
 |nil=>simp
 |cons _ _=>simp
theorem Ax5:OpR X (jQ .Add) (FV X.K):=by
 rw[3];obtain⟨a,b,xs,ys,rfl,rfl,ha,hb,hx,hz,q1,q2⟩:=h;cases rx;cases ry;obtain⟨its,r1,p1,_⟩:=I.tuple ha;obtain⟨j4,r2,p2,_⟩:=I.tuple hb;refine HT.Bbb p1 p2 (λz=>hx (r1.nil_iff.1 z)) (λz=>⟨.ref a,H,I,rfl,q1 (r2.nil_iff.1 z)⟩) (λz=>?_) (by rw[<-r1.length,<-r2.length];exact hz)
 refine⟨.ref s.heap.objs.size,_,I.laid (t':=s.toks) (o:=.tup (xs++ys)) (λb ob q=>cD _ q) (bI _) ?_,rfl,q2 (λw=>z (r2.nil_iff.2 w)) _ (I.hok.fresh (bI _))⟩
 exact⟨by rw[jS];exact hz,_,r1.append r2,A8s.new _ _⟩
end
noncomputable def fg (n:Nat)(i:Int):Option Nat:=if 0<=i then(if i<n then aa i.toNat else ab) else if -(n:Int)<=i then aa (i+n).toNat else ab
def gc {α:Type}(xs:List α)(i:Int):Option α:=(fg xs.length i).bind λj=>xs[j]?
theorem GV{i:Int}{j:Nat}(h:fg n i=aa j):seqIndex? i n=aa j/\j<n /\ -(n:Int)<=i/\i<n:=by
 unfold fg at h;by_cases h0:0<=i
 .rw[if_pos h0] at h;by_cases h1:i<n
  .rw[if_pos h1] at h;have e:i.toNat=j:=gQ h;exact⟨by rw[seqIndex_of h0 h1,e],(),(),h1⟩
  all_goals grind
 .rw[if_neg h0] at h;by_cases h1 : -(n:Int)<=i
  .rw[if_pos h1] at h;have e:(i+n).toNat=j:=gQ h;exact⟨by rw[seqIndex_neg () h1,e],(),h1,()⟩
  all_goals grind
theorem HV {α:Type}{xs:List α}{i:Int}{v:α}(h:gc xs i=aa v):∃ j,seqIndex? i xs.length=aa j/\xs[j]?=aa v/\j<xs.length /\ -(xs.length:Int)<=i/\i<xs.length:=by
 unfold gc at h;cases e:fg xs.length i with
 |none=>rw[e] at h;cases h
 |some j=>
  rw[e] at h;obtain⟨h1,h2,h3,h4⟩:=GV e
  grind
theorem BE {α:Type}{xs:List α}{j:Nat}{v:α}(h:xs[j]?=aa v):gc xs (j:Int)=aa v:=by
 have hj:j<xs.length:=(cW.1 h).1;have e:fg xs.length (j:Int)=aa j:=by
  unfold fg;rw[if_pos (),if_pos ()];simp
 unfold gc;rw[e];exact h
def xP (b:aR):Prop:=∀ o i,MI b ag o i=operate [o,i] (pV o i)
def IxR (X:Cx)(r:R2):Prop:=
 ∀ (value cu:aR) (ad:List (aD×bK)) (s:aI) (Z:St) (H:Hp) (x y:V) (v u:aF) (Q:VK),Inv X ad Z H s->RelV x v->RelV y u->r x y H Q ->
  MI cu ag v u=operate [v,u] (pV v u)->aW (aY X.prog X.w) X.A (subscriptTail value cu v u) (EP X ad Z Q) X.xe s
def MtR (X:Cx)(id:String)(r:V->List V->Hp->VK->Prop):Prop:=
 ∀ (ad:List (aD×bK)) (s:aI) (Z:St) (H:Hp) (x:V) (xs:List V) (v:aF) (us:List aF) (Q:VK),Inv X ad Z H s->RelV x v->Vals xs us->r x xs H Q ->
  aW (aY X.prog X.w) X.A (call (.builtin id) (v::us)) (EP X ad Z Q) X.xe s
section
variable {a b:aR}{ta tb:TE}{pos:bL}
theorem IxR.or {r r':R2}(h:IxR X r)(h':IxR X r'):IxR X (λx y H Q=>r x y H Q\/r' x y H Q):=by
 intro value cu ad s Z H x y v u Q I rx ry q hs;rcases q with q|q
 .exact h value cu ad s Z H x y v u Q I rx ry q hs
 .exact h' value cu ad s Z H x y v u Q I rx ry q hs
theorem MtR.or {id:String}{r r':V->List V->Hp->VK->Prop}(h:MtR X id r)(h':MtR X id r'):MtR X id (λx xs H Q=>r x xs H Q\/r' x xs H Q):=by
 intro ad s Z H x xs v us Q I rx rs q;rcases q with q|q
 .exact h ad s Z H x xs v us Q I rx rs q
 .exact h' ad s Z H x xs v us Q I rx rs q
theorem DD {r:R2}(hr:IxR X r)(ha:PE X a ta)(hb:PE X b tb)(hs:xP b):PE X (.Subscript a b pos) (qm r ta tb):=by
 rw[9];exact Subscript_ (FK ha hb I h λv u s2 x y H2 I2 rx ry q=>hr a b ad s2 Z H2 x y v u Q I2 rx ry q (hs _ _))
def OG (K:aM):R2:=λx y H Q=>∃ p xs i v,x=.ref p/\y=.int i/\SqL K H p xs/\gc xs i=aa v/\Q v H
def ON (K:aM):R2:=λx y H Q=>∃ p xs i v,x=.ref p/\y=.int i/\SqT K H p xs/\gc xs i=aa v/\Q v H
def OO:R2:=λx y H Q=>∃ z i c,x=.str z/\y=.int i/\z.length<=sizeLine/\gc z.cps.toList i=aa c/\Q (.str ⟨#[c]⟩) H
theorem Ba8:IxR X (OG X.K):=by
 intro value cu ad s Z H x y v u Q I rx ry h hs;obtain⟨p,xs,i,z,rfl,rfl,hq,he,q⟩:=h;cases rx;obtain⟨t,rfl⟩:=ry;obtain⟨its,r,pl,hz⟩:=I.list hq;obtain⟨j,h1,h2,h3,h4,h5⟩:=HV he;obtain⟨w,ew,gm⟩:=r.get h2;have hl:=r.length;have hn:=qK;have fin:EP X ad Z Q w s:=⟨z,H,I,gm,q⟩;by_cases h0:0<=i
 .have hj:i.toNat=j:=by
   rw[seqIndex_of h0 h5] at h1;exact gQ h1
  exact item_listR pl.isList h0 () (by rw[hj];simpa using ew) fin hs
 .have hj:(i+(its.toArray.size:Int)).toNat=j:=by
   rw[seqIndex_neg () h4] at h1
   grind
  exact subscriptTail_builtinR (x:=w) pl.isList.typeIs slot_list_getitem.lookup
   (wpAny_getItem_list_neg (Q:=λr s'=>r=w/\EP X ad Z Q r s') pl.isList () (by rw[dX]<;>lia) () (by rw[hj];simpa using ew) ⟨rfl,fin⟩) hs
theorem Bfb:IxR X (ON X.K):=by
 intro value cu ad s Z H x y v u Q I rx ry h hs;obtain⟨p,xs,i,z,rfl,rfl,hq,he,q⟩:=h;cases rx;obtain⟨t,rfl⟩:=ry;obtain⟨its,r,pl,hz⟩:=I.tuple hq;obtain⟨j,h1,h2,h3,h4,h5⟩:=HV he;obtain⟨w,ew,gm⟩:=r.get h2;have hl:=r.length;have hn:=qK;have fin:EP X ad Z Q w s:=⟨z,H,I,gm,q⟩;exact subscriptTail_builtinR (x:=w) pl.typeIs MJ.lookup
  (getItem_tuple (j:=j) (Q:=λr s'=>r=w/\EP X ad Z Q r s') pl () () (by rw[dX,<-hl];exact h1) (by simpa using ew) ⟨rfl,fin⟩) hs
theorem Mq:IxR X OO:=by
 intro value cu ad s Z H x y v u Q I rx ry h hs;obtain⟨z,i,c,rfl,rfl,hz,he,q⟩:=h;obtain⟨t,rfl⟩:=rx;obtain⟨t',rfl⟩:=ry;obtain⟨j,h1,h2,h3,h4,h5⟩:=HV he;have hl:z.cps.toList.length=z.length:=by simp[Str.length]
 rw[hl] at h1 h4 h5;have hn:=qK;exact tail_any (typeIs_str s z t) slot_str_getitem.lookup (getItem_str (c:=c) (by
  have e1:decide (i < -(2^63:Int))=ag:=decide_eq_false ()
  have e2:decide (i ≥ 2^63)=ag:=decide_eq_false ()
  rw[e1,e2,Bool.or_false]) (by rw[h1];simpa using h2) ⟨.str ⟨#[c]⟩,H,I.tok _,⟨_,rfl⟩,q⟩) hs
def xo (K:aM):R2:=λx y H Q=>OG K x y H Q\/ON K x y H Q\/OO x y H Q
theorem AQ:IxR X (xo X.K):=Ba8.or (Bfb.or Mq)
theorem Rw (its:List aF)(n j:Nat)(u:aF):iD (·.setIfInBounds j u) { cls:=.type "list",data:=.seq its.toArray n }={ cls:=.type "list",data:=.seq (its.set j u).toArray n }:=by
 simp[iD]
theorem Inv.lst{p:aD}(I:Inv X ad Z H s)(h:H p=aa (.lst xs)) :
  ∃ (its:List aF) (n:Nat),Vals xs its/\s.heap.get? p=aa { cls:=.type "list",data:=.seq its.toArray n }/\xs.length<=sizeLine:=by
 obtain⟨z,its,n,r,e⟩:=I.hok p _ h;exact⟨its,n,r,e,z⟩
theorem Inv.lstUpd{p:aD}{ys:List V}{its':List aF}{n':Nat}{f:bK->bK}(I:Inv X ad Z H s)(h:H p=aa (.lst xs))
  (ho:s.heap.get? p=aa { cls:=.type "list",data:=.seq its.toArray n }) (hf:f { cls:=.type "list",data:=.seq its.toArray n }={ cls:=.type "list",data:=.seq its'.toArray n' }) (r:Vals ys its') (hz:ys.length<=sizeLine) (t:Nat) :
  Inv X ad Z (upd H p (.lst ys)) { s with heap:=s.heap.update p f,toks:=t }:=by
 have e:(s.heap.update p f).get? p=aa { cls:=.type "list",data:=.seq its'.toArray n' }:=by
  rw[zU f ho (by rw[hf]<;>rfl),hf]
 refine I.write (x:=p) (e:=p) (by rw[h];trivial) (.inl rfl) (λb u hb q=>(ER _ _ (kF hb)).trans q) ⟨_,e⟩ ?_
 exact⟨hz,its',n',r,e⟩
def Gz:V->V->V->Hp->(Hp->Prop)->Prop:=λo i v H Q=>∃ p xs k j,o=.ref p/\i=.int k/\H p=aa (.lst xs)/\fg xs.length k=aa j/\Q (upd H p (.lst (xs.set j v)))
theorem set_list:OL X Gz:=by
 intro ad s Z H o i v ov iv u Q I ro ri rv h;obtain⟨p,xs,k,j,rfl,rfl,hp,hj,q⟩:=h;cases ro;obtain⟨t,rfl⟩:=ri;obtain⟨its,n,r,ho,hz⟩:=I.lst hp;obtain⟨h1,h2,h3,h4⟩:=GV hj;have hl:=r.length;have hn:=qK;have I':Inv X ad Z (upd H p (.lst (xs.set j v))) { s with heap:=s.heap.update p (iD (·.setIfInBounds j u)) }:=
  I.lstUpd hp ho (Rw its n j u) (r.set rv j) (by rw[rG];exact hz) s.toks
 by_cases h0:0<=k
 .have hk:k.toNat=j:=by
   rw[seqIndex_of h0 h4] at h1;exact gQ h1
  exact PySem.W.ki_setAt ho h0 () (by rw[dX,<-hl];exact h4) (by rw[hk];exact⟨_,I',q⟩)
 .have hk:(k+(its.toArray.size:Int)).toNat=j:=by
   rw[seqIndex_neg () h3] at h1
   grind
  exact PySem.W.ki_setBack ho () (by rw[dX,<-hl];exact h3) () (by rw[hk];exact⟨_,I',q⟩)
theorem Uk (lo hi:Option Int)(n:Nat):(vP lo hi ab n).1=((HT.sIx n 0 lo:Nat):Int)/\(vP lo hi ab n).2.1=((HT.sIx n n hi:Nat):Int)/\(vP lo hi ab n).2.2=1:=by
 refine⟨?_,?_,rfl⟩
 .cases lo with
  |none=>simp[vP,HT.sIx]
  |some i=>
   simp only[vP,HT.sIx,Option.getD_none,show(1:Int) > 0 by decide,if_true]
   grind
 .cases hi with
  |none=>simp[vP,HT.sIx]
  |some i=>
   simp only[vP,HT.sIx,Option.getD_none,show(1:Int) > 0 by decide,if_true]
   grind
theorem Uo (its:List aF)(lo hi:Option Int):slicePick its.toArray lo hi ab=((its.drop (HT.sIx its.length 0 lo)).take (HT.sIx its.length its.length hi-HT.sIx its.length 0 lo)).toArray:=by
 obtain⟨h1,h2,h3⟩:=Uk lo hi its.toArray.size;unfold slicePick;rw[h1,h2,h3];simp only[sliceRange_one,pick_run,dX]<;>rfl
def Ft (K:aM):V->Option Int->Option Int->Hp->VK->Prop:=λx lo hi H Q=>∃ a xs,x=.ref a/\SqL K H a xs/\∀ p,H p=ab->Q (.ref p) (upd H p (.lst (pS xs lo hi)))
theorem Mr:SlR X (Ft X.K):=by
 intro ad s Z H x v vl vu lo hi sl Q I rx hs pl pu h;obtain⟨a,xs,rfl,hx,q⟩:=h;cases rx;obtain⟨its,r,ht,hz⟩:=I.list hx;have bj:=r.length;refine⟨"list",_,slot_list_getitem.lookup,ht.isList.typeIs,?_⟩;refine wpAny_getItem_list_slice ht.isList hs pl pu .none (by simp) ?_ (by rw[dX]<;>lia)
 rw[Uo,<-bj];refine⟨.ref s.heap.objs.size,_,I.laid (t':=s.toks) (o:=.lst (pS xs lo hi)) (λb ob q=>cD _ q) (bI _) ?_,rfl,q _ (I.hok.fresh (bI _))⟩
 exact⟨cL (YN xs lo hi) hz,_,0,(r.drop (HT.sIx xs.length 0 lo)).take (HT.sIx xs.length xs.length hi-HT.sIx xs.length 0 lo),dM _ rfl⟩
theorem Ug:OpR X (iB .NotIn) (λx y H Q=>∃ i j,x=.str i/\y=.str j/\Q (.bl (!(!(NT j i 0 j.length 1).isEmpty))) H):=by
 rw[3];obtain⟨i,j,rfl,rfl,q⟩:=h;obtain⟨t,rfl⟩:=rx;obtain⟨t',rfl⟩:=ry;exact notIn_str ⟨.bl _,H,I,rfl,q⟩
theorem Aqo:Adc X (.builtin "len") (λxs H Q=>∃ p ys,xs=[.ref p]/\(SqL X.K H p ys\/SqT X.K H p ys)/\Q (.int ys.length) H):=by
 rw[5];obtain⟨p,ys,rfl,hq,q⟩:=h;obtain⟨u,rfl,rx⟩:=vals1 r;cases rx;have hn:=qK;rcases hq with hq|hq
 .obtain⟨its,r',pl,hz⟩:=I.list hq;have bj:=r'.length;exact Calls.call_len_list pl.isList (by simp only[dX]<;>lia) ⟨.int ys.length,H,I.tok _,⟨s.toks+1,by rw[dX,bj]⟩,q⟩
 .obtain⟨its,r',pl,hz⟩:=I.tuple hq;have bj:=r'.length;exact len_tuple pl (by simp only[dX]<;>lia) ⟨.int ys.length,H,I.tok _,⟨s.toks+1,by rw[dX,bj]⟩,q⟩
theorem Apf:Adc X (.builtin "len") (λxs H Q=>∃ z,xs=[.str z]/\z.length<=sizeLine/\Q (.int z.length) H):=by
 rw[5];obtain⟨z,rfl,hz,q⟩:=h;obtain⟨u,rfl,t,rfl⟩:=vals1 r;have hn:=qK;exact len_str () ⟨.int z.length,H,I.tok _,⟨_,rfl⟩,q⟩
theorem Adc.or {f:aF}{r r':List V->Hp->VK->Prop}(h:Adc X f r)(h':Adc X f r'):Adc X f (λxs H Q=>r xs H Q\/r' xs H Q):=by
 intro ad s Z H xs us Q I rs q;rcases q with q|q
 .exact h ad s Z H xs us Q I rs q
 .exact h' ad s Z H xs us Q I rs q
theorem Aqz:Adc X (.type "list") (λxs H Q=>∃ p ys,xs=[.ref p]/\(SqL X.K H p ys\/SqT X.K H p ys)/\∀ l,H l=ab->Q (.ref l) (upd H l (.lst ys))):=by
 rw[5];obtain⟨p,ys,rfl,hq,q⟩:=h;obtain⟨u,rfl,rx⟩:=vals1 r;cases rx;have fin:∀ (its:List aF),Vals ys its->ys.length<=sizeLine->∀ (h':aU) (c':Nat),(∀ b o',s.heap.get? b=aa o'->h'.get? b=aa o') ->
   h'.get? s.heap.objs.size=aa { cls:=.type "list",dict:=ab,data:=.seq its.toArray c',slots:=#[] }->EP X ad Z Q (.ref s.heap.objs.size) { s with heap:=h' }:=λits r' hz h' c' kp e=>
  ⟨.ref s.heap.objs.size,_,I.laid (t':=s.toks) kp (bI _) (show Acz X.prog X.w _ h' _ (.lst ys) from⟨hz,its,c',r',e⟩),rfl,q _ (I.hok.fresh (bI _))⟩
 rcases hq with hq|hq
 .obtain⟨its,r',pl,hz⟩:=I.list hq;have bj:=r'.length;obtain⟨o,ho,hc,n,hd⟩:=pl.isList;exact call_list_seq p (.inl rfl) ho hc hd (λh' c' kp e=>fin its r' hz h' c' kp e) (by simp only[dX]<;>lia)
 .obtain⟨its,r',pl,hz⟩:=I.tuple hq;have bj:=r'.length;obtain⟨o,ho,hc,n,hd⟩:=pl;exact call_list_seq p (.inr rfl) ho hc hd (λh' c' kp e=>fin its r' hz h' c' kp e) (by simp only[dX]<;>lia)
theorem Uv:Adc X (.type "tuple") (λxs H Q=>∃ p ys,xs=[.ref p]/\((SqL X.K H p ys/\∀ l,H l=ab->Q (.ref l) (upd H l (.tup ys)))\/(SqT X.K H p ys/\Q (.ref p) H))):=by
 rw[5];obtain⟨p,ys,rfl,h⟩:=h;obtain⟨u,rfl,rx⟩:=vals1 r;cases rx;rcases h with⟨hq,q⟩|⟨hq,q⟩
 .obtain⟨its,r',pl,hz⟩:=I.list hq;have bj:=r'.length;refine call_tuple_list pl.isList (λh' kp=>?_) (by simp only[dX]<;>lia)
  have I1:Inv X ad Z H { s with heap:=h' }:=I.kept (t':=s.toks) kp;have I2:Inv X ad Z (upd H h'.objs.size (.tup ys)) { s with heap:=h'.push { cls:=.type "tuple",data:=.seq its.toArray } }:=
   I1.laid (t':=s.toks) (λb o e=>cD _ e) (bI _) (show Acz X.prog X.w _ _ _ (.tup ys) from⟨hz,its,r',A8s.new _ _⟩)
  exact⟨.ref h'.objs.size,_,I2,rfl,q _ (I1.hok.fresh (bI _))⟩
 .obtain⟨its,r',pl,hz⟩:=I.tuple hq;exact call_tuple_same pl ⟨.ref p,H,I,rfl,q⟩
def xr (K:aM)(T:String)(x:V)(H:Hp):Prop:=match x with
 |.str _=>T = "str"
 |.int _=>T = "int"
 |.ref p=>(T = "list" /\ ∃ xs,SqL K H p xs)\/(T = "tuple" /\ ((∃ o,K.lookup p=aa o/\o.cls=.type "tuple" /\ o.dict=ab)\/∃ xs,H p=aa (.tup xs))) \/
   (T = "dict" /\ ((∃ ep kvs,H p=aa (.dK ep kvs))\/∃ kvs,∃ ep,H p=aa (.dT ep kvs)))\/(T = "set" /\ ∃ S n,H p=aa (.set S n))
 |_=>False
theorem ZS{T:String}{x:V}{v:aF}(I:Inv X ad Z H s)(r:RelV x v)(ty:xr X.K T x H) :
  s.TypeIs v T/\∀ a,v=.ref a->∃ ob,s.heap.get? a=aa ob/\ob.dict=ab:=by
 cases x with
 |str z=>
  obtain⟨t,rfl⟩:=r;cases(show T = "str" from ty)
  exact⟨typeIs_str s z t,λ_ e=>nomatch e⟩
 |int i=>
  obtain⟨t,rfl⟩:=r;cases(show T = "int" from ty)
  exact⟨typeIs_int s i t,λ_ e=>nomatch e⟩
 |ref p=>
  cases r;rcases ty with⟨rfl,xs,hq⟩|⟨rfl,⟨o,hk,hc,hd⟩|⟨xs,hx⟩⟩|⟨rfl,hk⟩|⟨rfl,S,n,hk⟩
  .obtain⟨its,_,pl,_⟩:=I.list hq;refine⟨pl.isList.typeIs,λa e=>?_⟩
   cases e;obtain⟨o,n,e,c,hd,_⟩:=pl;exact⟨o,e,hd⟩
  .refine⟨⟨o,I.kIn p o hk,hc⟩,λa e=>?_⟩
   cases e;exact⟨o,I.kIn _ o hk,hd⟩
  .obtain⟨_,_,_,⟨o,e,c,_⟩,n⟩:=(show Acz X.prog X.w H s.heap p (.tup xs) from I.hok p _ hx)
   refine⟨⟨o,e,c⟩,λa e=>?_⟩
   cases e;exact n
  .have z:∃ o,s.heap.get? p=aa o/\o.ExactDict:=by
    rcases hk with⟨ep,kvs,hk⟩|⟨kvs,ep,hk⟩
    .obtain⟨_,_,_,_,o,_,e,ex,_⟩:=I.hok p _ hk;exact⟨o,e,ex⟩
    .obtain⟨_,_,_,_,o,_,e,ex,_⟩:=I.hok p _ hk;exact⟨o,e,ex⟩
   obtain⟨o,e,ex⟩:=z;refine⟨⟨o,e,ex.1⟩,λa e2=>?_⟩
   cases e2;exact⟨o,e,ex.2.1⟩
  .obtain⟨o,_,_,_,e,ex,_⟩:=I.hok p _ hk;refine⟨⟨o,e,ex.1⟩,λa e2=>?_⟩
   cases e2;exact⟨o,e,ex.2.1⟩
 |_=>exact mX ty
def Gj (K:aM)(T:String)(r:V->List V->Hp->VK->Prop)(to:TE):TE:=λZ H Q=>to Z H λx H1=>xr K T x H1/\r x [] H1 Q
def zh (K:aM)(T:String)(r:V->List V->Hp->VK->Prop)(to:TE)(t:TA):TE:=λZ H Q=>to Z H λx H1=>xr K T x H1/\t Z H1 λxs H2=>r x xs H2 Q
variable {o e:aR}{es:List aR}{to:TE}{t:TA}{name:aE}{aq av:bL}{T id:String}{r:V->List V->Hp->VK->Prop}
theorem Ki (pa:PlainAttrs T)(slot:Slot T name id)(vm:typeOf (.builtin id)=pure (.type "method_descriptor"))(hm:MtR X id r)(ho:PE X o to)
  (fu:vT o name X.env (bW o X.env)=bW o X.env:=by rfl) (fw:(aq.endLine==av.line)=af:=by rfl):PE X (.Call (.Attribute o name aq) [] [] av) (Gj X.K T r to):=by
 rw[9];refine wpAny_Call_method0_late fu fw (bf (ho ad s Z H _ I h) λv s1 gh=>?_)
 obtain⟨x,H1,I1,r1,ty,q1⟩:=gh;obtain⟨h1,h2⟩:=ZS I1 r1 ty;exact⟨T,id,pa,slot,vm,h1,h2,Eu rfl (PySem.evalArgs_none (hm ad s1 Z H1 x [] v [] Q I1 r1 .nil q1))⟩
structure Bm (X:Cx)(o e:aR)(es:List aR)(name:aE)(aq av:bL):Prop where
 b:vT o name X.env (bW o X.env)=bW o X.env
 f:((iQ av (cA (e::es) X.env)).all (λx=>!x.1)&&(backToKw av (keywordEach [] X.env)).all (λx=>x.1.isSome)&&decide ((e::es).length+([]:List Keyword).length+(if ([]:List Keyword).isEmpty then 0 else 1)<30))=af
 l:(aq.endLine==av.line)=af
 s:cA (e::es) X.env=(ag,bW e X.env)::cA es X.env
 p:(iQ av (cA es X.env)).any (·.1)=ag
theorem lG (pa:PlainAttrs T)(slot:Slot T name id)(vm:typeOf (.builtin id)=pure (.type "method_descriptor"))(hm:MtR X id r)(ho:PE X o to)(ha:PA X (e::es) t)
  (q5:Bm X o e es name aq av:=by exact⟨rfl,rfl,rfl,rfl,rfl⟩) :
  PE X (.Call (.Attribute o name aq) (e::es) [] av) (zh X.K T r to t):=by
 rw[9];refine wpAny_Call_method_late q5.b q5.f q5.l rfl (bf (ho ad s Z H _ I h) λv s1 gh=>?_)
 obtain⟨x,H1,I1,r1,ty,q1⟩:=gh;obtain⟨h1,h2⟩:=ZS I1 r1 ty;refine⟨T,id,pa,slot,vm,h1,h2,?_⟩;have hA:=ha av ad s1 Z H1 _ I1 q1;rw[q5.s] at hA ⊢;refine Eu (by show(ag||(iQ av (cA es X.env)).any (·.1))=ag;rw[q5.p]<;>rfl) (Calls.evalArgs_plain ?_)
 exact bf hA λus s2 ⟨vs,H2,I2,r2,q2⟩=>hm ad s2 Z H2 x vs v us Q I2 r1 r2 q2
end
def qd (X:Cx)(id:String)(r:V->List V->Hp->VK->Prop):Prop:=
 ∀ (ad:List (aD×bK)) (s:aI) (Z:St) (H:Hp) (x:V) (xs:List V) (v:aF) (us:List aF) (Q:VK),Inv X ad Z H s->RelV x v->Vals xs us->r x xs H Q ->
  aW (aY X.prog X.w) X.A (call (.builtin id) (v::us)) (EP X ad Z Q) X.xe s
theorem Vals.one:∀ {x:V} {us:List aF},Vals [x] us->∃ u,us=[u]/\RelV x u:=by
 intro x us h;cases h with
 |cons r t=>cases t;exact⟨_,rfl,r⟩
theorem Vals.two:∀ {x y:V} {us:List aF},Vals [x,y] us->∃ u v,us=[u,v]/\RelV x u/\RelV y v
 |_,_,_,.cons r (.cons q .nil)=>⟨_,_,rfl,r,q⟩
theorem Vals.zero:∀ {us:List aF},Vals [] us->us=[]
 |_,.nil=>rfl
theorem Vals.dropLast(h:Vals xs us):Vals xs.dropLast us.dropLast:=by
 induction h with
 |nil=>exact .nil
 |cons r t ih=>
  cases t with
  |nil=>exact .nil
  |cons q t'=>exact .cons r ih
theorem Vals.eraseIdx:∀ {xs:List V} {us:List aF} (i:Nat),Vals xs us->Vals (xs.eraseIdx i) (us.eraseIdx i)
 |_,_,_,.nil=>.nil
 |_,_,0,.cons _ t=>t
 |_,_,i+1,.cons r t=>.cons r (Vals.eraseIdx i t)
theorem Vals.reverse(h:Vals xs us):Vals xs.reverse us.reverse:=by
 induction h with
 |nil=>exact .nil
 |cons r t ih=>rw[List.reverse_cons,List.reverse_cons];exact Vals.append ih (.cons r .nil)
theorem Se {α:Type}(l:List α):l.eraseIdx (l.length-1)=l.dropLast:=by
 induction l with
 |nil=>rfl
 |cons a r ih=>
  cases r with
  |nil=>rfl
  |cons b r=>
   have e:(a::b::r).length-1=((b::r).length-1)+1:=by
    have h1:(a::b::r).length=r.length+2:=rfl;have h2:(b::r).length=r.length+1:=rfl
    lia
   rw[e,qA,ih]
   all_goals rfl
theorem UM {α:Type}:∀ (l:List α) (i:Nat),(l.eraseIdx i).length<=l.length
 |[],_=>bI _
 |_::_,0=>zP _
 |_::r,i+1=>Nat.succ_le_succ (UM r i)
section
variable {l b:aD}{ys zs:List V}
theorem Inv.lset {its':List aF}{f:Array aF->Array aF}{t':Nat}(I:Inv X ad Z H s)(hH:H l=aa (.lst xs))
  (e:s.heap.get? l=aa { cls:=.type "list",data:=.seq its.toArray n }) (hf:f its.toArray=its'.toArray) (hv:Vals ys its') (hz:ys.length<=sizeLine) :
  Inv X ad Z (upd H l (.lst ys)) { s with heap:=s.heap.update l (iD f),toks:=t' }:=by
 have q:=PySem.IsL.update e f;rw[hf] at q;refine I.write (x:=l) (e:=l) (by rw[hH];exact trivial) (.inl rfl) (λb' u hb hu=>(ER s.heap (iD f) (kF hb)).trans hu) ⟨_,q⟩ ?_
 exact⟨hz,its',_,hv,q⟩
theorem Inv.lnew{t':Nat}(I:Inv X ad Z H s)(hv:Vals ys its)(hz:ys.length<=sizeLine) :
  Inv X ad Z (upd H s.heap.objs.size (.lst ys)) { s with heap:=s.heap.push { cls:=.type "list",data:=.seq its.toArray },toks:=t' }:=
 I.laid (λ_ _ q=>cD _ q) (bI _) ⟨hz,its,0,hv,dM _ rfl⟩
theorem Inv.fresh (I:Inv X ad Z H s):H s.heap.objs.size=ab:=I.hok.fresh (bI _)
theorem Inv.lstM (I:Inv X ad Z H s)(hH:H l=aa (.lst xs)):xs.length<=sizeLine/\∃ (its:List aF) (n:Nat),Vals xs its/\xs.length=its.length/\s.heap.get? l=aa { cls:=.type "list",data:=.seq its.toArray n }:=by
 obtain⟨z,its,n,r,e⟩:=I.hok l _ hH;exact⟨z,its,n,r,r.length,e⟩
end
def Ot:V->List V->Hp->VK->Prop:=λx vs H Q=>∃ l xs y,x=.ref l/\vs=[y]/\H l=aa (.lst xs)/\xs.length<sizeLine/\Q .non (upd H l (.lst (xs++[y])))
theorem yF:qd X "list.append" Ot:=by
 intro ad s Z H x vs v us Q I rx rv h;obtain⟨l,xs,y,rfl,rfl,hH,hz,q⟩:=h;cases rx;obtain⟨u,rfl,ru⟩:=rv.one;obtain⟨z,its,n,r,hl,e⟩:=I.lstM hH;refine zJ F.slot_list_append ⟨_,e,rfl⟩ F.entry_list_append (F.args_list_append_2 _ _) (PySem.list_append l its.toArray n u (by rw[dX];lia)) ⟨e,?_⟩
 refine⟨.non,_,I.lset (its':=its++[u]) hH e (by simp) (r.append (.cons ru .nil)) ?_,rfl,q⟩
 grind
def Gb:V->List V->Hp->VK->Prop:=λx vs H Q=>∃ l xs y,x=.ref l/\vs=[]/\H l=aa (.lst xs)/\xs[xs.length-1]?=aa y/\Q y (upd H l (.lst xs.dropLast))
theorem Jf:qd X "list.pop" Gb:=by
 intro ad s Z H x vs v us Q I rx rv h;obtain⟨l,xs,y,rfl,rfl,hH,hy,q⟩:=h;cases rx;have zp:=rv.zero;subst zp;obtain⟨z,its,n,r,hl,e⟩:=I.lstM hH;obtain⟨u,hu,ru⟩:=r.get hy;have jg:its.toArray[its.toArray.size-1]?=aa u:=by
  show its.toArray[its.length-1]?=aa u;rw[<-EW,<-hl];exact hu
 refine zJ F.slot_list_pop ⟨_,e,rfl⟩ F.entry_list_pop (F.args_list_pop_1 _) (MeetsSeq.list_pop_last l its.toArray n u jg (by rw[dX];lia)) ⟨e,?_⟩
 refine⟨y,_,I.lset (its':=its.dropLast) hH e ?_ r.dropLast ?_,ru,q⟩
 .show its.toArray.eraseIdxIfInBounds (its.toArray.size-1)=its.dropLast.toArray;rw[dX,c8,Se]
 .rw[List.length_dropLast]
  lia
def Ko:V->List V->Hp->VK->Prop:=λx vs H Q=>∃ l xs i k y,x=.ref l/\vs=[.int i]/\H l=aa (.lst xs) /\ -(2^63)<=i/\i<2^63/\seqIndex? i xs.length=aa k/\xs[k]?=aa y/\Q y (upd H l (.lst (xs.eraseIdx k)))
theorem Xg:qd X "list.pop" Ko:=by
 intro ad s Z H x vs v us Q I rx rv h;obtain⟨l,xs,i,k,y,rfl,rfl,hH,h1,h2,hk,hy,q⟩:=h;cases rx;obtain⟨u,rfl,ru⟩:=rv.one;obtain⟨t,rfl⟩:=ru;obtain⟨z,its,n,r,hl,e⟩:=I.lstM hH;obtain⟨w,hw,gm⟩:=r.get hy;refine zJ F.slot_list_pop ⟨_,e,rfl⟩ F.entry_list_pop (F.args_list_pop_2 _ _)
  (MeetsSeq.list_pop_at l its.toArray n i t k w (fitsIndex_both h1 h2) (by rw[dX,<-hl];exact hk) (by rw[<-EW];exact hw) (by rw[dX];lia)) ⟨e,?_⟩
 refine⟨y,_,I.lset (its':=its.eraseIdx k) hH e ?_ (r.eraseIdx k) ?_,gm,q⟩
 all_goals grind
end L2
namespace Att
open PySem PySem.W PySem.Calls PyProof.Rows
theorem Vb {P:Params}{h:aU}:∀ (ns:List Int) (vs:List aF),WellAll P h vs (ns.map WData.int)->IntsAre vs ns:=by
 intro ns;induction ns with
 |nil=>
  intro vs w;rw[List.map_nil] at w;cases w;exact .nil
 |cons n ns ih=>
  intro vs w;rw[cT] at w;cases w with
  |cons a b=>
   cases a;exact .cons _ _ (ih _ b)
theorem Zq {l:OpenLaw}{n:Nat}(hn:l.most=aa n){P:Params}{h:aU}{args:List WData}{vals:List aF}
  (gb:l.row.toRowW.claim.pre args=af) (vo:WellAll P h vals args) :
  ∃ a vs ns,vals=[fR a]/\args=[WData.list (ns.map WData.int)]/\h.get? a=aa { cls:=.type "list",data:=.seq vs.toArray }/\IntsAre vs ns/\ns.length<=n:=by
 have zq:WShape.hasAll [] args [.list .int]=af:=(pre_splitW gb).1;have hc:l.pre.holds [] { args:=args }=af:=(pre_splitW gb).2;obtain⟨d,r,rfl,h1,h2⟩:=hasAllW_cons zq;obtain rfl:=hasAllW_nil h2;obtain⟨xs,rfl,h3⟩:=hasW_list h1;obtain⟨ns,rfl⟩:=items_int h3;have bj:ns.length<=n:=by
  unfold OpenLaw.pre at hc;have h4:(WTm.not (.lt (.lit (.int (n:Int))) (.len (.arg 0)))).holds [] { args:=[.list (ns.map .int)] }=af:=by
   have h4:=(holds_andW hc).1;rw[hn] at h4;exact h4
  have h5:=condW_of h4 (w_not (w_lt w_lit (w_len_list (w_arg rfl))))
  grind
 cases vo with
 |cons w1 w2=>
  cases w2;cases w1 with
  |list ho dz=>exact⟨_,_,ns,rfl,rfl,ho,Vb ns _ dz,bj⟩
theorem Qi (l:OpenLaw)(args:List WData):l.row.toRowW.claim.post args (.bool af) args=af:=
 postW_of (r:=l.row.toRowW) (X:=(af==af))
  (show WShape.has [] (.bool af) .bool=af by first|rfl|decide|simp[WShape.has,WShape.arms,WShape.armsAll])
  (show(WTm.eq .res (.lit (.bool af))).value [] { args:=args,res:=aa (.bool af),after:=args }=aa (.bool (af==af)) from w_eq_bool (w_res rfl) w_lit) rfl
end Att
namespace L2
open PySem PySem.Spec PyProof.Rows
variable {w:bE}{K:aM}{mg:aE->Option aF}{a f:aD}{fd:kI}{x qual y:aE}{sp:Sp}{X:Cx}{st:eO}{N ps:List aE}{A:cE}{H H1 H' B' B0 H0:Hp}{xs:List V}{f9 bg c b tg e:aR}{fj es:List aR}{pos px cv p p2:bL}{env:dP}{n i j n0:Nat}{sc:fZ}{v:V}{fp:Nat->List aD}{s:aI}{Q:VK}{ad:List (aD×bK)}{Z:St}{cap:List (Option Nat)}{o:HO}{ds:List aA}{m d:aA}{Y:List (Option aA)}{g:aA->aA->Option aA}{r:R2}{T:String}{P0:aD->Prop}{kds:List (aA×aA)}
theorem UD:∀ {vs:List aF} {ns:List Int},IntsAre vs ns->Vals (ns.map V.int) vs
 |_,_,.nil=>.nil
 |_,_,.cons n t h=>.cons ⟨t,rfl⟩ (UD h)
def Only (H:Hp):Prop:=∀ b,H b=ab\/∃ o xs,H b=aa (.frz o (.lst xs))
theorem Vm {P:bP}{mb:aE->Option aF}{CX:jv}{k:Nat}{fa:aD}{s₁:aI}{vs:List aF}{ns:List Int}
  (KX:K.In s₁.heap) (p7:s₁.heap.Ns jI mg) (hb:s₁.heap.Ns builtinsNs mb) (zr:∀ x:aE,x ≠ "__name__" -> mb x=lV x) (vp:s₁.heap.NoLimit) (hg:s₁.gens = #[])
  (ha:s₁.heap.get? a=aa { cls:=.type "list",data:=.seq vs.toArray }) (hi:IntsAre vs ns) (hl:ns.length<=sizeLine) (hr:Room k vR)
  (F:∀ base:aU,K.In base->base.Ns jI mg->FnOk P w K mg base CX k fa fd [x] sp) (qz:∀ (s:aI) (u:aF),BindsTo s fd ⟨[u],[]⟩ [(x,u)])
  (m7:∀ H:Hp,Only H->SqL K H a (ns.map V.int)->sp [.ref a] H (λv _=>v=.bl af) λ_ _ _=>False)
  (vq:∀ H e s',CX [] H s₁ (λ_ _ _=>False) e s'->False) :
  oK (aY P w) vR (.call (.ref fa) ⟨[.ref a],[]⟩) (λr s'=>r=.ok (.ret (.bool af))/\OldK s₁.heap s'.heap/\s'.os=s₁.os/\rN s'.gens) s₁:=by
 have rv:=UD hi;have vt:=hi.length;have q8:∀ H:Hp,Only H->SqL K H a (ns.map V.int)->HOk P w H s₁.heap->(∀ b,H b≠ab->b=a)->(H a≠ab->K.lookup a=ab) ->
   oK (aY P w) vR (.call (.ref fa) ⟨[.ref a],[]⟩) (λr s'=>r=.ok (.ret (.bool af))/\OldK s₁.heap s'.heap/\s'.os=s₁.os/\rN s'.gens) s₁:=by
  intro H hO hS hok hA hK;have base_of:∀ {b:aD} {o:bK},s₁.heap.get? b=aa o->H b=ab->(pK s₁.heap H).get? b=aa o:=λe n=>Wl e n
  have qv:∀ {b:aD} {o:bK} {es:Array qB} {ep:Nat},s₁.heap.get? b=aa o->o.data=.dict es ep->H b=ab:=λ{b o es ep} e d=>by
   cases q:H b with
   |none=>rfl
   |some u=>
    have e':b=a:=hA b (by rw[q];simp)
    subst e';rw[ha] at e;cases e;have d':Data.seq vs.toArray _=Data.dict es ep:=d;cases d'
  have um:∀ {b:aD} {m:aE->Option aF},s₁.heap.Ns b m->(pK s₁.heap H).Ns b m:=λ{b m} ⟨o,es,ep,e,d,r⟩=>⟨o,es,ep,base_of e (qv e d),d,r⟩
  have ya:K.In (pK s₁.heap H):=λb o e=>base_of (KX b o e) (by
   cases q:H b with
   |none=>rfl
   |some u=>
    have e':b=a:=hA b (by rw[q];simp)
    subst e';rw[hK (by rw[q];simp)] at e;cases e)
  have hM:Mod K mg (pK s₁.heap H):=⟨ya,um p7,⟨mb,um hb,zr⟩,let ⟨mc,h1,h2⟩:=vp;⟨mc,um h1,h2⟩⟩;have e0:Env0 P w K mg (pK s₁.heap H) vR [] s₁ H:=⟨rfl,hM,λb o e=>Ow e,Nat.le_of_eq (Ra _ _),trivial,λb hb=>absurd (show b∈([]:List aD) from hb) (by simp),hok,.of_eq hg⟩
  refine codeAny_mono ((F _ ya (um p7)).run vR [] s₁ H ⟨[.ref a],[]⟩ [.ref a] [.ref a] _ _ hr e0 (qz s₁ (.ref a)) (.cons rfl .nil) (m7 H hO hS)) λr s' h=>?_
  cases r with
  |error e=>exact(vq H e s' h).elim
  |ok fl=>
   cases fl with
   |next=>exact mX h
   |brk=>exact mX h
   |cont=>exact mX h
   |ret u=>
    obtain⟨v,H',os,bare,un,k9,r',q⟩:=h;have q':v=.bl af:=q;subst q';obtain rfl:u=Value.bool af:=r';refine⟨rfl,OldK.of_keep λb o e=>?_,os,bare⟩
    cases q:H b with
    |none=>exact un.keep b o e q (by intro z;exact absurd (show b∈([]:List aD) from z) (by simp)) (by simp)
    |some u=>
     rcases hO b with z|⟨ob,xs,z⟩
     .rw[q] at z;cases z
     .have z2:=un.frzs b ob _ z;obtain⟨e1,_⟩:=hok b _ z;obtain⟨e2,_⟩:=k9 b _ z2;rw[e] at e1;cases e1;exact e2
 cases hk:K.lookup a with
 |some o=>
  have e:=KX a o hk;rw[ha] at e;cases e;refine q8 (λ_=>ab) (λ_=>.inl rfl) (.inr ⟨_,vs.toArray,_,hk,rfl,rfl,rfl,by rw[dX,vt];exact hl,by simpa using rv⟩) (λb u z=>by have z':(ab:Option HO)=aa u:=z;cases z') (λb z=>absurd rfl z) λz=>absurd rfl z
 |none=>
  refine q8 (λb=>if b=a then aa (.frz { cls:=.type "list",data:=.seq vs.toArray } (.lst (ns.map V.int))) else ab) (λb=>?_) (.inl (.inr ⟨{ cls:=.type "list",data:=.seq vs.toArray },if_pos rfl⟩)) (λb u z=>?_) (λb z=>?_) λ_=>hk
  .by_cases hb:b=a
   .exact .inr ⟨_,_,if_pos hb⟩
   .exact .inl (if_neg hb)
  .by_cases hb:b=a
   .have z':=(if_pos hb).symm.trans z;cases z';subst hb;exact⟨ha,by rw[bR];exact hl,vs,_,rv,ha⟩
   all_goals grind
  all_goals grind
def xU (s:eO):Arguments:=match s with
 |.FunctionDef _ a _ _ _ _ _ _ _ _=>a
 |_=>{ posonlyargs:=[],args:=[],vararg:=ab,kwonlyargs:=[],kw_defaults:=[],kwarg:=ab,defaults:=[] }
def nR (s:eO):List eO:=match s with
 |.FunctionDef _ _ b _ _ _ _ _ _ _=>b
 |_=>[]
def dD (s:eO):fZ:=match s with
 |.FunctionDef _ _ _ _ _ _ sc _ _ _=>sc
 |_=>{ kind:=.function,names:=[],isGenerator:=ag,isCoroutine:=ag }
abbrev jl:jv:=λ_ _ _ _ _ _=>False
abbrev E0:XK:=λ_ _ _=>False
theorem Gu:Passes jl X E0:=λ_ _ _ _ _ _ _ h=>h.elim
structure Fun (K:aM)(x qual:aE)(st:eO)(f:aD)(fd:kI):Prop where
 ex:∃ (oc:aF) (od:Option aD) (kV gt pm:aF) (an:Option aD) (cg ct:aF) (m6:Array (Option aF)),
  fd=vW x qual (xU st) (nR st) (dD st) .none kV gt pm an cg ct/\K.lookup f=aa ⟨oc,od,.func fd,m6⟩/\MO K cg qual=af
 kp:EA K (.ref f)=af
section
variable {P:bP}{base:aU}
theorem Fun.ok{k:Nat}(F:Fun K x qual st f fd)(S:FnScope N ps (dD st))(len:∀ vs H Q E,sp vs H Q E->vs.length=ps.length)
  (j2:∀ (cg:aF) (A:cE) (outer:List dP) (s:aI) (H:Hp) (vs:List V) (Q:VK) (E:XK),Room k (A.deeper (envOfC qual (dD st) s.heap.objs.size f cg))->sp vs H Q E ->
   ∃ t,PSs (oB jl P w K mg base N qual (dD st) f cg A outer s H E).nox (nR st) t/\t { nx:=λ_ H'=>Q .non H',rt:=Q } (start N vs) H):FnOk P w K mg base jl (k+1) f fd ps sp:=by
 obtain⟨oc,od,kV,gt,pm,an,cg,ct,m6,rfl,lk,j0⟩:=F.ex;refine Gx lk j0 S len λA outer s H vs Q E hr m7=>?_
 obtain⟨t,h,q⟩:=j2 cg A outer s H vs Q E hr m7;exact⟨t,h.nox,q⟩
theorem Fun.binds(F:Fun K x qual st f fd)
  (h:∀ (kV gt pm:aF) (an:Option aD) (cg ct:aF) (us:List aF),us.length=ps.length->bindArgs (vW x qual (xU st) (nR st) (dD st) .none kV gt pm an cg ct) ⟨us,[]⟩=pure (ps.zip us)):Binds K fd ps []:=by
 obtain⟨oc,od,kV,gt,pm,an,cg,ct,m6,rfl,lk,j0⟩:=F.ex;exact .all (h kV gt pm an cg ct)
theorem Lc{oc:aF}{od an:Option aD}{m6:Array (Option aF)}{kV gt pm cg ct:aF}(l:K.lookup f=aa ⟨oc,od,.func (vW x qual (xU st) (nR st) (dD st) .none kV gt pm an cg ct),m6⟩)
  (c:MO K cg qual=af) (k:EA K (.ref f)=af):Fun K x qual st f (vW x qual (xU st) (nR st) (dD st) .none kV gt pm an cg ct):=⟨⟨oc,od,kV,gt,pm,an,cg,ct,m6,rfl,l,c⟩,k⟩
end
theorem GA{k:Nat}(hr:Room k A):A.units+40<cLine:=EJ (Nat.add_le_add_left (by decide:40<=64) _) hr.units
theorem Rf:Adc X (.builtin "len") (λxs H Q=>∃ a ep kvs,xs=[V.ref a]/\H a=aa (.dK ep kvs)/\Q (.int kvs.length) H):=by
 rw[5];obtain⟨a,ep,kvs,rfl,ha,q⟩:=h;obtain⟨u,rfl,ru⟩:=vals1 r;cases ru;exact Hk I (.inl ha) λt s' I'=>⟨.int kvs.length,H,I',⟨t,rfl⟩,q⟩
theorem oH {A B:Prop}(h:B):if ag=af then A else B:=by
 rw[if_neg mB];exact h
theorem oF {A B:Prop}(h:A):if af=af then A else B:=by
 rw[if_pos rfl];exact h
def Same (H H':Hp):Prop:=∀ b o,H b=aa o->H' b=aa o
theorem Same.refl (H:Hp):Same H H:=λ_ _ h=>h
theorem Same.trans {H2:Hp}(a:Same H H1)(b:Same H1 H2):Same H H2:=λc o h=>b c o (a c o h)
theorem Same.free(e:Same H H'){l:aD}(h:H' l=MS):H l=MS:=by
 cases q:H l with
 |none=>rfl
 |some o=>
  rw[e l o q] at h;cases h
theorem Same.seq(e:Same H H')(h:SqL K H a xs):SqL K H' a xs:=by
 rcases h with(h|⟨o,h⟩)|h
 .exact .inl (.inl (e _ _ h))
 .exact .inl (.inr ⟨o,e _ _ h⟩)
 .exact .inr h
section
variable {prog:bP}{R:Result->aI->Prop}
theorem Tn {ft:aR}{scope:fZ}{it ar:aF}(I:Nat->aI->Prop)
  (turn:∀ n s,I n s->aW (aY prog w) A (oI it) (λr s₁=>match r with
   |none=>R (.ok .next) s₁
   | some v=>aW (aY prog w) A (MK ft it v) (λ_ s₂=>aW (aY prog w) A (iI ft env v) (λ_ s₃=>
     aW (aY prog w) A (forIn fj af λc r=>if r=af then do let ok <-isTrue c env (bW c env);pure (zX ok) else pure (zX r)) (λok s₄=>
      if ok=af then aW (aY prog w) A (bW f9 env) (λx s₅=>
       aW (aY prog w) A (call (.builtin "list.append") [ar,x]) (λ_ s₆=>∃ m,m<n/\I m s₆) (λ_ _=>False) s₅) (λ_ _=>False) s₄
      else ∃ m,m<n/\I m s₄) (λ_ _=>False) s₃) (λ_ _=>False) s₂) (λ_ _=>False) s₁) (λ_ _=>False) s)
  (n:Nat) (h:I n s):oK (aY prog w) A (.compLoop (.ListComp f9 [⟨ft,bg,fj,0⟩] scope pos) 0 it ar env) R s:=by
 refine codeAny_loop rfl I (λn s hI=>?_) n h
 refine wpAny_noted ?_;rw[compTurn_list];refine aK (MA (aK (jO (turn n s hI) (λr s₁ h₁=>?_) λ_ _ h'=>h'.elim)))
 cases r with
 |none=>exact aZ h₁
 |some v=>
  refine aK (jO h₁ (λ_ s₂ h₂=>?_) λ_ _ h'=>h'.elim)
  refine aK (jO h₂ (λ_ s₃ h₃=>aK (jO h₃ (λok s₄ h₄=>?_) λ_ _ h'=>h'.elim)) λ_ _ h'=>h'.elim)
  cases ok with
  |false=>exact aZ ⟨rfl,h₄⟩
  |true=>
   exact aK (aK (jO h₄ (λx s₅ h₅=>aK (jO h₅ (λ_ s₆ h₆=>aZ (aZ ⟨rfl,h₆⟩)) λ_ _ h'=>h'.elim)) λ_ _ h'=>h'.elim))
end
theorem cellOf_eq{n:aE}{c:aD}(h:env.cells.lookup n=aa c):cellOf env n=pure c:=by
 unfold cellOf;rw[h]
def gY (env:dP):List (aE×iR)->List (aE×aD)->List (aE×aD)
 |[],cs=>cs
 |(n,k)::r,cs=>gY env r (if (k==lA)=af then(match env.cells.lookup n with|some c=>(n,c)::cs|none=>cs) else cs)
theorem ZJ(h:∀ n,(n,lA)∈sc.names->∃ c,env.cells.lookup n=aa c):closureFor sc env=pure (gY env sc.names []):=by
 unfold closureFor;generalize sc.names=l at h;have go:∀ (l:List (aE×iR)) (cs:List (aE×aD)),(∀ n,(n,lA)∈l->∃ c,env.cells.lookup n=aa c) ->
   (forIn l cs (λ(x:aE×iR) (r:List (aE×aD))=>if (x.2==lA)=af then(do let c <-cellOf env x.1;pure (zX ((x.1,c)::r))) else pure (zX r)):Sem (List (aE×aD)))=pure (gY env l cs):=by
  intro l;induction l with
  |nil=>intro cs _;rfl
  |cons p r ih=>
   intro cs hl;obtain⟨n,k⟩:=p;rw[Ej];have hr:∀ n,(n,lA)∈r->∃ c,env.cells.lookup n=aa c:=λn hn=>hl n (bN _ hn)
   cases hk:(k==lA) with
   |true=>
    have ek:k=lA:=by simpa using hk
    subst ek;obtain⟨c,hc⟩:=hl n bO;have e1:gY env ((n,lA)::r) cs=gY env r ((n,c)::cs):=by
     show gY env r (if (lA==lA)=af then(match env.cells.lookup n with|some c=>(n,c)::cs|none=>cs) else cs)=_
     rw[hc];rfl
    rw[e1];simp only[cellOf_eq hc,hk,if_true];exact ih ((n,c)::cs) hr
   |false=>
    have e1:gY env ((n,k)::r) cs=gY env r cs:=by
     show gY env r (if (k==lA)=af then(match env.cells.lookup n with|some c=>(n,c)::cs|none=>cs) else cs)=_
     rw[hk];rfl
    grind
 grind
theorem KN:∀ (l:List (aE×iR)) (cs:List (aE×aD)),(∀ x c,cs.lookup x=aa c->env.cells.lookup x=aa c)->∀ x c,(gY env l cs).lookup x=aa c->env.cells.lookup x=aa c
 |[],cs,h,x,c,e=>h x c e
 |(n,k)::r,cs,h,x,c,e=>by
  refine KN r _ ?_ x c e
  grind
theorem XZ{c:aD}(hx:env.cells.lookup x=aa c):∀ (l:List (aE×iR)) (cs:List (aE×aD)),cs.lookup x=aa c->(gY env l cs).lookup x=aa c
 |[],cs,h=>h
 |(n,k)::r,cs,h=>by
  refine XZ hx r _ ?_
  grind
theorem KF{c:aD}(hx:env.cells.lookup x=aa c):∀ (l:List (aE×iR)) (cs:List (aE×aD)),(x,lA)∈l->(gY env l cs).lookup x=aa c
 |[],cs,h=>by simp at h
 |(n,k)::r,cs,h=>by
  rcases cZ.1 h with e|h
  .cases e;refine XZ hx r _ ?_
   grind
  .exact KF hx r _ h
theorem YS(x:aE):(vQ sc env).names.lookup x=(sc.names.lookup x).map λk=>if (k==lA&&env.scope.kind==.function&&env.kindOf x==aa .cell)=af then MY else k:=by
 unfold vQ;induction sc.names with
 |nil=>rfl
 |cons p r ih=>
  grind
theorem lookup_mem {α:Type}{v:α}:∀ {l:List (aE×α)},l.lookup x=aa v->(x,v)∈l
 |[],h=>by simp at h
 |(n,k)::r,h=>by
  by_cases hy:(x==n)=af
  .grind
  .have jg:(x==n)=ag:=by simpa using hy
   simp only[NG,jg] at h;exact bN _ (lookup_mem h)
theorem KO {α:Type}(x:aE):∀ (l m:List (aE×α)),(l++m).lookup x=(l.lookup x).or (m.lookup x)
 |[],m=>rfl
 |(n,k)::r,m=>by
  rw[NN,NG,NG];cases x==n with
  |true=>rfl
  |false=>exact KO x r m
theorem LB:∀ (names:List (aE×iR)) (n:Nat) (a b:List (aE×aD)),iC n names (a++b)=iC n names a++b
 |[],_,_,_=>rfl
 |(x,k)::r,n,a,b=>by
  unfold iC;split
  .exact LB r (n+1) ((x,n)::a) b
  .exact LB r n a b
theorem LC:∀ (names:List (aE×iR)) (n:Nat) (a:List (aE×aD)) {x:aE} {c:aD},(x,c)∈iC n names a->(x,MY)∈names\/(x,c)∈a
 |[],_,_,_,_,h=>.inr h
 |(y,k)::r,n,a,x,c,h=>by
  unfold iC at h;split at h
  .rename_i hk;have hk:k=.cell:=by simpa using hk
   rcases LC r _ _ h with q|q
   .exact .inl (bN _ q)
   .rcases cZ.1 q with e|q
    .cases e;rw[hk];exact .inl bO
    .exact .inr q
  .exact(LC r _ _ h).imp (bN _) id
theorem yQ:∀ (names:List (aE×iR)) (n:Nat) (a:List (aE×aD)) {x:aE},((x,MY)∈names\/∃ c,a.lookup x=aa c)->∃ c,(iC n names a).lookup x=aa c
 |[],_,_,_,h=>h.elim (λh=>nomatch h) id
 |(y,k)::r,n,a,x,h=>by
  unfold iC;split
  .refine yQ r _ _ ?_;by_cases e:x=y
   .subst e;exact .inr ⟨n,by simp⟩
   .rcases h with h|⟨c,h⟩
    .rcases cZ.1 h with q|q
     .cases q;exact absurd rfl e
     .exact .inl q
    .exact .inr ⟨c,by rw[NG,show(x==y)=ag by simpa using e];exact h⟩
  .rename_i hk;refine yQ r _ _ (h.imp (λh=>?_) id)
   rcases cZ.1 h with q|q
   .cases q;exact absurd rfl hk
   .exact q
def jE (sc:fZ)(env:dP)(n:Nat):List (aE×aD):=iC (n+1) sc.names (gY env sc.names [])
theorem US (sc:fZ)(env:dP)(n:Nat):jE sc env n=iC (n+1) sc.names []++gY env sc.names []:=by
 unfold jE;rw[<-LB]
 rfl
def gF (X:Cx)(N:List aE)(sc:fZ)(cl:List (aE×aD))(C:aD)(s₀:aI)(H₀:Hp)(ex:List aD):Cx:=
 { X with N:=N,s₀:=s₀,H₀:=H₀,env:=compEnvC sc cl C X.env,outer:=X.stack,ex:=ex,fn:=λx=>sc.names.lookup x==aa .cell,pn:=[],xe:=λ_ _=>False }
structure CompScope (X:Cx)(N:List aE)(cap:List (Option Nat))(sc:fZ):Prop where
 kind:sc.kind=.function
 own:∀ y∈sc.names,y.2=.cell->sc.names.lookup y.1=aa .cell
 nm:∀ y∈sc.names,y.2=.local->sc.names.lookup y.1=aa .local
 fre:∀ y∈sc.names,y.2=.free->X.env.scope.names.lookup y.1=aa .cell\/X.env.scope.names.lookup y.1=aa .free
 len:cap.length=N.length
 cap:∀ (i j:Nat),cap[i]?=aa (aa j)->∃ x,N[i]?=aa x/\X.N[j]?=aa x/\sc.names.lookup x=aa .free
def uA (cap:List (Option Nat))(Z:St):St:=cap.map λo=>o.bind λj=>(Z[j]?).join
def rS (X:Cx)(fj:List aR)(t:TT):Prop:=
 ∀ (ad:List (aD×bK)) (s:aI) (Z:St) (H:Hp) (Q:Bool->Hp->Prop),Inv X ad Z H s->t Z H Q ->
  aW (aY X.prog X.w) X.A (forIn fj af λc r=>if r=af then do let ok <-isTrue c X.env (bW c X.env);pure (zX ok) else pure (zX r)) (TP X ad Z Q) X.xe s
def Gy:TT:=λ_ H Q=>Q af H
theorem Nd:rS X [] Gy:=λ_ _ _ H _ I h=>wpAny_tests_nil ⟨H,I,h⟩
theorem Mx{t:TT}(h:PT X c t):rS X [c] t:=λad s Z H Q I hw=>wpAny_tests_one (h ad s Z H Q I hw)
def OM (cap:List (Option Nat))(J:It)(g:TG)(tc:TT)(te:TE)(Z:St)(H1:Hp)(Q:VK):Prop:=∀ D,H1 D=ab ->
 ∃ W:Nat->Nat->List V->St->Hp->Prop,(∃ m,W 0 m [] (uA cap Z) (upd H1 D (.lst []))) /\
  ∀ i m ys Z' H',W i m ys Z' H'->H' D=aa (.lst ys)/\((J.stop i H'/\Q (.ref D) H') \/
   (J.go i H'/\ys.length<sizeLine/\∃ M:List V->St->Hp->Prop,(∀ zs Z2 H2,M zs Z2 H2->∃ m',m'<m/\W (i+1) m' zs Z2 H2)/\∀ x H2,J.yld i H' x H2->g x Z' H2 λZ3 H3=>tc Z3 H3 λb H4=>
    if b=af then te Z3 H4 λy H5=>H5 D=aa (.lst ys)/\M (ys++[y]) Z3 (upd H5 D (.lst (ys++[y]))) else M ys Z3 H4))
def xq (cap:List (Option Nat))(wi:TI)(g:TG)(tc:TT)(te:TE):TE:=λZ H Q=>wi Z H λJ H1=>OM cap J g tc te Z H1 Q
theorem CompScope.cells (S:CompScope X N cap sc)(ok:X.Ok):∀ n,(n,lA)∈sc.names->∃ c,X.env.cells.lookup n=aa c:=λn hn=>ok.has n (S.fre _ hn rfl)
theorem RK (sc:fZ)(h:aU):CellsOk (pushCells (h.push { cls:=.type "dict",data:=.dict #[] }) sc.names) (h.objs.size+1) (iC (h.objs.size+1) sc.names []):=by
 have ok:=cellsFrom_ok sc.names (h.push { cls:=.type "dict",data:=.dict #[] }) (h.objs.size+1) [] ⟨λ_ _ hm=>(nomatch hm),List.Pairwise.nil⟩ (by rw[rM];exact bI _)
 rwa [rM] at ok
theorem vL{c:aD}(h:(jE sc env n).lookup x=aa c):(x,c)∈iC (n+1) sc.names []\/((iC (n+1) sc.names []).lookup x=ab/\(gY env sc.names []).lookup x=aa c):=by
 rw[US,KO] at h;cases e:(iC (n+1) sc.names []).lookup x with
 |none=>rw[e] at h;exact .inr ⟨rfl,h⟩
 |some c'=>rw[e] at h;cases h;exact .inl (vV e)
theorem CompScope.free (S:CompScope X N cap sc){c:aD}(f:sc.names.lookup x=aa .free)(h:(gY env sc.names []).lookup x=aa c):(jE sc env n).lookup x=aa c:=by
 rw[US,KO];cases e:(iC (n+1) sc.names []).lookup x with
 |none=>exact h
 |some c'=>
  rcases LC _ _ _ (vV e) with q|q
  .have:=S.own _ q rfl;rw[f] at this;cases this
  .exact nomatch q
theorem Ym (S:CompScope X N cap sc){fp:List aD}(I:Inv X ad Z H s)(hf:∀ b∈fp,iX X ad H b)(hl:∀ b∈fp,b<s.heap.objs.size) :
  (gF X N sc (jE sc X.env s.heap.objs.size) s.heap.objs.size s H fp).Ok:=by
 have sub:∀ x c,(gY X.env sc.names []).lookup x=aa c->X.env.cells.lookup x=aa c:=KN sc.names [] (λx c e=>by simp at e)
 have nw:=RK sc s.heap;have kr:∀ {x c},(gY X.env sc.names []).lookup x=aa c->c<s.heap.objs.size:=λ{x c} e=>by
  obtain⟨v,h⟩:=I.cell x c (sub x c e);exact h.lt
 refine⟨I.ok.mod,?_,I.ok.glob,I.ok.blt,bI _,?_,?_,?_,I.ok.hd,I.ok.frames,.inl rfl,?_,I.bs,cL I.ok.bsz I.sz,?_,?_,I.stack,I.stkFree⟩
 .exact S.kind
 .intro x y c h1 h2;rcases vL h1 with a|⟨_,a⟩<;>rcases vL h2 with b|⟨_,b⟩
  .exact name_of_addr nw.apart a b
  .have:=(nw.empty _ _ a).2;have:=kr b;lia
  .have:=(nw.empty _ _ b).2;have:=kr a;lia
  .exact I.ok.inj x y c (sub x c a) (sub y c b)
 .intro x hx;have hk:(vQ sc X.env).names.lookup x=aa .cell\/(vQ sc X.env).names.lookup x=aa .free:=hx;rw[YS] at hk;cases e:sc.names.lookup x with
  |none=>rw[e] at hk;simp at hk
  |some k=>
   rw[e] at hk;have hm:=lookup_mem e;have kk:k=.cell\/k=.free:=by grind
   rcases kk with rfl|rfl
   .exact yQ _ _ _ (.inl hm)
   .obtain⟨c,hc⟩:=S.cells I.ok x hm;exact yQ _ _ _ (.inr ⟨c,KF hc _ _ hm⟩)
 .intro x c h1 h2;have e:sc.names.lookup x=aa .cell:=by simpa using(show(sc.names.lookup x==aa .cell)=af from h1)
  rcases vL h2 with a|⟨a,_⟩
  .exact Nat.le_of_succ_le (nw.empty _ _ a).2
  .obtain⟨c',h⟩:=yQ sc.names (s.heap.objs.size+1) [] (.inl (lookup_mem e));rw[a] at h;cases h
 .intro b hb;refine⟨eD (hl b hb),λx c e=>?_⟩
  rcases vL e with a|⟨_,a⟩
  .have:=(nw.empty _ _ a).2;have:=hl b hb;lia
  .exact(hf b hb).2.2.2.2.1 x c (sub x c a)
 .intro b o e hb;rcases(hf b hb).2.2.2.1 with z|z
  .exact I.ok.noex b o e z
  .exact absurd (jK (bZ e) (cL I.ok.bsz z)) (mT _)
 .intro b hb hz;obtain⟨_,h1,h2,_⟩:=hf b hb;rcases cZ.1 (I.stkSub b hz) with e|e
  .exact h1 e
  .exact h2 e
theorem Xh (S:CompScope X N cap sc){fp:List aD}{h':aU}{tk:Nat}(I:Inv X ad Z H s)(hf:∀ b∈fp,iX X ad H b)(hl:∀ b∈fp,b<s.heap.objs.size)
  (hn:h'.Ns s.heap.objs.size λ_=>ab) (hk:∀ b o,s.heap.get? b=aa o->h'.get? b=aa o) (hw:CellsOk h' (s.heap.objs.size+1) (iC (s.heap.objs.size+1) sc.names [])) :
  Inv (gF X N sc (jE sc X.env s.heap.objs.size) s.heap.objs.size s H fp) [] (uA cap Z) H { s with heap:=h',toks:=tk }:=by
 have sub:∀ x c,(gY X.env sc.names []).lookup x=aa c->X.env.cells.lookup x=aa c:=KN sc.names [] (λx c e=>by simp at e)
 have fr:=I.hok.fresh (bI _);refine⟨Ym S I hf hl,rfl,I.bare,Un.kept hk,⟨_,hn,λi x v e1 e2 e3=>?_⟩,λx c e=>?_,fr,λx c e=>(vL e).elim (λa=>I.hok.fresh (Nat.le_of_succ_le (hw.empty _ _ a).2)) λa=>I.freeC x c (sub x c a.2),λp hp=>by simp[gF] at hp,I.hok.kept hk,?_⟩
 .have j5:(cap.map λo=>o.bind λj=>(Z[j]?).join)[i]?=aa (aa v):=e2
  rw[fN] at j5;cases hc:cap[i]? with
  |none=>rw[hc] at j5;simp at j5
  |some o=>
   rw[hc] at j5;simp only[EG,Option.some.injEq] at j5;cases o with
   |none=>simp at j5
   |some j=>
    have j5:(Z[j]?).join=aa v:=j5;have ej:Z[j]?=aa (aa v):=by
     grind
    obtain⟨y,n1,n2,vv⟩:=S.cap i j hc;have zu:=gQ (e1.symm.trans n1);subst zu;have hmem:=lookup_mem vv;have j3:=S.fre _ hmem rfl;obtain⟨m,_,zv⟩:=I.loc;obtain⟨u,r,l⟩:=zv j x v n2 ej (.inr j3);refine⟨u,r,.inr ⟨?_,?_⟩⟩
    .show(vQ sc X.env).names.lookup x=aa .cell\/(vQ sc X.env).names.lookup x=aa .free;rw[YS,vv]
     grind
    .rcases l with⟨k1,_⟩|⟨_,c,ld,iw⟩
     .exfalso;have k1':X.env.scope.names.lookup x=aa .local:=k1
      grind
     .obtain⟨oc,h1,h2⟩:=iw;exact⟨c,S.free vv (KF ld _ _ hmem),oc,hk _ _ h1,h2⟩
 .rcases vL e with a|⟨_,a⟩
  .exact⟨_,(hw.empty _ _ a).1⟩
  .obtain⟨v,oc,h1,h2⟩:=I.cell x c (sub x c a);exact⟨v,oc,hk _ _ h1,h2⟩
 .show(cap.map _).length=N.length;rw[bR,S.len]
theorem comp_back {fp:List aD}{cl:List (aE×aD)}{Z':St}{s':aI}{pl:List (aD×bK)}(I:Inv X ad Z H s)(hf:∀ b∈fp,iX X ad H b)
  (I':Inv (gF X N sc cl s.heap.objs.size s H fp) pl Z' H' s'):Inv X ad Z H' s':=
 I.call' I'.os (show Un (jx X.stack) fp H H' s.heap s'.heap from I'.base) I'.hok I'.bare λb hb=>⟨(hf b hb).2.2.2.1,(hf b hb).2.1,(hf b hb).2.2.2.2.1,(hf b hb).2.2.2.2.2⟩
section
variable {wi:TI}{g:TG}{tc:TT}{te:TE}
def Block (X:Cx)(N:List aE)(sc:fZ)(tg f9:aR)(fj:List aR)(g:TG)(tc:TT)(te:TE):Prop:=
 ∀ (cl:List (aE×aD)) (C:aD) (s₀:aI) (H₀:Hp) (ex:List aD),PG (gF X N sc cl C s₀ H₀ ex) tg g/\rS (gF X N sc cl C s₀ H₀ ex) fj tc/\PE (gF X N sc cl C s₀ H₀ ex) f9 te
theorem Us {M:Model}{E:aF->aI->Prop}{scope:fZ}{globals:aD}{cl:List (aE×aD)}{func:Option aD}{code:aF}{ae:dP}{bi:aD}{Q:dP->aI->Prop}
  (hQ:Q (newEnv scope s.heap.objs.size globals (iC (s.heap.objs.size+1) scope.names cl) qual func code (aa ae) bi) { s with heap:=pushCells (s.heap.push { cls:=.type "dict",data:=.dict #[] }) scope.names }) :
  aW M A (newFunctionEnv scope globals cl [] qual func code (aa ae) bi) Q E s:=by
 simp only[newFunctionEnv,Option.isSome_some,if_true];refine aK (wpAny_alloc ?_);refine aK (wpAny_layCells _ (λname kind cells=>by cases zw:kind==MY<;>simp[zw]) _ _ _ _ ?_)
 rw[show({ s with heap:=s.heap.push { cls:=.type "dict",data:=.dict #[] } }:aI).heap.objs.size=s.heap.objs.size+1 from rM ..]
 exact aK (aZ (aZ hQ))
theorem QH{RR:aF->aD->Result->aI->Prop}{E:aF->aI->Prop}(hc:X.calm=af)(S:CompScope X N cap sc)(hb:Block X N sc tg f9 fj g tc te)
  {it:aD} {fp:List aD} {tn:Nat->aU->Prop} {J:It} {Q:VK} (I:Inv X ad Z H s) (T:Turn X.prog X.w X.K tg J fp it tn) (st:tn 0 s.heap) (hf:∀ b∈fp,iX X ad H b)
  (q:OM cap J g tc te Z H Q)
  (zx:∀ (D:aD) (s₀:aI) (H₀:Hp) (Z':St) (H':Hp) (s':aI),Inv X ad Z H₀ s₀->(∀ b∈fp,iX X ad H₀ b)->Inv (gF X N sc (jE sc X.env s₀.heap.objs.size) s₀.heap.objs.size s₀ H₀ fp) [] Z' H' s'->Q (.ref D) H' ->
   RR (.ref D) s₀.heap.objs.size (.ok .next) s') :
  aW (aY X.prog X.w) X.A (newList []) (λar s₃=>aW (aY X.prog X.w) X.A (newFunctionEnv sc X.env.globals (gY X.env sc.names []) [] X.env.qual ab .none (aa X.env)) (λq9 s₄=>
   oK (aY X.prog X.w) X.A (.compStart (.ListComp f9 [⟨tg,bg,fj,0⟩] sc pos) 0 (.ref it) ar { q9 with scope:=vQ sc X.env }) (RR ar q9.locals) s₄) E s₃) E s:=by
 have hl:∀ b∈fp,b<s.heap.objs.size:=λb hb=>by
  obtain⟨o,e,_⟩:=T.obj 0 _ st b hb;exact bZ e
 refine pT (Us ?_);dsimp only;have I0:Inv X ad Z (upd H s.heap.objs.size (.lst [])) { s with heap:=s.heap.push { cls:=.type "list",data:=.seq ([]:List aF).toArray },toks:=s.toks }:=I.lnew .nil (by simp)
 obtain⟨W,⟨m0,w0⟩,turn⟩:=q s.heap.objs.size I.fresh;generalize uo:({ s with heap:=s.heap.push { cls:=.type "list",data:=.seq ([]:List aF).toArray },toks:=s.toks }:aI)=s0 at I0;have hh:s.heap.push { cls:=.type "list",dict:=ab,data:=.seq ([]:List aF).toArray }=s0.heap:=by rw[<-uo]
 have ht0:s0.toks=s.toks:=by rw[<-uo]
 have hg0:s0.gens=s.gens/\s0.drawn=s.drawn/\s0.os=s.os:=by rw[<-uo];exact⟨rfl,rfl,rfl⟩
 rw[hh];generalize vw:pushCells (s0.heap.push { cls:=.type "dict",data:=.dict #[] }) sc.names=h₁;have nw:CellsOk h₁ (s0.heap.objs.size+1) (iC (s0.heap.objs.size+1) sc.names []):=by rw[<-vw];exact RK sc s0.heap
 have oa:h₁.Ns s0.heap.objs.size λ_=>ab:=by rw[<-vw];exact(Heap.Ns.new s0.heap (.type "dict")).keeps (pushCells_keeps _ _)
 have re:∀ b o,s.heap.get? b=aa o->s0.heap.get? b=aa o:=λb o e=>by rw[<-hh];exact cD _ e
 have rg:∀ b o,s0.heap.get? b=aa o->h₁.get? b=aa o:=λb o e=>by rw[<-vw];exact pushCells_keeps _ _ b o (cD _ e)
 have zy:∀ b∈fp,b<s0.heap.objs.size:=λb hb=>by
  obtain⟨o,e,_⟩:=T.obj 0 _ st b hb;exact bZ (re b o e)
 have vx:∀ b∈fp,iX X ad (upd H s.heap.objs.size (.lst [])) b:=λb hb=>by
  refine⟨?_,(hf b hb).2⟩;rw[cO (eD (hl b hb))];exact(hf b hb).1
 have I1:Inv (gF X N sc (jE sc X.env s0.heap.objs.size) s0.heap.objs.size s0 (upd H s.heap.objs.size (.lst [])) fp) [] (uA cap Z) (upd H s.heap.objs.size (.lst [])) { s0 with heap:=h₁,toks:=s.toks }:=
  Xh S I0 vx zy oa rg nw
 obtain⟨pg,pf,pe⟩:=hb (jE sc X.env s0.heap.objs.size) s0.heap.objs.size s0 (upd H s.heap.objs.size (.lst [])) fp;have lg:=T.keep _ _ _ st λb hb o e=>rg b o (re b o e)
 have ia:∀ {H':Hp},(∀ b∈fp,H' b=ab)->∀ b∈fp,iX (gF X N sc (jE sc X.env s0.heap.objs.size) s0.heap.objs.size s0 (upd H s.heap.objs.size (.lst [])) fp) [] H' b:=λhn b hb=>
  ⟨hn b hb,(I1.ok.exf b hb).1,I1.ok.exfs b hb,.inl hb,(I1.ok.exf b hb).2,λp hp=>by simp[gF] at hp⟩
 have rh:∀ s3:aI,s3={ s0 with heap:=h₁,toks:=s.toks } ->
   oK (aY X.prog X.w) X.A (.compLoop (.ListComp f9 [⟨tg,bg,fj,0⟩] sc pos) 0 (.ref it) (.ref s.heap.objs.size) (compEnvC sc (jE sc X.env s0.heap.objs.size) s0.heap.objs.size X.env)) (RR (.ref s.heap.objs.size) s0.heap.objs.size) s3:=by
  rintro s3 rfl;refine Tn (λn s'=>∃ i ys Z' H',Inv (gF X N sc (jE sc X.env s0.heap.objs.size) s0.heap.objs.size s0 (upd H s.heap.objs.size (.lst [])) fp) [] Z' H' s'/\tn i s'.heap/\(∀ b∈fp,H' b=ab)/\W i n ys Z' H') ?_ m0
   ⟨0,[],uA cap Z,_,I1,lg,λb hb=>(vx b hb).1,w0⟩
  rintro n s3 ⟨i,ys,Z3,H3,I3,qt,qu,w3⟩;obtain⟨hD,h3⟩:=turn i n ys Z3 H3 w3;rcases h3 with⟨stop,qn⟩|⟨go,bj,M,hM,step⟩
  .refine bf (T.done (gF X N sc (jE sc X.env s0.heap.objs.size) s0.heap.objs.size s0 (upd H s.heap.objs.size (.lst [])) fp) rfl rfl rfl hc i [] s3 Z3 H3 (λ_ _=>False) I3 (ia qu) qt stop) λr s4 gh=>?_
   obtain⟨hr,I4⟩:=gh;subst hr;exact zx _ s0 _ Z3 H3 s4 I0 vx I4 qn
  .refine bf (T.item (gF X N sc (jE sc X.env s0.heap.objs.size) s0.heap.objs.size s0 (upd H s.heap.objs.size (.lst [])) fp) rfl rfl rfl hc i [] s3 Z3 H3 (λ_ _=>False) I3 (ia qu) qt go) λr s4 gh=>?_
   obtain⟨u,hr,h4⟩:=gh;subst hr;refine bf h4 λ_ s5 gh=>?_
   obtain⟨x,H5,I5,r5,y5,n8,vi⟩:=gh;have vj:=I5.pinned (ia vi) (T.obj _ _ n8);refine bf (pg _ s5 Z3 H5 x u _ vj r5 (step x H5 y5)) λ_ s6 gh=>?_
   obtain⟨Z6,H6,I6,q6⟩:=gh;refine bf (pf _ s6 Z6 H6 _ I6 q6) λb s7 gh=>?_
   obtain⟨H7,I7,q7⟩:=gh;have again:∀ {s8:aI} {H8:Hp} {zs:List V},Inv (gF X N sc (jE sc X.env s0.heap.objs.size) s0.heap.objs.size s0 (upd H s.heap.objs.size (.lst [])) fp) ([]++xB fp s5.heap) Z6 H8 s8->M zs Z6 H8 ->
     ∃ m,m<n/\∃ i ys Z' H',Inv (gF X N sc (jE sc X.env s0.heap.objs.size) s0.heap.objs.size s0 (upd H s.heap.objs.size (.lst [])) fp) [] Z' H' s8/\tn i s8.heap/\(∀ b∈fp,H' b=ab)/\W i m ys Z' H':=λ{s8 H8 zs} I8 w8=>by
    obtain⟨m',hm,w8⟩:=hM _ _ _ w8;refine⟨m',hm,i+1,zs,Z6,H8,I8.unpinned,T.keep _ _ _ n8 λb hb o e=>(I8.pin (b,o) (mU _ (mU _ (CK hb e)))).1,λb hb=>?_,w8⟩
    obtain⟨o,e,d⟩:=T.obj _ _ n8 b hb;exact(I8.pin (b,o) (mU _ (mU _ (CK hb e)))).2.1
   cases b with
   |false=>
    rw[if_neg mB] at q7 ⊢;exact again I7 q7
   |true=>
    rw[if_pos rfl] at q7 ⊢;refine bf (pe _ s7 Z6 H7 _ I7 q7) λv s8 gh=>?_
    obtain⟨y,H8,I8,r8,zz,w8⟩:=gh;refine bf (yF _ s8 Z6 H8 (.ref s.heap.objs.size) [y] (.ref s.heap.objs.size) [v] (λ_ H9=>H9=upd H8 s.heap.objs.size (.lst (ys++[y]))) I8 rfl (.cons r8 .nil) ⟨_,ys,y,rfl,rfl,zz,bj,rfl⟩) λ_ s9 gh=>?_
    obtain⟨_,H9,I9,_,e9⟩:=gh;subst e9;exact again I9 w8
 have fin:=codeAny_compStart_list (rh _ rfl) (T.self X.A 0 _ _ _ lg (rh _ rfl));have e3:({ s with heap:=h₁ }:aI)={ s0 with heap:=h₁,toks:=s.toks }:=by
  rw[<-uo]
 rw[<-e3] at fin;exact fin
theorem Ii (hc:X.calm=af)(S:CompScope X N cap sc)(hi:PI X tg bg wi)(hb:Block X N sc tg f9 fj g tc te)(hs:∀ x,rC bg X.env x=pure x:=by intro _;rfl) :
  PE X (.ListComp f9 [⟨tg,bg,fj,0⟩] sc pos) (xq cap wi g tc te):=by
 rw[9];rw[eval_ListComp];refine wpAny_comprehension_free rfl hs (ZJ (S.cells I.ok)) S.kind S.nm (bf (hi ad s Z H _ I h) λv s1 h1=>bf h1 λuh s2 h2=>?_)
 obtain⟨it,fp,tn,J,H2,e,I2,T,j1,f2,q2⟩:=h2;subst e;refine QH hc S hb I2 T j1 f2 q2 ?_;intro D s₀ H₀ Z' H' s' I0 f0 I' qD;obtain⟨m,hn,_⟩:=id I'.loc;have IX:=comp_back I0 f0 I';refine⟨m,hn,λh' oe=>⟨.ref D,H',?_,rfl,qD⟩⟩
 exact IX.turned (λb o hb e=>(oe.2 b hb).trans e) I'.free (rD I0.lt) (.inr I0.sz) (λx c e z=>by
  obtain⟨v,oc,h1,_⟩:=I0.cell x c e;exact absurd (bZ h1) (by rw[z];exact mT _)) λp hp z=>by
   have h1:=(I0.pin p hp).1;exact absurd (bZ h1) (by rw[z];exact mT _)
theorem Wv(hc:X.calm=af)(hN:X.N.Nodup)(j6:X.N[i]?=aa x)(hx:iU X.env.scope x)(S:CompScope X N cap sc)(hi:PI X tg bg wi)(hb:Block X N sc tg f9 fj g tc te)
  (fy:iO (.ListComp f9 [⟨tg,bg,fj,0⟩] sc pos) (aa (.Name x px)) cv.line X.env=pure af:=by rfl)
  (hs:∀ x,rC bg X.env x=pure x:=by intro _;rfl) (hf:X.fn x=af\/X.env.scope.names.lookup x=aa .local:=by first|exact .inl rfl|exact .inr rfl|assumption) :
  PS X (.Assign [.Name x px] (.ListComp f9 [⟨tg,bg,fj,0⟩] sc pos) cv) (FL (xq cap wi g tc te) (FW i)):=by
 intro ad s Z H D I h;rw[exec_Assign_Name_used _ _ _ _ fy];refine aK (MA (aK ?_));refine aK (jO (wpAny_comprehension_free rfl hs (ZJ (S.cells I.ok)) S.kind S.nm
  (bf (hi ad s Z H _ I h) λv s1 h1=>bf h1 λuh s2 h2=>?_)) (λ_ s' hq=>aZ (aZ hq)) λ_ _ e=>e)
 obtain⟨it,fp,tn,J,H2,e,I2,T,j1,f2,q2⟩:=h2;subst e;refine QH hc S hb I2 T j1 f2 q2 ?_;intro D' s₀ H₀ Z' H' s' I0 f0 I' qD;obtain⟨m,hn,_⟩:=id I'.loc;have IX:=comp_back I0 f0 I';have j7:∀ x c,X.env.cells.lookup x=aa c->c≠s₀.heap.objs.size:=λx c e z=>by
  obtain⟨v,oc,h1,_⟩:=I0.cell x c e;exact absurd (bZ h1) (by rw[z];exact mT _)
 refine wpAny_assign_Name (VS IX hN j6 hx (show RelV (.ref D') (.ref D') from rfl) (λs3 I3 ch=>?_) hf)
 obtain⟨a,sb,ha⟩:=ch;have dk:s₀.heap.objs.size≠a:=by
  rcases ha with z|z
  .rw[z];exact rD I0.lt
  .exact λq=>j7 x a z q.symm
 refine⟨m,Heap.Ns.sameBut hn sb dk,λh' oe=>⟨_,H',?_,qD⟩⟩
 exact I3.turned (λb o hb e=>(oe.2 b hb).trans e) I'.free (rD I0.lt) (.inr I0.sz) j7 λp hp z=>by
  have h1:=(I0.pin p hp).1;exact absurd (bZ h1) (by rw[z];exact mT _)
end
def HP (out:List (aE×iR))(XN N:List aE)(cap:List (Option Nat))(ns:List (aE×iR)):Bool:=
 ns.all (λy=>y.2 != .cell||ns.lookup y.1==aa .cell)&&ns.all (λy=>y.2 != .local||ns.lookup y.1==aa .local)&&ns.all (λy=>y.2 != .free||out.lookup y.1==aa .cell||out.lookup y.1==aa .free) &&
 cap.length==N.length&&(cap.zip N).all (λp=>match p.1 with|none=>af|some j=>XN[j]?==aa p.2&&ns.lookup p.2==aa .free)
theorem lQ{out:List (aE×iR)}{XN:List aE}(h1:X.env.scope.names=out)(h2:X.N=XN)(o9:HP out XN N cap sc.names=af)(hk:sc.kind=.function):CompScope X N cap sc:=by
 unfold HP at o9;simp only[tZ,gD,bne_iff_ne,ne_eq,Bool.or_eq_true,beq_iff_eq] at o9;obtain⟨⟨⟨⟨c1,c2⟩,c3⟩,c4⟩,c5⟩:=o9;refine⟨hk,λy hy e=>(c1 y hy).elim (λq=>absurd e q) id,λy hy e=>?_,λy hy e=>?_,c4,λi j e=>?_⟩
 .rcases c2 y hy with q|q
  .exact absurd e q
  .exact q
 .rw[h1];rcases c3 y hy with(q|q)|q
  .exact absurd e q
  .exact .inl q
  .exact .inr q
 .have hi:=(cW.1 e).1;have j6:i<N.length:=()
  have hm:(cap[i],N[i])∈cap.zip N:=by
   have:(cap.zip N)[i]?=aa (cap[i],N[i]):=by
    rw[List.getElem?_zip_eq_some];exact⟨eR hi,eR j6⟩
   exact eX this
  have q:=c5 _ hm;have ec:cap[i]=aa j:=by
   rw[eR hi] at e;exact gQ e
  rw[ec] at q;simp only[tZ,beq_iff_eq] at q;exact⟨N[i],eR j6,by rw[h2];exact q.1,q.2⟩
abbrev Ext (H H':Hp):Prop:=∀ b o,H b=aa o->H' b=aa o
theorem Ext.refl:Ext H H:=λ_ _ e=>e
theorem Ext.trans {H2:Hp}(a:Ext H H1)(b:Ext H1 H2):Ext H H2:=λx o e=>b x o (a x o e)
theorem Ext.new{p:aD}(n:H p=ab):Ext H (upd H p o):=λb u e=>by
 rw[cO (kC e n)];exact e
theorem Ext.rd(x:Ext H H'){u:HO}(r:Rd H a u):Rd H' a u:=by
 rcases r with r|⟨o,r⟩
 .exact .inl (x _ _ r)
 .exact .inr ⟨o,x _ _ r⟩
theorem Ext.sqL(x:Ext H H')(h:SqL K H a xs):SqL K H' a xs:=h.imp x.rd id
theorem Ext.none(x:Ext H H')(h:H' a=MS):H a=MS:=by
 cases e:H a with
 |none=>rfl
 |some o=>rw[x a o e] at h;cases h
theorem Ext.ty(x:Ext H H'){t:aF}(h:TyOf K H v t):TyOf K H' v t:=by
 cases h with
 |non=>exact .non
 |bl b=>exact .bl b
 |int i=>exact .int i
 |str y=>exact .str y
 |flt y=>exact .flt y
 |lst e=>exact .lst (x _ _ e)
 |frz e=>exact .frz (x _ _ e)
 |tup e=>exact .tup (x _ _ e)
 |dK e=>exact .dK (x _ _ e)
 |dT e=>exact .dT (x _ _ e)
 |ins e cl ha hn ui hm=>exact .ins (x _ _ e) cl ha hn ui hm
open Classical in
def hid (H:Hp)(P:aD->Prop):Hp:=λa=>if P a then ab else H a
theorem Ab3{P:aD->Prop}:hid H P a=aa o ↔ ¬ P a/\H a=aa o:=by
 unfold hid;by_cases h:P a<;>simp[h]
theorem fL{P:aD->Prop}(n:¬ P a)(e:H a=aa o):hid H P a=aa o:=Ab3.2 ⟨n,e⟩
theorem Aaq{P:aD->Prop}:Ext (hid H P) H:=λ_ _ e=>(Ab3.1 e).2
theorem cK{P:aD->Prop}(x:Ext H H'):Ext (hid H P) (hid H' P):=λb o e=>by
 obtain⟨n,e⟩:=Ab3.1 e;exact fL n (x b o e)
theorem gP{P P':aD->Prop}(s:∀ a,P' a->P a):Ext (hid H P) (hid H P'):=λb o e=>by
 obtain⟨n,e⟩:=Ab3.1 e;exact fL (λq=>n (s b q)) e
abbrev DQ:=(Nat×List (aH×V)) ⊕ (Nat×List (List aA×V))
def dO:DQ->HO
 |.inl kvs=>.dK kvs.1 kvs.2
 |.inr ts=>.dT ts.1 ts.2
def Hid (P:aD->Prop)(H:Hp):Prop:=∀ a,P a->(∃ xs,H a=aa (.lst xs))\/∃ q:DQ,H a=aa (dO q)
theorem Hid.ext {P:aD->Prop}(h:Hid P H)(x:Ext H H'):Hid P H':=λa p=>(h a p).imp (λ⟨xs,e⟩=>⟨xs,x _ _ e⟩) λ⟨xs,e⟩=>⟨xs,x _ _ e⟩
theorem Hid.new {P:aD->Prop}(h:Hid P H)(n:H a=ab):¬ P a:=λp=>by
 rcases h a p with⟨xs,e⟩|⟨xs,e⟩<;>rw[n] at e<;>cases e
theorem Hid.tup {P:aD->Prop}(h:Hid P H)(e:H a=aa (.tup xs)):hid H P a=aa (.tup xs):=fL (λp=>by
 rcases h a p with⟨ys,e2⟩|⟨ys,e2⟩<;>rw[e] at e2<;>first|cases e2|(cases ys<;>simp[dO] at e2)) e
abbrev dh (P:aD->Prop)(F:List aD):aD->Prop:=λa=>P a\/a∈F
theorem Cg {P:aD->Prop}:dh P []=P:=by
 funext a;simp[dh]
def kD:aH->aA
 |.inl i=>.int i
 |.inr x=>.str x
def OI (a:aD)(kvs:Nat×List (V×V)):HO:=.ext λh=>kvs.2.length<=sizeLine/\(a==jH)=ag/\∃ o es,h.get? a=aa o/\o.ExactDict/\o.data=.dict es kvs.1/\eW (λ(p:V×V) (e:qB)=>RelV p.1 e.key/\RelV p.2 e.val) kvs.2 es.toList
mutual
def Abr (K:aM)(H:Hp):aA->V->Prop
 |.none,v=>v=.non
 |.bool b,v=>v=.bl b
 |.int i,v=>v=.int i
 |.str x,v=>v=.str x/\cI (.str x)=af
 |.list ds,v=>∃ a xs,v=.ref a/\SqL K H a xs/\Aao K H ds xs
 |.tuple ds,v=>∃ a xs,v=.ref a/\H a=aa (.tup xs)/\Aao K H ds xs
 |.dict kds,v=>∃ a,v=.ref a/\((∃ kvs:Nat×List (aH×V),H a=aa (.dK kvs.1 kvs.2)/\Abu K H kds kvs.2)\/(∃ ts:Nat×List (List aA×V),H a=aa (.dT ts.1 ts.2)/\Axk K H kds ts.2)\/∃ xs,H a=aa (OI a xs)/\Azk K H kds xs.2)
def Aao (K:aM)(H:Hp):List aA->List V->Prop
 |[],xs=>xs=[]
 |d::ds,xs=>∃ x r,xs=x::r/\Abr K H d x/\Aao K H ds r
def Abu (K:aM)(H:Hp):List (aA×aA)->List (aH×V)->Prop
 |[],xs=>xs=[]
 |(k,d)::ds,xs=>∃ k' x r,xs=(k',x)::r/\k=kD k'/\Abr K H d x/\Abu K H ds r
def Acj (K:aM)(H:Hp):List (aA×aA)->List (List aA×V)->Prop
 |[],xs=>xs=[]
 |(k,d)::ds,xs=>∃ k' x r,xs=(k',x)::r/\(k=.tuple k'/\bY k'=af)/\Abr K H d x/\Acj K H ds r
def Axk (K:aM)(H:Hp):List (aA×aA)->List (List aA×V)->Prop
 |[],_=>False
 |(k,_)::ds,xs=>k=.none/\Acj K H ds xs
def Azk (K:aM)(H:Hp):List (aA×aA)->List (V×V)->Prop
 |[],_=>False
 |(k,m)::ds,xs=>k=.none/\ds=[(.none,.none)]/\Arx K H m xs
def Arx (K:aM)(H:Hp):aA->List (V×V)->Prop
 |.list es,xs=>Ahs K H es xs
 |_,_=>False
def Ahs (K:aM)(H:Hp):List aA->List (V×V)->Prop
 |[],xs=>xs=[]
 |d::ds,xs=>∃ x r,xs=x::r/\Awy K H d x/\Ahs K H ds r
def Awy (K:aM)(H:Hp):aA->V×V->Prop
 |.tuple ds,x=>Aao K H ds [x.1,x.2]
 |_,_=>False
end
def cz:List (aA×aA)->Bool
 |(.none,_)::_=>ag
 |_=>af
theorem Abp:Abr K H .none v↔v=.non:=by simp[Abr]
theorem Aay {b:Bool}:Abr K H (.bool b) v↔v=.bl b:=by simp[Abr]
theorem Aai {b:Int}:Abr K H (.int b) v↔v=.int b:=by simp[Abr]
theorem Aa6 {b:aE}:Abr K H (.str b) v↔v=.str b/\cI (.str b)=af:=by simp only[Abr]
theorem Abe:Abr K H (.list ds) v ↔ ∃ a xs,v=.ref a/\SqL K H a xs/\Aao K H ds xs:=by simp only[Abr]
theorem Aau:Abr K H (.tuple ds) v ↔ ∃ a xs,v=.ref a/\H a=aa (.tup xs)/\Aao K H ds xs:=by simp only[Abr]
theorem Ac0 {ds:List (aA×aA)}:Abr K H (.dict ds) v ↔ ∃ a,v=.ref a/\((∃ kvs:Nat×List (aH×V),H a=aa (.dK kvs.1 kvs.2)/\Abu K H ds kvs.2)\/(∃ ts:Nat×List (List aA×V),H a=aa (.dT ts.1 ts.2)/\Axk K H ds ts.2)\/∃ xs,H a=aa (OI a xs)/\Azk K H ds xs.2):=by simp only[Abr]
theorem Af5 {k:aA}{ds:List (aA×aA)}{xs:List (V×V)}:Azk K H ((k,m)::ds) xs↔k=.none/\ds=[(.none,.none)]/\Arx K H m xs:=by simp only[Azk]
theorem Zd{xs:List (V×V)}(h:Arx K H m xs):∃ es,m=.list es/\Ahs K H es xs:=by
 cases m with
 |list es=>exact⟨es,rfl,by simpa only[Arx] using h⟩
 |_=>simp[Arx] at h
theorem Au1 {xs:List (V×V)}:Ahs K H [] xs↔xs=[]:=by simp[Ahs]
theorem Aq1{xs:List (V×V)}:Ahs K H (d::ds) xs ↔ ∃ x r,xs=x::r/\Awy K H d x/\Ahs K H ds r:=by simp only[Ahs]
theorem JQ {ds:List (aA×aA)}{xs:List (V×V)}(h:Azk K H ds xs):∃ es,ds=[(.none,.list es),(.none,.none)]/\Ahs K H es xs:=by
 cases ds with
 |nil=>simp[Azk] at h
 |cons p r=>
  obtain⟨k,m⟩:=p;obtain⟨rfl,rfl,h1⟩:=Af5.1 h;obtain⟨es,rfl,h2⟩:=Zd h1;exact⟨es,rfl,h2⟩
theorem Adm {xs:List (List aA×V)}:Acj K H [] xs↔xs=[]:=by simp[Acj]
theorem Ab6 {k:aA}{ds:List (aA×aA)}{xs:List (List aA×V)}:Acj K H ((k,d)::ds) xs ↔ ∃ k' x r,xs=(k',x)::r/\(k=.tuple k'/\bY k'=af)/\Abr K H d x/\Acj K H ds r:=by simp only[Acj]
theorem Aee {k:aA}{ds:List (aA×aA)}{xs:List (List aA×V)}:Axk K H ((k,m)::ds) xs↔k=.none/\Acj K H ds xs:=by simp only[Axk]
theorem Xm {ds:List (aA×aA)}{xs:List (List aA×V)}(hk:cz ds=af):¬ Axk K H ds xs:=by
 cases ds with
 |nil=>simp[Axk]
 |cons p r=>
  obtain⟨k,d⟩:=p;intro h;rw[(Aee.1 h).1] at hk;simp[cz] at hk
theorem nW {ds:List (aA×aA)}(hk:cz ds=af):Abr K H (.dict ds) v ↔ ∃ a,∃ kvs:Nat×List (aH×V),v=.ref a/\H a=aa (.dK kvs.1 kvs.2)/\Abu K H ds kvs.2:=by
 rw[Ac0];constructor
 .rintro⟨a,e,⟨kvs,h,r⟩|⟨ts,h,r⟩|⟨xs,h,r⟩⟩
  .exact⟨a,kvs,e,h,r⟩
  .exact absurd r (Xm hk)
  .obtain⟨es,rfl,_⟩:=JQ r;simp[cz] at hk
 .rintro⟨a,kvs,e,h,r⟩;exact⟨a,e,.inl ⟨kvs,h,r⟩⟩
theorem WD {ds:List (aA×aA)}{kvs:Nat×List (aH×V)}(e:v=.ref a)(h:H a=aa (.dK kvs.1 kvs.2))(r:Abu K H ds kvs.2):Abr K H (.dict ds) v:=Ac0.2 ⟨a,e,.inl ⟨kvs,h,r⟩⟩
theorem Aal:Aao K H [] xs↔xs=[]:=by simp[Aao]
theorem Aag:Aao K H (d::ds) xs ↔ ∃ x r,xs=x::r/\Abr K H d x/\Aao K H ds r:=by simp only[Aao]
theorem Abq {xs:List (aH×V)}:Abu K H [] xs↔xs=[]:=by simp[Abu]
theorem Aa7 {k:aA}{ds:List (aA×aA)}{xs:List (aH×V)}:Abu K H ((k,d)::ds) xs ↔ ∃ k' x r,xs=(k',x)::r/\k=kD k'/\Abr K H d x/\Abu K H ds r:=by simp only[Abu]
theorem JS{ds:List (aA×aA)}(hm:∀ es,m ≠ .list es:=by intro _ z;cases z):Abr K H (.dict ((.none,m)::ds)) v ↔ ∃ a,∃ ts:Nat×List (List aA×V),v=.ref a/\H a=aa (.dT ts.1 ts.2)/\Acj K H ds ts.2:=by
 rw[Ac0];constructor
 .rintro⟨a,e,⟨kvs,h,r⟩|⟨ts,h,r⟩|⟨xs,h,r⟩⟩
  .obtain⟨k',_,_,_,ek,_⟩:=Aa7.1 r;cases k'<;>simp[kD] at ek
  .exact⟨a,ts,e,h,(Aee.1 r).2⟩
  .obtain⟨es,z,_⟩:=JQ r;cases z;exact absurd rfl (hm es)
 .rintro⟨a,ts,e,h,r⟩;exact⟨a,e,.inr (.inl ⟨ts,h,Aee.2 ⟨rfl,r⟩⟩)⟩
mutual
theorem Abr.ext(x:Ext H H'):∀ {d:aA} {v:V},Abr K H d v->Abr K H' d v
 |.none,_,h=>Abp.2 (Abp.1 h)
 |.bool _,_,h=>Aay.2 (Aay.1 h)
 |.int _,_,h=>Aai.2 (Aai.1 h)
 |.str _,_,h=>Aa6.2 (Aa6.1 h)
 |.list ds,_,h=>by
  obtain⟨a,xs,e,s,r⟩:=Abe.1 h;exact Abe.2 ⟨a,xs,e,x.sqL s,Aao.ext x r⟩
 |.tuple ds,_,h=>by
  obtain⟨a,xs,e,s,r⟩:=Aau.1 h;exact Aau.2 ⟨a,xs,e,x _ _ s,Aao.ext x r⟩
 |.dict ds,_,h=>by
  obtain⟨a,e,⟨kvs,r,q⟩|⟨ts,r,q⟩|⟨xs,r,q⟩⟩:=Ac0.1 h
  .exact Ac0.2 ⟨a,e,.inl ⟨kvs,x _ _ r,Abu.ext x q⟩⟩
  .exact Ac0.2 ⟨a,e,.inr (.inl ⟨ts,x _ _ r,Axk.ext x q⟩)⟩
  .exact Ac0.2 ⟨a,e,.inr (.inr ⟨xs,x _ _ r,Azk.ext x q⟩)⟩
theorem Aao.ext(x:Ext H H'):∀ {ds:List aA} {vs:List V},Aao K H ds vs->Aao K H' ds vs
 |[],_,h=>Aal.2 (Aal.1 h)
 |d::ds,_,h=>by
  obtain⟨y,r,e,h1,h2⟩:=Aag.1 h;exact Aag.2 ⟨y,r,e,Abr.ext x h1,Aao.ext x h2⟩
theorem Abu.ext(x:Ext H H'):∀ {ds:List (aA×aA)} {vs:List (aH×V)},Abu K H ds vs->Abu K H' ds vs
 |[],_,h=>Abq.2 (Abq.1 h)
 |(k,d)::ds,_,h=>by
  obtain⟨k',y,r,e,ek,h1,h2⟩:=Aa7.1 h;exact Aa7.2 ⟨k',y,r,e,ek,Abr.ext x h1,Abu.ext x h2⟩
theorem Acj.ext(x:Ext H H'):∀ {ds:List (aA×aA)} {vs:List (List aA×V)},Acj K H ds vs->Acj K H' ds vs
 |[],_,h=>Adm.2 (Adm.1 h)
 |(k,d)::ds,_,h=>by
  obtain⟨k',y,r,e,ek,h1,h2⟩:=Ab6.1 h;exact Ab6.2 ⟨k',y,r,e,ek,Abr.ext x h1,Acj.ext x h2⟩
theorem Axk.ext(x:Ext H H'):∀ {ds:List (aA×aA)} {vs:List (List aA×V)},Axk K H ds vs->Axk K H' ds vs
 |[],_,h=>absurd h (by simp[Axk])
 |(k,d)::ds,_,h=>Aee.2 ⟨(Aee.1 h).1,Acj.ext x (Aee.1 h).2⟩
theorem Azk.ext(x:Ext H H'):∀ {ds:List (aA×aA)} {vs:List (V×V)},Azk K H ds vs->Azk K H' ds vs
 |[],_,h=>absurd h (by simp[Azk])
 |(k,d)::ds,_,h=>Af5.2 ⟨(Af5.1 h).1,(Af5.1 h).2.1,Arx.ext x (Af5.1 h).2.2⟩
theorem Arx.ext(x:Ext H H'):∀ {d:aA} {vs:List (V×V)},Arx K H d vs->Arx K H' d vs
 |.list es,_,h=>by
  rw[Arx] at h ⊢;exact Ahs.ext x h
 |.none,_,h=>absurd h (by simp[Arx])
 |.bool _,_,h=>absurd h (by simp[Arx])
 |.int _,_,h=>absurd h (by simp[Arx])
 |.str _,_,h=>absurd h (by simp[Arx])
 |.tuple _,_,h=>absurd h (by simp[Arx])
 |.dict _,_,h=>absurd h (by simp[Arx])
theorem Ahs.ext(x:Ext H H'):∀ {ds:List aA} {vs:List (V×V)},Ahs K H ds vs->Ahs K H' ds vs
 |[],_,h=>Au1.2 (Au1.1 h)
 |d::ds,_,h=>by
  obtain⟨y,r,e,h1,h2⟩:=Aq1.1 h;exact Aq1.2 ⟨y,r,e,Awy.ext x h1,Ahs.ext x h2⟩
theorem Awy.ext(x:Ext H H'):∀ {d:aA} {y:V×V},Awy K H d y->Awy K H' d y
 |.tuple ds,_,h=>by
  rw[Awy] at h ⊢;exact Aao.ext x h
 |.none,_,h=>absurd h (by simp[Awy])
 |.bool _,_,h=>absurd h (by simp[Awy])
 |.int _,_,h=>absurd h (by simp[Awy])
 |.str _,_,h=>absurd h (by simp[Awy])
 |.list _,_,h=>absurd h (by simp[Awy])
 |.dict _,_,h=>absurd h (by simp[Awy])
end
theorem Aao.length:∀ {ds:List aA} {vs:List V},Aao K H ds vs->vs.length=ds.length
 |[],_,h=>by rw[Aal.1 h];rfl
 |d::ds,_,h=>by
  obtain⟨y,r,e,h1,h2⟩:=Aag.1 h;rw[e,fU,fU,Aao.length h2]
theorem Aao.get:∀ {ds:List aA} {vs:List V} {i:Nat} {d:aA},Aao K H ds vs->ds[i]?=aa d->∃ v,vs[i]?=aa v/\Abr K H d v
 |[],_,_,_,h,e=>by simp at e
 |d::ds,_,0,d',h,e=>by
  obtain⟨y,r,rfl,h1,h2⟩:=Aag.1 h;have:d=d':=by simpa using e
  rw[10];exact⟨y,rfl,h1⟩
 |d::ds,_,i+1,d',h,e=>by
  obtain⟨y,r,rfl,h1,h2⟩:=Aag.1 h;obtain⟨v,h3,h4⟩:=Aao.get h2 (by simpa using e)
  exact⟨v,by simpa using h3,h4⟩
theorem Aao.append:∀ {ds es:List aA} {vs ws:List V},Aao K H ds vs->Aao K H es ws->Aao K H (ds++es) (vs++ws)
 |[],es,_,_,h,g=>by rw[Aal.1 h];exact g
 |d::ds,es,_,_,h,g=>by
  obtain⟨y,r,rfl,h1,h2⟩:=Aag.1 h;exact Aag.2 ⟨y,_,rfl,h1,Aao.append h2 g⟩
theorem Aao.snoc{vs:List V}(h:Aao K H ds vs)(g:Abr K H d v):Aao K H (ds++[d]) (vs++[v]):=
 h.append (Aag.2 ⟨v,[],rfl,g,Aal.2 rfl⟩)
theorem Aao.drop:∀ {ds:List aA} {vs:List V} (n:Nat),Aao K H ds vs->Aao K H (ds.drop n) (vs.drop n)
 |_,_,0,h=>h
 |[],_,n+1,h=>by rw[Aal.1 h];exact Aal.2 rfl
 |d::ds,_,n+1,h=>by
  obtain⟨y,r,rfl,h1,h2⟩:=Aag.1 h;exact Aao.drop n h2
theorem Aao.take:∀ {ds:List aA} {vs:List V} (n:Nat),Aao K H ds vs->Aao K H (ds.take n) (vs.take n)
 |_,_,0,h=>Aal.2 rfl
 |[],_,n+1,h=>by rw[Aal.1 h];exact Aal.2 rfl
 |d::ds,_,n+1,h=>by
  obtain⟨y,r,rfl,h1,h2⟩:=Aag.1 h;exact Aag.2 ⟨y,_,rfl,h1,Aao.take n h2⟩
theorem Aao.set(g:Abr K H d v):∀ {ds:List aA} {vs:List V} (n:Nat),Aao K H ds vs->Aao K H (ds.set n d) (vs.set n v)
 |[],_,n,h=>by rw[Aal.1 h];exact Aal.2 rfl
 |e::ds,_,0,h=>by
  obtain⟨y,r,rfl,h1,h2⟩:=Aag.1 h;exact Aag.2 ⟨v,r,rfl,g,h2⟩
 |e::ds,_,n+1,h=>by
  obtain⟨y,r,rfl,h1,h2⟩:=Aag.1 h;exact Aag.2 ⟨y,_,rfl,h1,Aao.set g n h2⟩
theorem VC:∀ ns:List Int,Aao K H (ns.map bA) (ns.map V.int)
 |[]=>Aal.2 rfl
 |n::r=>Aag.2 ⟨_,_,rfl,Aai.2 rfl,VC r⟩
theorem Tq {k:aH}(h:Abr K H (kD k) v):v=kV k:=by
 cases k with
 |inl i=>exact Aai.1 h
 |inr x=>exact(Aa6.1 h).1
mutual
theorem Abr.key {K:aM}{H:Hp}:∀ (d:aA) {v:V},bS d=af->Abr K H d v->Ajn H d v
 |.int i,v,_,h=>by simpa [Ajn] using Aai.1 h
 |.str i,v,_,h=>by simpa [Ajn] using(Aa6.1 h).1
 |.tuple ds,v,k,h=>by
  obtain⟨a,xs,e,s,r⟩:=Aau.1 h;simp only[Ajn];exact⟨a,xs,e,s,Aao.keys ds (by simpa [bS] using k) r⟩
 |.none,v,k,_=>by simp[bS] at k
 |.bool _,v,k,_=>by simp[bS] at k
 |.list _,v,k,_=>by simp[bS] at k
 |.dict _,v,k,_=>by simp[bS] at k
theorem Aao.keys {K:aM}{H:Hp}:∀ (ds:List aA) {vs:List V},bY ds=af->Aao K H ds vs->Ags H ds vs
 |[],vs,_,h=>by simpa [Ags] using Aal.1 h
 |d::ds,vs,k,h=>by
  have k':bS d=af/\bY ds=af:=by simpa [bY] using k
  obtain⟨y,r,e,h1,h2⟩:=Aag.1 h;simp only[Ags];exact⟨y,r,e,Abr.key d k'.1 h1,Aao.keys ds k'.2 h2⟩
end
mutual
def dS:aA->Bool
 |.list _=>ag
 |.dict _=>ag
 |.tuple ds=>kR ds
 |_=>af
def kR:List aA->Bool
 |[]=>af
 |d::r=>dS d&&kR r
end
theorem WQ:∀ ds:List aA,kR ds=ds.all dS
 |[]=>by simp[kR]
 |d::r=>by simp[kR,WQ r]
mutual
theorem Abr.flat(x:∀ a xs,H a=aa (.tup xs)->H' a=aa (.tup xs)):∀ (d:aA) {v:V},dS d=af->Abr K H d v->Abr K H' d v
 |.none,_,_,h=>Abp.2 (Abp.1 h)
 |.bool _,_,_,h=>Aay.2 (Aay.1 h)
 |.int _,_,_,h=>Aai.2 (Aai.1 h)
 |.str _,_,_,h=>Aa6.2 (Aa6.1 h)
 |.tuple ds,_,f,h=>by
  obtain⟨a,xs,e,s,r⟩:=Aau.1 h;exact Aau.2 ⟨a,xs,e,x _ _ s,Aao.flat x ds (by simpa [dS] using f) r⟩
 |.list _,_,f,_=>by simp[dS] at f
 |.dict _,_,f,_=>by simp[dS] at f
theorem Aao.flat(x:∀ a xs,H a=aa (.tup xs)->H' a=aa (.tup xs)):∀ (ds:List aA) {vs:List V},kR ds=af->Aao K H ds vs->Aao K H' ds vs
 |[],_,_,h=>Aal.2 (Aal.1 h)
 |d::ds,_,f,h=>by
  have f':dS d=af/\kR ds=af:=by simpa [kR] using f
  obtain⟨y,r,e,h1,h2⟩:=Aag.1 h;exact Aag.2 ⟨y,r,e,Abr.flat x d f'.1 h1,Aao.flat x ds f'.2 h2⟩
end
inductive All3 {α β γ:Type}(R:α->β->γ->Prop):List α->List β->List γ->Prop
 |nil:All3 R [] [] []
 |cons {a b c as bs cs}:R a b c->All3 R as bs cs->All3 R (a::as) (b::bs) (c::cs)
theorem All3.imp {α β γ:Type}{R S:α->β->γ->Prop}:∀ {as:List α} {bs:List β} {cs:List γ},All3 R as bs cs->(∀ a b c,c∈cs->R a b c->S a b c)->All3 S as bs cs:=by
 intro as bs cs h;induction h with
 |nil=>exact λ_=>.nil
 |cons h _ ih=>exact λf=>.cons (f _ _ _ bO h) (ih λa b c m=>f a b c (bN _ m))
def Ad0 (K:aM)(B H:Hp):Nat->aA->V->List aD->Prop
 |0,d,v,F=>F=[]/\Abr K B d v
 |n+1,d,v,F=>match d with
  |.list ds=>∃ p xs Fs,v=.ref p/\H p=aa (.lst xs)/\F=p::Fs.flatten/\All3 (Ad0 K B H n) ds xs Fs
  |.dict kds=>∃ p,∃ kvs:Nat×List (aH×V),∃ Fs,v=.ref p/\H p=aa (.dK kvs.1 kvs.2)/\F=p::Fs.flatten/\All3 (λ(kd:aA×aA) (kv:aH×V) f=>kd.1=kD kv.1/\Ad0 K B H n kd.2 kv.2 f) kds kvs.2 Fs
  |.tuple ds=>(n=0/\F=[]/\Abr K B (.tuple ds) v)\/(n≠0/\∃ p xs Fs,v=.ref p/\B p=aa (.tup xs)/\F=Fs.flatten/\All3 (Ad0 K B H n) ds xs Fs)
  |d=>F=[]/\Abr K B d v
theorem Ad0.keep{B:Hp}(xb:Ext B B'):∀ {n:Nat} {d:aA} {v:V} {F:List aD},(∀ a∈F,H' a=H a)->Ad0 K B H n d v F->Ad0 K B' H' n d v F
 |0,d,v,F,_,h=>⟨h.1,h.2.ext xb⟩
 |n+1,.list ds,v,F,kp,h=>by
  obtain⟨p,xs,Fs,e,hp,rfl,q⟩:=h;refine⟨p,xs,Fs,e,(kp p bO).trans hp,rfl,q.imp λa b c m r=>Ad0.keep xb (λz hz=>kp z (bN _ (gA.2 ⟨c,m,hz⟩))) r⟩
 |n+1,.dict kds,v,F,kp,h=>by
  obtain⟨p,xs,Fs,e,hp,rfl,q⟩:=h;refine⟨p,xs,Fs,e,(kp p bO).trans hp,rfl,q.imp λa b c m r=>⟨r.1,Ad0.keep xb (λz hz=>kp z (bN _ (gA.2 ⟨c,m,hz⟩))) r.2⟩⟩
 |n+1,.none,v,F,_,h=>⟨h.1,h.2.ext xb⟩
 |n+1,.bool _,v,F,_,h=>⟨h.1,h.2.ext xb⟩
 |n+1,.int _,v,F,_,h=>⟨h.1,h.2.ext xb⟩
 |n+1,.str _,v,F,_,h=>⟨h.1,h.2.ext xb⟩
 |n+1,.tuple ds,v,F,kp,h=>by
  rcases h with⟨h0,h1,h2⟩|⟨h0,p,xs,Fs,e,hp,rfl,q⟩
  .exact .inl ⟨h0,h1,h2.ext xb⟩
  .exact .inr ⟨h0,p,xs,Fs,e,xb _ _ hp,rfl,q.imp λa b c m r=>Ad0.keep xb (λz hz=>kp z (gA.2 ⟨c,m,hz⟩)) r⟩
theorem UU{B:Hp}{R:aA->V->List aD->Prop}(f:∀ d v F,R d v F->Abr K B d v):∀ {ds:List aA} {xs:List V} {Fs:List (List aD)},All3 R ds xs Fs->Aao K B ds xs:=by
 intro ds xs Fs h;induction h with
 |nil=>exact Aal.2 rfl
 |cons h _ ih=>exact Aag.2 ⟨_,_,rfl,f _ _ _ h,ih⟩
theorem Zn{B:Hp}{R:aA×aA->aH×V->List aD->Prop}(f:∀ d v F,R d v F->d.1=kD v.1/\Abr K B d.2 v.2):∀ {ds:List (aA×aA)} {xs:List (aH×V)} {Fs:List (List aD)},All3 R ds xs Fs->Abu K B ds xs:=by
 intro ds xs Fs h;induction h with
 |nil=>exact Abq.2 rfl
 |@cons p q F ds xs Fs h _ ih=>
  obtain⟨k,d⟩:=p;obtain⟨k',v⟩:=q;exact Aa7.2 ⟨_,_,_,rfl,(f _ _ _ h).1,(f _ _ _ h).2,ih⟩
theorem Ad0.share{B:Hp}(xb:Ext B B'):∀ {n:Nat} {d:aA} {v:V} {F:List aD},(∀ a∈F,∀ o,H a=aa o->B' a=aa o)->Ad0 K B H n d v F->Abr K B' d v
 |0,d,v,F,_,h=>h.2.ext xb
 |n+1,.list ds,v,F,kp,h=>by
  obtain⟨p,xs,Fs,e,hp,rfl,q⟩:=h;refine Abe.2 ⟨p,xs,e,SqL.of (kp p bO _ hp),?_⟩;exact UU (λd v F r=>r) (q.imp λa b c m r=>Ad0.share xb (λz hz=>kp z (bN _ (gA.2 ⟨c,m,hz⟩))) r)
 |n+1,.dict kds,v,F,kp,h=>by
  obtain⟨p,xs,Fs,e,hp,rfl,q⟩:=h;refine WD e (kp p bO _ hp) ?_;exact Zn (λd v F r=>r) (q.imp λa b c m r=>⟨r.1,Ad0.share xb (λz hz=>kp z (bN _ (gA.2 ⟨c,m,hz⟩))) r.2⟩)
 |n+1,.none,v,F,_,h=>h.2.ext xb
 |n+1,.bool _,v,F,_,h=>h.2.ext xb
 |n+1,.int _,v,F,_,h=>h.2.ext xb
 |n+1,.str _,v,F,_,h=>h.2.ext xb
 |n+1,.tuple ds,v,F,kp,h=>by
  rcases h with⟨h0,h1,h2⟩|⟨h0,p,xs,Fs,e,hp,rfl,q⟩
  .exact h2.ext xb
  .refine Aau.2 ⟨p,xs,e,xb _ _ hp,?_⟩;exact UU (λd v F r=>r) (q.imp λa b c m r=>Ad0.share xb (λz hz=>kp z (gA.2 ⟨c,m,hz⟩)) r)
def fP:Nat->aA->Bool
 |0,d=>dS d
 |n+1,.list ds=>ds.all (fP n)
 |n+1,.dict kds=>kds.all λkd=>fP n kd.2
 |n+2,.tuple ds=>ds.all (fP (n+1))
 |n+1,d=>dS d
theorem Ad0.flat{B:Hp}(xb:∀ a xs,B a=aa (.tup xs)->B' a=aa (.tup xs)):∀ {n:Nat} {d:aA} {v:V} {F:List aD},fP n d=af->Ad0 K B H n d v F->Ad0 K B' H n d v F
 |0,d,v,F,f,h=>⟨h.1,h.2.flat xb d f⟩
 |n+1,.list ds,v,F,f,h=>by
  obtain⟨p,xs,Fs,e,hp,rfl,q⟩:=h;refine⟨p,xs,Fs,e,hp,rfl,?_⟩;have f':∀ d∈ds,fP n d=af:=by simpa [fP] using f
  clear hp f e;induction q with
  |nil=>exact .nil
  |cons h t ih=>exact .cons (Ad0.flat xb (f' _ bO) h) (ih λd m=>f' d (bN _ m))
 |n+1,.dict kds,v,F,f,h=>by
  obtain⟨p,xs,Fs,e,hp,rfl,q⟩:=h;refine⟨p,xs,Fs,e,hp,rfl,?_⟩;have f':∀ d∈kds,fP n d.2=af:=λd m=>by
   have:kds.all (λkd=>fP n kd.2)=af:=by simpa [fP] using f
   exact gD.1 this d m
  clear hp f e;obtain⟨xe,xs⟩:=xs;replace q:All3 _ kds xs Fs:=q;induction q with
  |nil=>exact .nil
  |cons h t ih=>exact .cons ⟨h.1,Ad0.flat xb (f' _ bO) h.2⟩ (ih λd m=>f' d (bN _ m))
 |n+1,.none,v,F,f,h=>⟨h.1,h.2.flat xb _ f⟩
 |n+1,.bool _,v,F,f,h=>⟨h.1,h.2.flat xb _ f⟩
 |n+1,.int _,v,F,f,h=>⟨h.1,h.2.flat xb _ f⟩
 |n+1,.str _,v,F,f,h=>⟨h.1,h.2.flat xb _ f⟩
 |1,.tuple ds,v,F,f,h=>by
  rcases h with⟨h0,h1,h2⟩|⟨h0,_⟩
  .exact .inl ⟨h0,h1,h2.flat xb _ f⟩
  .exact absurd rfl h0
 |n+2,.tuple ds,v,F,f,h=>by
  rcases h with⟨h0,_⟩|⟨h0,p,xs,Fs,e,hp,rfl,q⟩
  .exact absurd h0 ()
  .refine .inr ⟨h0,p,xs,Fs,e,xb _ _ hp,rfl,?_⟩;have f':∀ d∈ds,fP (n+1) d=af:=by simpa [fP] using f
   clear hp f e;induction q with
   |nil=>exact .nil
   |cons h t ih=>exact .cons (Ad0.flat xb (f' _ bO) h) (ih λd m=>f' d (bN _ m))
theorem All3.of {α β γ:Type}{R:α->β->γ->Prop}:∀ {as:List α} {bs:List β} {cs:List γ},All3 R as bs cs->∀ c∈cs,∃ a b,R a b c:=by
 intro as bs cs h;induction h with
 |nil=>exact λc m=>by simp at m
 |cons h _ ih=>
  intro c m;rcases cZ.1 m with rfl|m
  .exact⟨_,_,h⟩
  .exact ih c m
theorem Ad0.mut1{B:Hp}:∀ {n:Nat} {d:aA} {v:V} {F:List aD},Ad0 K B H n d v F->∀ a∈F,(∃ xs,H a=aa (.lst xs))\/∃ q,H a=aa (dO (.inl q))
 |0,d,v,F,h,a,m=>by rw[h.1] at m;simp at m
 |n+1,.list ds,v,F,h,a,m=>by
  obtain⟨p,xs,Fs,e,hp,rfl,q⟩:=h;rcases cZ.1 m with e1|m2
  .rw[e1];exact .inl ⟨xs,hp⟩
  .obtain⟨f,hf,ha⟩:=gA.1 m2;obtain⟨_,_,r⟩:=q.of f hf;exact Ad0.mut1 r a ha
 |n+1,.dict kds,v,F,h,a,m=>by
  obtain⟨p,xs,Fs,e,hp,rfl,q⟩:=h;rcases cZ.1 m with e1|m2
  .rw[e1];exact .inr ⟨xs,hp⟩
  .obtain⟨f,hf,ha⟩:=gA.1 m2;obtain⟨_,_,r⟩:=q.of f hf;exact Ad0.mut1 r.2 a ha
 |n+1,.none,v,F,h,a,m=>by rw[h.1] at m;simp at m
 |n+1,.bool _,v,F,h,a,m=>by rw[h.1] at m;simp at m
 |n+1,.int _,v,F,h,a,m=>by rw[h.1] at m;simp at m
 |n+1,.str _,v,F,h,a,m=>by rw[h.1] at m;simp at m
 |n+1,.tuple ds,v,F,h,a,m=>by
  rcases h with⟨_,h1,_⟩|⟨h0,p,xs,Fs,e,hp,rfl,q⟩
  .rw[h1] at m;simp at m
  .obtain⟨f,hf,ha⟩:=gA.1 m;obtain⟨_,_,r⟩:=q.of f hf;exact Ad0.mut1 r a ha
theorem Ad0.mut{B:Hp}{F:List aD}(h:Ad0 K B H n d v F):∀ a∈F,(∃ xs,H a=aa (.lst xs))\/∃ q:DQ,H a=aa (dO q):=λa m=>(h.mut1 a m).imp id λ⟨q,e⟩=>⟨.inl q,e⟩
def Hw (K:aM)(B H:Hp)(d:aA)(v:V)(F:List aD):Prop:=∃ kds p,∃ ts:Nat×List (List aA×V),d=.dict ((.none,.none)::kds)/\v=.ref p/\H p=aa (.dT ts.1 ts.2)/\F=[p]/\(∀ kd∈kds,dS kd.2=af)/\Acj K B kds ts.2
def Axo (K:aM)(B H:Hp)(d:aA)(v:V)(F:List aD):Prop:=(d=.none/\v=.non/\F=[])\/Hw K B H d v F
def Bhe (K:aM)(B H:Hp)(d:aA)(v:V)(F:List aD):Prop:=∃ iy q Fs,∃ j8:Nat×List (aH×V),d=.dict iy/\v=.ref q/\H q=aa (.dK j8.1 j8.2)/\F=q::Fs.flatten/\All3 (λkd kv f=>kd.1=kD kv.1/\Axo K B H kd.2 kv.2 f) iy j8.2 Fs
def Afz (K:aM)(B H:Hp)(n:Nat)(d:aA)(v:V)(F:List aD):Prop:=if n=9 then Axo K B H d v F else if n=10 then(d=.none/\v=.non/\F=[])\/Bhe K B H d v F else Ad0 K B H n d v F
theorem Acj.flat{B:Hp}(xb:∀ a xs,B a=aa (.tup xs)->B' a=aa (.tup xs)):∀ {kds:List (aA×aA)} {ts:List (List aA×V)},(∀ kd∈kds,dS kd.2=af)->Acj K B kds ts->Acj K B' kds ts
 |[],ts,_,h=>Adm.2 (Adm.1 h)
 |(k,d)::r,ts,f,h=>by
  obtain⟨k',x,rr,e,ek,h1,h2⟩:=Ab6.1 h;exact Ab6.2 ⟨k',x,rr,e,ek,h1.flat xb _ (f (k,d) bO),Acj.flat xb (λkd m=>f kd (bN _ m)) h2⟩
section
variable {B:Hp}{F:List aD}
theorem Axo.keep (xb:Ext B B')(kp:∀ a∈F,H' a=H a)(h:Axo K B H d v F):Axo K B' H' d v F:=h.imp id λh=>by
 obtain⟨kds,p,ts,e1,e2,hp,rfl,f,r⟩:=h;exact⟨kds,p,ts,e1,e2,(kp p bO).trans hp,rfl,f,r.ext xb⟩
theorem Axo.flat (xb:∀ a xs,B a=aa (.tup xs)->B' a=aa (.tup xs))(h:Axo K B H d v F):Axo K B' H d v F:=h.imp id λh=>by
 obtain⟨kds,p,ts,e1,e2,hp,rfl,f,r⟩:=h;exact⟨kds,p,ts,e1,e2,hp,rfl,f,r.flat xb f⟩
theorem Axo.share (xb:Ext B B')(kp:∀ a∈F,∀ o,H a=aa o->B' a=aa o)(h:Axo K B H d v F):Abr K B' d v:=by
 rcases h with⟨rfl,rfl,_⟩|⟨kds,p,ts,rfl,e2,hp,rfl,f,r⟩
 .exact Abp.2 rfl
 exact(JS).2 ⟨p,ts,e2,kp p bO _ hp,r.ext xb⟩
theorem Axo.mut (h:Axo K B H d v F):∀ a∈F,(∃ xs,H a=aa (.lst xs))\/∃ q:DQ,H a=aa (dO q):=by
 rcases h with⟨_,_,rfl⟩|⟨kds,p,ts,e1,e2,hp,rfl,f,r⟩
 .exact λa m=>by simp at m
 intro a m;rw[cM.1 m];exact .inr ⟨.inr ts,hp⟩
theorem Bhe.share (xb:Ext B B')(kp:∀ a∈F,∀ o,H a=aa o->B' a=aa o)(h:Bhe K B H d v F):Abr K B' d v:=by
 obtain⟨iy,q,Fs,⟨xe,j8⟩,rfl,rfl,hq,rfl,h3⟩:=h;refine WD (kvs:=(xe,j8)) rfl (kp q (by simp) _ hq) ?_
 have yb:∀ f∈Fs,∀ p∈f,∀ o,H p=aa o->B' p=aa o:=λf mf p m=>kp p (bN _ (gA.2 ⟨f,mf,m⟩))
 clear hq kp;replace h3:All3 _ iy j8 Fs:=h3;induction h3 with
 |nil=>exact Abq.2 rfl
 |cons h t ih=>exact Aa7.2 ⟨_,_,_,rfl,h.1,h.2.share xb (yb _ bO),ih λf m=>yb f (bN _ m)⟩
theorem Afz.keep (xb:Ext B B')(kp:∀ a∈F,H' a=H a)(h:Afz K B H n d v F):Afz K B' H' n d v F:=by
 unfold Afz at h ⊢;split at h
 .rw[if_pos ‹_›];exact h.keep xb kp
 .rw[if_neg ‹_›];split at h
  .rw[if_pos ‹_›];refine h.imp id λh=>?_
   obtain⟨iy,q,Fs,j8,e1,e2,hq,rfl,h3⟩:=h;exact⟨iy,q,Fs,j8,e1,e2,(kp q bO).trans hq,rfl,h3.imp λkd kv f m r=>⟨r.1,r.2.keep xb λb hb=>kp b (bN _ (gA.2 ⟨f,m,hb⟩))⟩⟩
  .rw[if_neg ‹_›];exact Ad0.keep xb kp h
theorem Afz.share (xb:Ext B B')(kp:∀ a∈F,∀ o,H a=aa o->B' a=aa o)(h:Afz K B H n d v F):Abr K B' d v:=by
 unfold Afz at h;split at h
 .exact h.share xb kp
 .split at h
  .rcases h with⟨rfl,rfl,_⟩|h
   .exact Abp.2 rfl
   .exact h.share xb kp
  .exact Ad0.share xb kp h
theorem Afz.flat (xb:∀ a xs,B a=aa (.tup xs)->B' a=aa (.tup xs))(f:fP n d=af)(h:Afz K B H n d v F):Afz K B' H n d v F:=by
 unfold Afz at h ⊢;split at h
 .rw[if_pos ‹_›];exact h.flat xb
 .rw[if_neg ‹_›];split at h
  .rw[if_pos ‹_›];refine h.imp id λh=>?_
   obtain⟨iy,q,Fs,j8,e1,e2,hq,eF,h3⟩:=h;exact⟨iy,q,Fs,j8,e1,e2,hq,eF,h3.imp λkd kv p m r=>⟨r.1,r.2.flat xb⟩⟩
  .rw[if_neg ‹_›];exact Ad0.flat xb f h
theorem Afz.mut (h:Afz K B H n d v F):∀ a∈F,(∃ xs,H a=aa (.lst xs))\/∃ q:DQ,H a=aa (dO q):=by
 unfold Afz at h;split at h
 .exact h.mut
 .split at h
  .rcases h with⟨_,_,rfl⟩|⟨iy,q,Fs,j8,_,_,hq,rfl,h3⟩
   .exact λa m=>by simp at m
   intro b m;rcases cZ.1 m with rfl|m
   .exact .inr ⟨.inl _,hq⟩
   .obtain⟨f,mf,m⟩:=gA.1 m;obtain⟨_,_,r⟩:=h3.of f mf;exact r.2.mut b m
  .exact Ad0.mut h
end
abbrev EF:=List (Option aA)->Option aA
abbrev BF:=List (Option aA)->Option Bool
abbrev AF:=List (Option aA)->Option (List aA)
def Ama (K:aM)(B:Hp)(Y:List (Option aA))(Z:St):Prop:=∀ (i:Nat) d,Y[i]?=aa (aa d)->∃ v,Z[i]?=aa (aa v)/\Abr K B d v
theorem Ama.ext{B:Hp}(h:Ama K B Y Z)(x:Ext B B'):Ama K B' Y Z:=λi d e=>let ⟨v,h1,h2⟩:=h i d e;⟨v,h1,h2.ext x⟩
def Res (K:aM)(P:aD->Prop)(n:Nat)(d:aA)(H:Hp)(Q:VK):Prop:=
 ∀ v H' Fr,Ext H H'->Fr.Nodup->(∀ a∈Fr,H a=ab/\∃ o,H' a=aa o)->Afz K (hid H' (dh P Fr)) H' n d v Fr->Q v H'
section
variable {P:aD->Prop}
theorem Res.zero (h:Res K P 0 d H Q)(x:Ext H H')(r:Abr K (hid H' P) d v):Q v H':=
 h v H' [] x .nil (λa m=>by simp at m) ⟨rfl,by rw[Cg];exact r⟩
theorem dJ (h:∀ v H',Ext H H'->Abr K (hid H' P) d v->Q v H'):Res K P 0 d H Q:=λv H' Fr x _ _ r=>by
 obtain⟨rfl,r⟩:=r;rw[Cg] at r;exact h v H' x r
theorem Res.mono (h:Res K P n d H Q)(x:Ext H H'):Res K P n d H' Q:=λv H2 Fr x2 nd fr r=>
 h v H2 Fr (x.trans x2) nd (λa m=>⟨x.none (fr a m).1,(fr a m).2⟩) r
theorem Res.of (hP:Hid P H)(h:Res K P 0 d H Q):Res K P n d H Q:=λv H2 Fr x2 nd fr r=>
 h.zero x2 (r.share (gP λa p=>.inl p) λa m o e=>fL (hP.new (fr a m).1) e)
theorem Res.lst{p:aD}(hP:Hid P H)(h:Res K P 1 (.list ds) H Q)(n:H p=ab)(r:Aao K (hid H P) ds xs):Q (.ref p) (upd H p (.lst xs)):=by
 refine h (.ref p) _ [p] (Ext.new n) (iJ.2 ⟨by simp,.nil⟩) (λa m=>?_) ⟨p,xs,xs.map λ_=>[],rfl,eI,?_,?_⟩
 .have:a=p:=by simpa using m
  rw[10];exact⟨n,_,eI⟩
 .have:∀ l:List V,(l.map λ_=>([]:List aD)).flatten=[]:=λl=>by
   induction l with
   |nil=>rfl
   |cons a l ih=>rw[cT,iT,ih];rfl
  rw[this]
 .have xe:Ext (hid H P) (hid (upd H p (.lst xs)) (dh P [p])):=λb o e=>by
   obtain⟨nb,e⟩:=Ab3.1 e;have hb:=kC e n;exact fL (λq=>q.elim nb λm=>hb (by simpa using m)) (by rw[cO hb];exact e)
  generalize hid (upd H p (.lst xs)) (dh P [p])=B at xe;generalize upd H p (.lst xs)=H1;clear h;have go:∀ (ds:List aA) (xs:List V),Aao K (hid H P) ds xs->All3 (Ad0 K B H1 0) ds xs (xs.map λ_=>[]):=by
   intro ds;induction ds with
   |nil=>intro xs r;rw[Aal.1 r];exact .nil
   |cons d ds ih=>
    intro xs r;obtain⟨y,t,rfl,h1,h2⟩:=Aag.1 r;exact .cons ⟨rfl,h1.ext xe⟩ (ih t h2)
  exact go ds xs r
theorem Res.tup{p:aD}(hP:Hid P H)(h:Res K P 0 (.tuple ds) H Q)(n:H p=ab)(r:Aao K (hid H P) ds xs):Q (.ref p) (upd H p (.tup xs)):=by
 refine h.zero (Ext.new n) (Aau.2 ⟨p,xs,rfl,fL (hP.new n) eI,r.ext λb o e=>?_⟩)
 obtain⟨nb,e⟩:=Ab3.1 e;exact fL nb (Ext.new n _ _ e)
end
def tF (K:aM)(n:Nat)(f:EF):TE:=λZ H Q=>∃ P Y d,Hid P H/\Ama K (hid H P) Y Z/\f Y=aa d/\Res K P n d H Q
def mn (K:aM)(f:BF):TT:=λZ H Q=>∃ P Y b,Hid P H/\Ama K (hid H P) Y Z/\f Y=aa b/\∀ H',Ext H H'->Q b H'
def G4 (K:aM)(f:AF):TA:=λZ H Q=>∃ P Y ds,Hid P H/\Ama K (hid H P) Y Z/\f Y=aa ds/\∀ vs H',Ext H H'->Aao K (hid H' P) ds vs->Q vs H'
abbrev DF (n:Nat)(X:Cx)(e:aR)(f:EF):Prop:=PE X e (tF X.K n f)
abbrev DE (X:Cx)(e:aR)(f:EF):Prop:=PE X e (tF X.K 0 f)
abbrev DT (X:Cx)(e:aR)(f:BF):Prop:=PT X e (mn X.K f)
abbrev DW (X:Cx)(e:aR)(f:BF):Prop:=PW X e (mn X.K f)
abbrev DA (X:Cx)(es:List aR)(f:AF):Prop:=PA X es (G4 X.K f)
section
variable {a:aR}
theorem PE.imp {t t':TE}(h:PE X e t)(w:∀ Z H Q,t' Z H Q->t Z H Q):PE X e t':=λad s Z H Q I q=>h ad s Z H Q I (w _ _ _ q)
theorem PT.imp {t t':TT}(h:PT X e t)(w:∀ Z H Q,t' Z H Q->t Z H Q):PT X e t':=λad s Z H Q I q=>h ad s Z H Q I (w _ _ _ q)
theorem PW.imp {t t':TT}(h:PW X e t)(w:∀ Z H Q,t' Z H Q->t Z H Q):PW X e t':=λdt ad s Z H Q I q=>h dt ad s Z H Q I (w _ _ _ q)
theorem PA.imp {t t':TA}(h:PA X es t)(w:∀ Z H Q,t' Z H Q->t Z H Q):PA X es t':=λpos ad s Z H Q I q=>h pos ad s Z H Q I (w _ _ _ q)
theorem hZ {f:EF}(h:DF n X e f):DE X e f:=PE.imp h λZ H Q ⟨P,Y,d,hP,rs,ef,k⟩=>⟨P,Y,d,hP,rs,ef,Res.of hP k⟩
noncomputable def aB (i:Nat):EF:=λY=>(Y[i]?).join
theorem VX(h:aB i Y=aa d):Y[i]?=aa (aa d):=by
 unfold aB at h
 grind
theorem cV (i:Nat)(hN:Nm X i x:=by exact gL):DE X (.Name x pos) (aB i):=PE.imp (hN.pe) λZ H Q gh=>by
 rw[4];obtain⟨v,h1,h2⟩:=rs i d (VX ef);exact⟨v,h1,k.zero Ext.refl h2⟩
def eC (d:aA):EF:=λ_=>aa d
theorem wQ(h:PE X e (tC v))(hr:∀ H,Abr X.K H d v):DE X e (eC d):=PE.imp h λZ H Q gh=>by
 obtain⟨P,Y,d',hP,rs,ef,k⟩:=gh;cases ef;exact k.zero Ext.refl (hr _)
theorem fK {i j}:DE X (.Constant (.int i) j pos) (eC (.int i)):=wQ Bp λ_=>Aai.2 rfl
theorem OY {i j}:DE X (.Constant (.bool i) j pos) (eC (.bool i)):=wQ Ib λ_=>Aay.2 rfl
theorem AW {j}:DE X (.Constant .none j pos) (eC .none):=wQ Aj λ_=>Abp.2 rfl
theorem GL {i j}(h:cI (.str i)=af:=by rw[0]):DE X (.Constant (.str i) j pos) (eC (.str i)):=wQ Kg λ_=>Aa6.2 ⟨rfl,h⟩
theorem Xj{i:Int}{u:aF}(hg:Gl X x)(hm:X.mg x=aa u)(r:RelV (.int i) u)(hd:(x==("__debug__" : aE))=ag:=by decide):DE X (.Name x pos) (eC (.int i)):=wQ (Pl hg hm r hd) λ_=>Aai.2 rfl
def aG:AF:=λ_=>aa []
def aC (f:EF)(g:AF):AF:=λY=>(f Y).bind λd=>(g Y).bind λds=>aa (d::ds)
theorem jF:DA X [] aG:=PA.imp iH λZ H Q gh=>by
 rw[4];cases ef;exact k [] H Ext.refl (Aal.2 rfl)
theorem gZ {f:EF}{g:AF}(h1:DE X e f)(h2:DA X es g)(hs:cA (e::es) X.env=(ag,bW e X.env)::cA es X.env:=by rfl):DA X (e::es) (aC f g):=
 PA.imp (eZ h1 h2 hs) λZ H Q gh=>by
  obtain⟨P,Y,ds,hP,rs,ef,k⟩:=gh;obtain⟨d,e1,ef⟩:=aj ef;obtain⟨r,e2,ef⟩:=aj ef;cases ef;exact⟨P,Y,d,hP,rs,e1,dJ λv H1 x1 r1=>⟨P,Y,r,hP.ext x1,rs.ext (cK x1),e2,λvs H2 x2 r2=>
   k _ _ (x1.trans x2) (Aag.2 ⟨v,vs,rfl,r1.ext (cK x2),r2⟩)⟩⟩
def dI (g:AF):EF:=λY=>(g Y).bind λds=>if ds.length<=sizeLine then aa (.tuple ds) else ab
def cU (g:AF):EF:=λY=>(g Y).bind λds=>if ds.length<=sizeLine then aa (.list ds) else ab
theorem cR {α:Type}{c:Prop}[Decidable c]{x y:α}(h:(if c then aa x else ab)=aa y):c/\x=y:=by
 grind
theorem GS {g:AF}{x1}(h:DA X es g):DE X (.Tuple es x1 pos) (dI g):=PE.imp (Bd h) λZ H Q gh=>by
 rw[4];obtain⟨ds,e1,ef⟩:=aj ef;obtain⟨hl,rfl⟩:=cR ef;exact⟨P,Y,ds,hP,rs,e1,λvs H1 x1 r1=>⟨by rw[r1.length];exact hl,λp hp=>(k.mono x1).tup (hP.ext x1) hp r1⟩⟩
theorem uP {g:AF}(h:DA X es g):DF 1 X (.List es pos) (cU g):=PE.imp (Ji h) λZ H Q gh=>by
 rw[4];obtain⟨ds,e1,ef⟩:=aj ef;obtain⟨hl,rfl⟩:=cR ef;exact⟨P,Y,ds,hP,rs,e1,λvs H1 x1 r1=>⟨by rw[r1.length];exact hl,λp hp=>(k.mono x1).lst (hP.ext x1) hp r1⟩⟩
def OpD (K:aM)(n:Nat)(r:R2)(g:aA->aA->Option aA):Prop:=
 ∀ (P:aD->Prop) (H:Hp) (x y:V) (a b d:aA) (Q:VK),Hid P H->Abr K (hid H P) a x->Abr K (hid H P) b y->g a b=aa d->Res K P n d H Q->r x y H Q
def ah (g:aA->aA->Option aA)(fa fb:EF):EF:=λY=>(fa Y).bind λa=>(fb Y).bind λb=>g a b
theorem FT{fa fb:EF}(hg:OpD K n r g):∀ Z H Q,tF K n (ah g fa fb) Z H Q->qm r (tF K 0 fa) (tF K 0 fb) Z H Q:=λZ H Q gh=>by
 rw[4];obtain⟨d1,e1,ef⟩:=aj ef;obtain⟨d2,e2,ef⟩:=aj ef;exact⟨P,Y,d1,hP,rs,e1,dJ λv H1 x1 r1=>⟨P,Y,d2,hP.ext x1,rs.ext (cK x1),e2,dJ λu H2 x2 r2=>
  hg P H2 v u d1 d2 d Q (hP.ext (x1.trans x2)) (r1.ext (cK x2)) r2 ef (k.mono (x1.trans x2))⟩⟩
theorem pF {op:Operator}{fa fb:EF}(ho:OpR X (jQ op) r)(hg:OpD X.K n r g)(ha:DE X a fa)(hb:DE X b fb):DF n X (.BinOp a op b pos) (ah g fa fb):=PE.imp (Gq ho ha hb) (FT hg)
theorem nO {op:CmpOp}{fa fb:EF}(ho:OpR X (iB op) r)(hg:OpD X.K 0 r g)(ha:DE X a fa)(hb:DE X b fb)(hm:tR op b=ag):DE X (.Compare a [op] [b] pos) (ah g fa fb):=PE.imp (Pg ho ha hb hm) (FT hg)
theorem OpD.or{r':R2}{g':aA->aA->Option aA}(h:OpD K n r g)(h':OpD K n r' g'):OpD K n (λx y H Q=>r x y H Q\/r' x y H Q) (λa b=>(g a b).or (g' a b)):=λP H x y a b d Q hP ra rb e k=>by
 have e:(g a b).or (g' a b)=aa d:=e;cases q:g a b with
 |some d'=>
  rw[q] at e;cases e;exact .inl (h P H x y a b d Q hP ra rb q k)
 |none=>
  rw[q] at e;exact .inr (h' P H x y a b d Q hP ra rb (by simpa using e) k)
theorem OpD.as{g':aA->aA->Option aA}(h:OpD K n r g)(e:∀ a b d,g' a b=aa d->g a b=aa d):OpD K n r g':=λP H x y a b d Q hP ra rb q k=>h P H x y a b d Q hP ra rb (e a b d q) k
def ff (g:aA->Option aA)(fa:EF):EF:=λY=>(fa Y).bind g
def CallD (K:aM)(n:Nat)(r:List V->Hp->VK->Prop)(g:List aA->Option aA):Prop:=
 ∀ (P:aD->Prop) (H:Hp) (xs:List V) (ds:List aA) (d:aA) (Q:VK),Hid P H->Aao K (hid H P) ds xs->g ds=aa d->Res K P n d H Q->r xs H Q
def aJ (g:List aA->Option aA)(fa:AF):EF:=λY=>(fa Y).bind g
variable {r:List V->Hp->VK->Prop}{g:List aA->Option aA}{fa:AF}{id:String}
theorem nX (hc:Adc X (.builtin id) r)(hg:CallD X.K n r g)(rj:Gl X x)(hm:X.mg x=ab)(hv:lV x=aa (.builtin id))(ha:DA X (e::es) fa)(hn:x ≠ "__name__":=by decide)(ic:(x==("__debug__" : aE))=ag:=by decide)
  (he:cA (e::es) X.env=(ag,bW e X.env)::cA es X.env:=by rfl) (gs:(iQ pos (cA es X.env)).any (·.1)=ag:=by rfl):DF n X (.Call (.Name x p) (e::es) [] pos) (aJ g fa):=
 PE.imp (SX hc rj hm hv ha hn ic he gs) λZ H Q gh=>by
  rw[4];obtain⟨d1,e1,ef⟩:=aj ef;exact⟨P,Y,d1,hP,rs,e1,λvs H1 x1 r1=>hg P H1 vs d1 d Q (hP.ext x1) r1 ef (k.mono x1)⟩
theorem lO (hc:Adc X (.type T) r)(hg:CallD X.K n r g)(rj:Gl X x)(hm:X.mg x=ab)(hv:lV x=aa (.type T))(ha:DA X (e::es) fa)(hn:x ≠ "__name__":=by decide)(ic:(x==("__debug__" : aE))=ag:=by decide)
  (he:cA (e::es) X.env=(ag,bW e X.env)::cA es X.env:=by rfl) (gs:(iQ pos (cA es X.env)).any (·.1)=ag:=by rfl):DF n X (.Call (.Name x p) (e::es) [] pos) (aJ g fa):=
 PE.imp (JV hc rj hm hv ha hn ic he gs) λZ H Q gh=>by
  rw[4];obtain⟨d1,e1,ef⟩:=aj ef;exact⟨P,Y,d1,hP,rs,e1,λvs H1 x1 r1=>hg P H1 vs d1 d Q (hP.ext x1) r1 ef (k.mono x1)⟩
def l5:aA->Option Bool
 |.bool b=>aa b
 |_=>ab
theorem BY{b:Bool}(h:l5 d=aa b):d=.bool b:=by
 cases d<;>simp[l5] at h;rw[h]
def ak (f:EF):BF:=λY=>(f Y).bind l5
theorem ZZ {f:EF}(h:DE X e f)(he:∀ dt,isTrue e X.env dt=(do let v <-dt;standAt e.pos;kX [v] (truthy v)):=by intro _;rfl):DT X e (ak f):=PT.imp (Kb h he) λZ H Q gh=>by
 obtain⟨P,Y,b,hP,rs,ef,k⟩:=gh;obtain⟨d,e1,ef⟩:=aj ef;cases BY ef;exact⟨P,Y,_,hP,rs,e1,dJ λv H1 x1 r1=>⟨b,Aay.1 r1,k H1 x1⟩⟩
theorem jW {op:CmpOp}{r:R2}{g:aA->aA->Option aA}{fa fb:EF}(ho:OpR X (iB op) r)(hg:OpD X.K 0 r g)(ha:DE X a fa)(hb:DE X b fb)(hm:tR op b=ag):DT X (.Compare a [op] [b] pos) (ak (ah g fa fb)):=
 PT.imp (HR ho ha hb hm) λZ H Q gh=>by
  obtain⟨P,Y,c,hP,rs,ef,k⟩:=gh;obtain⟨d,e1,ef⟩:=aj ef;cases BY ef;exact FT hg Z H _ ⟨P,Y,_,hP,rs,e1,dJ λv H1 x1 r1=>⟨c,Aay.1 r1,k H1 x1⟩⟩
def rQ (f:BF):BF:=λY=>(f Y).bind λb=>aa (!b)
def dZ (f g:BF):BF:=λY=>(f Y).bind λb=>if b=af then g Y else aa ag
def l9 (f g:BF):BF:=λY=>(f Y).bind λb=>if b=af then aa af else g Y
variable {fB gB:BF}{rest:List aR}
theorem Jq (h:DT X a fB):DT X (.UnaryOp .Not a pos) (rQ fB):=PT.imp (Jk h) λZ H Q gh=>by
 obtain⟨P,Y,c,hP,rs,ef,k⟩:=gh;obtain⟨b,e1,ef⟩:=aj ef;cases ef;exact⟨P,Y,b,hP,rs,e1,λH1 x1=>k H1 x1⟩
theorem QS (h:DT X a fB):DW X (.BoolOp .And [a] pos) fB:=QB h
theorem Lf (h:DT X a fB):DW X (.BoolOp .Or [a] pos) fB:=Kj h
theorem Br (h:DT X a fB)(h2:DW X (.BoolOp .And (b::rest) pos) gB):DW X (.BoolOp .And (a::b::rest) pos) (dZ fB gB):=PW.imp (Az h h2) λZ H Q gh=>by
 obtain⟨P,Y,c,hP,rs,ef,k⟩:=gh;obtain⟨b,e1,ef⟩:=aj ef;refine⟨P,Y,b,hP,rs,e1,λH1 x1=>?_⟩
 cases b with
 |true=>exact oF ⟨P,Y,c,hP.ext x1,rs.ext (cK x1),by simpa using ef,λH2 x2=>k H2 (x1.trans x2)⟩
 |false=>
  grind
theorem Ih (h:DT X a fB)(h2:DW X (.BoolOp .Or (b::rest) pos) gB):DW X (.BoolOp .Or (a::b::rest) pos) (l9 fB gB):=PW.imp (Hn h h2) λZ H Q gh=>by
 obtain⟨P,Y,c,hP,rs,ef,k⟩:=gh;obtain⟨b,e1,ef⟩:=aj ef;refine⟨P,Y,b,hP,rs,e1,λH1 x1=>?_⟩
 cases b with
 |true=>
  grind
 |false=>exact oH ⟨P,Y,c,hP.ext x1,rs.ext (cK x1),by simpa using ef,λH2 x2=>k H2 (x1.trans x2)⟩
theorem FQ (h:DW X a fB):DT X a fB:=h.pt
def AK (f:EF):EF:=λY=>(f Y).bind λd=>(l5 d).bind λb=>aa (.bool (!b))
def uC (f g:EF):EF:=λY=>(f Y).bind λd=>(l5 d).bind λb=>if b=af then g Y else aa (.bool ag)
variable {f1 f2:EF}
theorem Lg {op}(h:DE X a f1):DE X (.BoolOp op [a] pos) f1:=Ip h
theorem Lo (h:DE X a f1):DE X (.UnaryOp .Not a pos) (AK f1):=PE.imp (Jt h) λZ H Q gh=>by
 obtain⟨P,Y,c,hP,rs,ef,k⟩:=gh;obtain⟨d,e1,ef⟩:=aj ef;obtain⟨b,e2,bv⟩:=aj ef;clear ef;have ef:=bv;clear bv;cases ef;cases BY e2;exact⟨P,Y,_,hP,rs,e1,dJ λv H1 x1 r1=>⟨b,Aay.1 r1,k.zero x1 (Aay.2 rfl)⟩⟩
theorem LP (h:DE X a f1)(h2:DE X (.BoolOp .And (b::rest) pos) f2):DE X (.BoolOp .And (a::b::rest) pos) (uC f1 f2):=PE.imp (Jx h h2) λZ H Q gh=>by
 obtain⟨P,Y,c,hP,rs,ef,k⟩:=gh;obtain⟨d,e1,ef⟩:=aj ef;obtain⟨b,e2,bv⟩:=aj ef;clear ef;have ef:=bv;clear bv;cases BY e2;refine⟨P,Y,_,hP,rs,e1,dJ λv H1 x1 r1=>⟨b,Aay.1 r1,?_⟩⟩
 cases b with
 |true=>exact oF ⟨P,Y,c,hP.ext x1,rs.ext (cK x1),by simpa using ef,k.mono x1⟩
 |false=>
  have:fA ag=c:=by simpa using ef
  rw[10];exact oH (k.zero x1 (Aay.2 rfl))
def xm (t:BF)(f g:EF):EF:=λY=>(t Y).bind λb=>if b=af then f Y else g Y
theorem Vw{t:BF}(hc:DT X c t)(ha:DF n X a f1)(hb:DF n X b f2):DF n X (.IfExp c a b pos) (xm t f1 f2):=PE.imp (IK hc ha hb) λZ H Q gh=>by
 rw[4];obtain⟨b,e1,ef⟩:=aj ef;refine⟨P,Y,b,hP,rs,e1,λH1 x1=>?_⟩
 cases b with
 |true=>exact oF ⟨P,Y,d,hP.ext x1,rs.ext (cK x1),by simpa using ef,k.mono x1⟩
 |false=>exact oH ⟨P,Y,d,hP.ext x1,rs.ext (cK x1),by simpa using ef,k.mono x1⟩
end
abbrev Slot:=Option (Nat×aA)
abbrev aP:=List Slot
def vS (Y:aP):List (Option aA):=Y.map λs=>match s with|some (0,d)=>aa d|_=>ab
def vA (Y:aP):List (Option aA):=Y.map λs=>s.map (·.2)
theorem Kt {Y:aP}(h:(vS Y)[i]?=aa (aa d)):Y[i]?=aa (aa (0,d)):=by
 unfold vS at h
 grind
theorem Ks {Y:aP}(h:(vA Y)[i]?=aa (aa d)):∃ n,Y[i]?=aa (aa (n,d)):=by
 unfold vA at h;rw[fN] at h;cases e:Y[i]? with
 |none=>rw[e] at h;simp at h
 |some s=>
  rw[e] at h;cases s with
  |none=>simp at h
  |some q=>
   grind
abbrev Hd (P0:aD->Prop)(fp:Nat->List aD):aD->Prop:=λa=>P0 a\/∃ i,a∈fp i
structure Sta (K:aM)(H0:Hp)(P0:aD->Prop)(B0:Hp)(Y:aP)(Z:St)(H:Hp)(fp:Nat->List aD):Prop where
 len:Z.length=Y.length
 nd:∀ i,(fp i).Nodup
 dj:∀ i j a,a∈fp i->a∈fp j->i=j
 own:∀ i a,a∈fp i->H0 a=ab/\((∃ xs,H a=aa (.lst xs))\/∃ q:DQ,H a=aa (dO q))
 ext:Ext H0 H
 hd:Hid P0 H0
 base:Ext B0 (hid H (Hd P0 fp))
 slot:∀ (i:Nat) n d,Y[i]?=aa (aa (n,d))->∃ v,Z[i]?=aa (aa v)/\Afz K (hid H (Hd P0 fp)) H n d v (fp i)
section
variable {Y:aP}
theorem Sta.hid (S:Sta K H0 P0 B0 Y Z H fp):Hid (Hd P0 fp) H:=λa h=>by
 rcases h with h|⟨i,h⟩
 .exact S.hd.ext S.ext a h
 .exact(S.own i a h).2
theorem Sta.np (S:Sta K H0 P0 B0 Y Z H fp)(m:a∈fp i):¬ P0 a:=S.hd.new (S.own i a m).1
theorem Sta.grow (S:Sta K H0 P0 B0 Y Z H fp)(x:Ext H H'):Sta K H0 P0 B0 Y Z H' fp:=by
 refine⟨S.len,S.nd,S.dj,λi a m=>⟨(S.own i a m).1,(S.own i a m).2.imp (λ⟨xs,e⟩=>⟨xs,x _ _ e⟩) λ⟨xs,e⟩=>⟨xs,x _ _ e⟩⟩,S.ext.trans x,S.hd,S.base.trans (cK x),λi n d e=>?_⟩
 obtain⟨v,h1,h2⟩:=S.slot i n d e;refine⟨v,h1,h2.keep (cK x) λa m=>?_⟩
 rcases(S.own i a m).2 with⟨xs,e⟩|⟨xs,e⟩
 all_goals grind
theorem Sta.viewS (S:Sta K H0 P0 B0 Y Z H fp):Ama K (L2.hid H (Hd P0 fp)) (vS Y) Z:=λi d e=>by
 obtain⟨v,h1,h2⟩:=S.slot i 0 d (Kt e);exact⟨v,h1,h2.2⟩
theorem Sta.viewA (S:Sta K H0 P0 B0 Y Z H fp):Ama K (L2.hid H P0) (vA Y) Z:=λi d e=>by
 obtain⟨n,e⟩:=Ks e;obtain⟨v,h1,h2⟩:=S.slot i n d e;exact⟨v,h1,h2.share (gP λa p=>.inl p) λa m o e=>fL (S.np m) e⟩
def Tmp (K:aM)(H0:Hp)(P0:aD->Prop)(B0:Hp)(Y:aP)(Z:St)(n:Nat)(d:aA)(v:V)(H:Hp):Prop:=
 ∃ fp,Sta K H0 P0 B0 Y Z H fp/\Afz K (L2.hid H (Hd P0 fp)) H n d v (fp Y.length)
inductive Md|s|a
noncomputable def eV (n:Nat)(m:Md)(f:EF)(Y:aP):Option aA:=match m with
 |.s=>f (vS Y)
 |.a=>(f (vA Y)).bind λd=>if fP n d=af then aa d else ab
noncomputable def bV (m:Md)(f:BF)(Y:aP):Option Bool:=match m with
 |.s=>f (vS Y)
 |.a=>f (vA Y)
noncomputable def aV (m:Md)(f:AF)(Y:aP):Option (List aA):=match m with
 |.s=>f (vS Y)
 |.a=>f (vA Y)
def tE (K:aM)(H0:Hp)(P0:aD->Prop)(n:Nat)(m:Md)(f:EF):TE:=λZ H Q=>∃ B0 Y fp d,Sta K H0 P0 B0 Y Z H fp/\eV n m f Y=aa d/\∀ v H',Tmp K H0 P0 B0 Y Z n d v H'->Q v H'
end
theorem Sta.trim{Y:aP}(S:Sta K H0 P0 B0 Y Z H fp):∃ bw,Sta K H0 P0 B0 Y Z H bw/\∀ i a,a∈bw i->a∈fp i/\∃ n d,Y[i]?=aa (aa (n,d)):=by
 let bw:Nat->List aD:=λi=>match Y[i]? with
  |some (aa _)=>fp i
  |_=>[]
 have sub:∀ i a,a∈bw i->a∈fp i/\∃ n d,Y[i]?=aa (aa (n,d)):=λi a m=>by
  grind
 have same:∀ i n d,Y[i]?=aa (aa (n,d))->bw i=fp i:=λi n d e=>by
  grind
 have xb:Ext (L2.hid H (Hd P0 fp)) (L2.hid H (Hd P0 bw)):=gP λa h=>h.imp id λ⟨i,m⟩=>⟨i,(sub i a m).1⟩
 refine⟨bw,⟨S.len,λi=>?_,λi j a h1 h2=>S.dj i j a (sub i a h1).1 (sub j a h2).1,λi a m=>S.own i a (sub i a m).1,S.ext,S.hd,S.base.trans xb,λi n d e=>?_⟩,sub⟩
 .show(match Y[i]? with|some (aa _)=>fp i|_=>[]).Nodup
  split
  .exact S.nd i
  .exact Ec
 .obtain⟨v,h1,h2⟩:=S.slot i n d e;rw[same i n d e];exact⟨v,h1,h2.keep xb λa m=>rfl⟩
theorem NZ{f:EF}(m:Md):∀ Z H Q,tE K H0 P0 n m f Z H Q->tF K n f Z H Q:=λZ H Q gh=>by
 obtain⟨B0,Y,fp,d,S,ef,k⟩:=gh;cases m with
 |s=>
  refine⟨Hd P0 fp,vS Y,d,S.hid,S.viewS,ef,λv H' Fr x nd fr r=>k v H' ?_⟩
  have S':=S.grow x;have cw:∀ a,Hd P0 (λi=>if i=Y.length then Fr else fp i) a->dh (Hd P0 fp) Fr a:=λa h=>by
   grind
  have z0:∀ i a,a∈fp i->a∉Fr:=λi a h1 h2=>by
   have:=(fr a h2).1;rcases(S.own i a h1).2 with⟨xs,e⟩|⟨xs,e⟩<;>rw[this] at e<;>first|cases e|(cases xs<;>simp[dO] at e)
  have xb:Ext (L2.hid H (Hd P0 fp)) (L2.hid H' (Hd P0 λi=>if i=Y.length then Fr else fp i)):=λb o e=>by
   obtain⟨nb,e⟩:=Ab3.1 e;refine fL (λq=>?_) (x _ _ e)
   grind
  refine⟨λi=>if i=Y.length then Fr else fp i,⟨S.len,λi=>?_,λi j a hi hj=>?_,λi a hi=>?_,S'.ext,S.hd,S.base.trans xb,λi n' d' e'=>?_⟩,?_⟩
  .by_cases hi:i=Y.length
   .simp only[hi,if_true];exact nd
   .simp only[hi,if_false];exact S.nd i
  .by_cases h1:i=Y.length<;>by_cases h2:j=Y.length
   .rw[h1,h2]
   .grind
   .grind
   .simp only[h1,if_false] at hi;simp only[h2,if_false] at hj;exact S.dj i j a hi hj
  .by_cases h1:i=Y.length
   .simp only[h1,if_true] at hi;exact⟨S.ext.none (fr a hi).1,r.mut a hi⟩
   .simp only[h1,if_false] at hi;exact S'.own i a hi
  .have cr:=(cW.1 e').1;have h1:i≠Y.length:=()
   obtain⟨v',q1,q2⟩:=S'.slot i n' d' e';refine⟨v',q1,?_⟩;simp only[h1,if_false];obtain⟨v2,p1,p2⟩:=S.slot i n' d' e';have ev:=gQ (gQ (p1.symm.trans q1));subst ev;refine p2.keep xb λa m=>?_
   rcases(S.own i a m).2 with⟨xs,e⟩|⟨xs,e⟩
   all_goals grind
  .simp only[if_true];exact r.keep (gP cw) λa m=>rfl
 |a=>
  obtain⟨d',ed,ef⟩:=aj ef;obtain⟨fl,rfl⟩:=cR ef;obtain⟨fp,S,trm⟩:=S.trim;refine⟨P0,vA Y,d',S.hd.ext S.ext,S.viewA,ed,λv H' Fr x nd fr r=>k v H' ?_⟩
  have S':=S.grow x;have z0:∀ i a,a∈fp i->a∉Fr:=λi a h1 h2=>by
   have:=(fr a h2).1;rcases(S.own i a h1).2 with⟨xs,e⟩|⟨xs,e⟩<;>rw[this] at e<;>first|cases e|(cases xs<;>simp[dO] at e)
  have xb:Ext (L2.hid H (Hd P0 fp)) (L2.hid H' (Hd P0 λi=>if i=Y.length then Fr else fp i)):=λb o e=>by
   obtain⟨nb,e⟩:=Ab3.1 e;refine fL (λq=>?_) (x _ _ e)
   grind
  refine⟨λi=>if i=Y.length then Fr else fp i,⟨S.len,λi=>?_,λi j a hi hj=>?_,λi a hi=>?_,S'.ext,S.hd,S.base.trans xb,λi n' d' e'=>?_⟩,?_⟩
  .by_cases hi:i=Y.length
   .simp only[hi,if_true];exact nd
   .simp only[hi,if_false];exact S.nd i
  .by_cases h1:i=Y.length<;>by_cases h2:j=Y.length
   .rw[h1,h2]
   .grind
   .grind
   .simp only[h1,if_false] at hi;simp only[h2,if_false] at hj;exact S.dj i j a hi hj
  .by_cases h1:i=Y.length
   .simp only[h1,if_true] at hi;exact⟨S.ext.none (fr a hi).1,r.mut a hi⟩
   .simp only[h1,if_false] at hi;exact S'.own i a hi
  .have cr:=(cW.1 e').1;have h1:i≠Y.length:=()
   obtain⟨v2,p1,p2⟩:=S.slot i n' d' e';refine⟨v2,p1,?_⟩;simp only[h1,if_false];refine p2.keep xb λa m=>?_
   rcases(S.own i a m).2 with⟨xs,e⟩|⟨xs,e⟩
   all_goals grind
  .simp only[if_true];refine r.flat (λa xs e=>?_) fl
   obtain⟨na,e⟩:=Ab3.1 e;refine fL (λq=>?_) e
   rcases q with q|⟨j,q⟩
   .exact na (.inl q)
   .by_cases hj:j=Y.length
    .grind
    .simp only[hj,if_false] at q;rcases(S'.own j a q).2 with⟨ys,e2⟩|⟨ys,e2⟩<;>rw[e] at e2<;>first|cases e2|(cases ys<;>simp[dO] at e2)
theorem ev {f:EF}(m:Md)(h:DF n X e f):PE X e (tE X.K H0 P0 n m f):=PE.imp h (NZ m)
def tB' (K:aM)(H0:Hp)(P0:aD->Prop)(m:Md)(f:BF):TT:=λZ H Q=>∃ B0 Y fp b,Sta K H0 P0 B0 Y Z H fp/\bV m f Y=aa b/\∀ H',Sta K H0 P0 B0 Y Z H' fp->Q b H'
theorem t8 {f:BF}(m:Md)(h:DT X e f):PT X e (tB' X.K H0 P0 m f):=PT.imp h λZ H Q gh=>by
 obtain⟨B0,Y,fp,b,S,ef,k⟩:=gh;cases m with
 |s=>exact⟨Hd P0 fp,vS Y,b,S.hid,S.viewS,ef,λH' x=>k H' (S.grow x)⟩
 |a=>exact⟨P0,vA Y,b,S.hd.ext S.ext,S.viewA,ef,λH' x=>k H' (S.grow x)⟩
inductive Out where
 |nx (Y:aP)|rt (d:aA)|bk (Y:aP)|ct (Y:aP)
abbrev SF:=aP->Option Out
def NX (K:aM)(H0:Hp)(P0:aD->Prop)(n0:Nat)(d:aA)(v:V)(H':Hp):Prop:=
 ∃ Fr,Ext H0 H'/\Fr.Nodup/\(∀ a∈Fr,H0 a=ab/\∃ o,H' a=aa o)/\Afz K (hid H' (dh P0 Fr)) H' n0 d v Fr
def PC (K:aM)(H0:Hp)(P0:aD->Prop)(B0:Hp)(n0:Nat)(D:Ends):Out->Prop
 |.nx Y=>∀ Z H fp,Sta K H0 P0 B0 Y Z H fp->D.nx Z H
 |.bk Y=>∀ Z H fp,Sta K H0 P0 B0 Y Z H fp->D.bk Z H
 |.ct Y=>∀ Z H fp,Sta K H0 P0 B0 Y Z H fp->D.ct Z H
 |.rt d=>∀ v H',NX K H0 P0 n0 d v H'->D.rt v H'
def tS (K:aM)(H0:Hp)(P0:aD->Prop)(n0:Nat)(F:SF):TS:=λD Z H=>∃ B0 Y fp o,Sta K H0 P0 B0 Y Z H fp/\F Y=aa o/\PC K H0 P0 B0 n0 D o
abbrev DS (X:Cx)(H0:Hp)(P0:aD->Prop)(n0:Nat)(s:eO)(F:SF):Prop:=PS X s (tS X.K H0 P0 n0 F)
abbrev gu (X:Cx)(H0:Hp)(P0:aD->Prop)(n0:Nat)(s:List eO)(F:SF):Prop:=PSs X s (tS X.K H0 P0 n0 F)
section
variable {s:eO}{ss:List eO}{F G:SF}{f:EF}
theorem PS.imp {t t':TS}(h:PS X s t)(w:∀ D Z H,t' D Z H->t D Z H):PS X s t':=λad st Z H D I q=>h ad st Z H D I (w _ _ _ q)
theorem PSs.imp {t t':TS}(h:PSs X ss t)(w:∀ D Z H,t' D Z H->t D Z H):PSs X ss t':=λad st Z H D I q=>h ad st Z H D I (w _ _ _ q)
def cQ:SF:=λY=>aa (.nx Y)
noncomputable def aO (F G:SF):SF:=λY=>(F Y).bind λo=>match o with
 |.nx Y'=>G Y'
 |o=>aa o
theorem QY:gu X H0 P0 n0 [] cQ:=PSs.imp HJ λD Z H gh=>by
 rw[6];cases ef;exact k Z H fp S
theorem HQ (h:DS X H0 P0 n0 s F):gu X H0 P0 n0 [s] F:=Lq h
theorem JK (h:DS X H0 P0 n0 s F)(h2:gu X H0 P0 n0 ss G):gu X H0 P0 n0 (s::ss) (aO F G):=PSs.imp (Wk h h2) λD Z H gh=>by
 rw[6];obtain⟨o1,e1,ef⟩:=aj ef;refine⟨B0,Y,fp,o1,S,e1,?_⟩;cases o1 with
 |nx Y1=>exact λZ1 H1 j9 S1=>⟨B0,Y1,j9,o,S1,ef,k⟩
 |rt d=>cases ef;exact k
 |bk Y1=>cases ef;exact k
 |ct Y1=>cases ef;exact k
def bt (m:Md)(t:BF)(F G:SF):SF:=λY=>(bV m t Y).bind λb=>if b=af then F Y else G Y
theorem PL{a b:List eO}{t:BF}(m:Md)(hc:DT X c t)(ha:gu X H0 P0 n0 a F)(hb:gu X H0 P0 n0 b G):DS X H0 P0 n0 (.If c a b pos) (bt m t F G):=
 PS.imp (FU (t8 m hc) ha hb) λD Z H gh=>by
  rw[6];obtain⟨b,e1,ef⟩:=aj ef;refine⟨B0,Y,fp,b,S,e1,λH1 S1=>?_⟩
  cases b with
  |true=>exact oF ⟨B0,Y,fp,o,S1,by simpa using ef,k⟩
  |false=>exact oH ⟨B0,Y,fp,o,S1,by simpa using ef,k⟩
def frz (i:Nat)(Y:aP):aP:=match Y[i]? with
 |some (aa (_,d))=>Y.set i (aa (0,d))
 |_=>Y
theorem Sta.frz{Y:aP}(S:Sta K H0 P0 B0 Y Z H fp)(i:Nat):∃ bw,Sta K H0 P0 B0 (L2.frz i Y) Z H bw:=by
 unfold L2.frz;cases e:Y[i]? with
 |none=>exact⟨fp,S⟩
 |some s=>
  cases s with
  |none=>exact⟨fp,S⟩
  |some q=>
   obtain⟨n,d⟩:=q;have hi:=(cW.1 e).1;have cw:∀ a,Hd P0 (λj=>if j=i then [] else fp j) a->Hd P0 fp a:=λa h=>by
    grind
   refine⟨λj=>if j=i then [] else fp j,⟨by simp[S.len],λj=>?_,λj k a h1 h2=>?_,λj a h1=>?_,S.ext,S.hd,S.base.trans (gP cw),λj n' d' e'=>?_⟩⟩
   .by_cases hj:j=i
    .simp only[hj,if_true];exact .nil
    .simp only[hj,if_false];exact S.nd j
   .by_cases hj:j=i
    .simp only[hj,if_true] at h1;simp at h1
    .by_cases hk:k=i
     .simp only[hk,if_true] at h2;simp at h2
     .simp only[hj,if_false] at h1;simp only[hk,if_false] at h2;exact S.dj j k a h1 h2
   .by_cases hj:j=i
    .simp only[hj,if_true] at h1;simp at h1
    .simp only[hj,if_false] at h1;exact S.own j a h1
   .by_cases hj:j=i
    .subst hj;rw[pZ hi] at e';cases e';obtain⟨v,h1,h2⟩:=S.slot j n d e;refine⟨v,h1,?_⟩;simp only[if_true];refine⟨rfl,h2.share (gP cw) λa m o q=>fL (λz=>?_) q⟩
     rcases z with z|⟨k,z⟩
     .exact S.np m z
     .by_cases hk:k=j
      .simp only[hk,if_true] at z;simp at z
      .simp only[hk,if_false] at z;exact hk (S.dj k j a z m)
    .rw[mW (λz=>hj z.symm)] at e'
     obtain⟨v,h1,h2⟩:=S.slot j n' d' e';refine⟨v,h1,?_⟩;simp only[hj,if_false];exact h2.keep (gP cw) λa m=>rfl
def fI (i:Nat)(F:SF):SF:=λY=>F (frz i Y)
theorem Ou (i:Nat)(h:gu X H0 P0 n0 ss F):gu X H0 P0 n0 ss (fI i F):=PSs.imp h λD Z H ⟨B0,Y,fp,o,S,ef,k⟩=>let ⟨bw,S'⟩:=S.frz i;⟨B0,_,bw,o,S',ef,k⟩
theorem Tmp.set{Y:aP}(t:Tmp K H0 P0 B0 Y Z n d v H)(hi:i<Y.length):∃ fp,Sta K H0 P0 B0 (Y.set i (aa (n,d))) (Z.set i (aa v)) H fp:=by
 obtain⟨fp,S,r⟩:=t;have dk:Y.length≠i:=()
 have cw:∀ a,Hd P0 (λj=>if j=i then fp Y.length else if j=Y.length then [] else fp j) a->Hd P0 fp a:=λa h=>by
  grind
 have vy:∀ j a,a∈(if j=i then fp Y.length else if j=Y.length then [] else fp j)->(j=i/\a∈fp Y.length)\/(j≠i/\j≠Y.length/\a∈fp j):=λj a h=>by
  grind
 refine⟨λj=>if j=i then fp Y.length else if j=Y.length then [] else fp j,⟨by simp[S.len],λj=>?_,λj k a h1 h2=>?_,λj a h1=>?_,S.ext,S.hd,S.base.trans (gP cw),λj n' d' e'=>?_⟩⟩
 .by_cases hj:j=i
  .rw[if_pos hj];exact S.nd _
  .by_cases hk:j=Y.length
   .rw[if_neg hj,if_pos hk];exact .nil
   .rw[if_neg hj,if_neg hk];exact S.nd _
 .rcases vy j a h1 with⟨e1,m1⟩|⟨e1,l1,m1⟩<;>rcases vy k a h2 with⟨e2,m2⟩|⟨e2,l2,m2⟩
  .rw[e1,e2]
  .exact absurd (S.dj _ _ a m2 m1) l2
  .exact absurd (S.dj _ _ a m1 m2) l1
  .exact S.dj j k a m1 m2
 .rcases vy j a h1 with⟨e1,m1⟩|⟨e1,l1,m1⟩
  .exact S.own _ a m1
  .exact S.own _ a m1
 .by_cases hj:j=i
  .subst hj;rw[pZ hi] at e';cases e';refine⟨v,?_,?_⟩
   .rw[pZ (by rw[S.len];exact hi)]
   .rw[if_pos rfl];exact r.keep (gP cw) λa m=>rfl
  .rw[mW (λz=>hj z.symm)] at e'
   have cr:=(cW.1 e').1;have hk:j≠Y.length:=()
   obtain⟨v',h1,h2⟩:=S.slot j n' d' e';refine⟨v',?_,?_⟩
   .grind
   .rw[if_neg hj,if_neg hk];exact h2.keep (gP cw) λa m=>rfl
def bC (i n:Nat)(m:Md)(f:EF):SF:=λY=>(eV n m f Y).bind λd=>if i<Y.length then aa (.nx (Y.set i (aa (n,d)))) else ab
theorem Ai{gx:bL}(n:Nat)(m:Md)(hN:X.N.Nodup)(hi:X.N[i]?=aa x)(hx:iU X.env.scope x)(he:DF n X e f)(hs:iO e (aa (.Name x gx)) pos.line X.env=pure ag:=by rfl)(hf:X.fn x=af\/X.env.scope.names.lookup x=aa .local:=by first|exact .inl rfl|exact .inr rfl|assumption) :
  DS X H0 P0 n0 (.Assign [.Name x gx] e pos) (bC i n m f):=PS.imp (An hN hi hx (ev m he) hs hf) λD Z H gh=>by
 rw[6];obtain⟨d,e1,ef⟩:=aj ef;obtain⟨hl,rfl⟩:=cR ef;refine⟨B0,Y,fp,d,S,e1,λv H' t=>?_⟩
 obtain⟨bw,S'⟩:=t.set hl;exact k _ _ bw S'
theorem Tmp.ret{Y:aP}(t:Tmp K H0 P0 B0 Y Z n d v H):NX K H0 P0 n d v H:=by
 obtain⟨fp,S,r⟩:=t;refine⟨fp Y.length,S.ext,S.nd _,λa m=>⟨(S.own _ a m).1,?_⟩,r.keep (gP λa h=>?_) λa m=>rfl⟩
 .rcases(S.own _ a m).2 with⟨xs,e⟩|⟨xs,e⟩
  all_goals grind
 all_goals grind
def bQ (n:Nat)(m:Md)(f:EF):SF:=λY=>(eV n m f Y).bind λd=>aa (.rt d)
theorem GG (m:Md)(he:DF n0 X e f):DS X H0 P0 n0 (.Return (aa e) pos) (bQ n0 m f):=PS.imp (BD (ev m he)) λD Z H gh=>by
 rw[6];obtain⟨d,e1,ef⟩:=aj ef;cases ef;exact⟨B0,Y,fp,d,S,e1,λv H' t=>k v H' t.ret⟩
def lF (i n0:Nat):SF:=λY=>match Y[i]? with
 |some (aa (n,d))=>if n=n0 then aa (.rt d) else ab
 |_=>ab
theorem Pu (i:Nat)(hN:Nm X i x:=by exact gL):DS X H0 P0 n0 (.Return (aa (.Name x p)) pos) (lF i n0):=PS.imp (BD (hN.pe)) λD Z H gh=>by
 rw[6];unfold lF at ef;cases e:Y[i]? with
 |none=>rw[e] at ef;simp at ef
 |some q=>
  cases q with
  |none=>rw[e] at ef;simp at ef
  |some q=>
   obtain⟨n,d⟩:=q;rw[e] at ef;obtain⟨rfl,rfl⟩:=cR ef;obtain⟨v,h1,h2⟩:=S.slot i n d e;refine⟨v,h1,k v H ⟨fp i,S.ext,S.nd i,λa m=>⟨(S.own i a m).1,?_⟩,h2.keep (gP λa h=>?_) λa m=>rfl⟩⟩
   .rcases(S.own i a m).2 with⟨xs,e⟩|⟨xs,e⟩
    all_goals grind
   all_goals grind
def DK (m:Md)(f:EF):SF:=λY=>(eV 0 m f Y).bind λ_=>aa (.nx Y)
theorem Pe (m:Md)(he:DE X e f)(hs:iO e ab pos.line X.env=pure ag:=by rfl):DS X H0 P0 n0 (.Expr e pos) (DK m f):=PS.imp (nP (ev m he) hs) λD Z H gh=>by
 rw[6];obtain⟨d,e1,ef⟩:=aj ef;cases ef;refine⟨B0,Y,fp,d,S,e1,λv H' ⟨bw,S',r⟩=>k _ _ bw S'⟩
end
theorem Th:Adc X (.builtin "isinstance") (λxs H Q=>∃ x T t b,xs=[x,.ty T]/\TyOf X.K H x t/\Dq X.K t (.type T)=aa b/\Q (.bl b) H):=by
 rw[5];obtain⟨x,T,t,b,rfl,ty,e,q⟩:=h;obtain⟨u,w',rfl,ru,gm⟩:=vals2 r;cases gm;exact Qo I ru ty e λtk=>⟨.bl b,H,I.tok tk,rfl,q⟩
def AC (x:aE):It:=⟨λi _=>i<x.cps.size,λi H v H'=>H'=H/\∃ c,x.cps[i]?=aa c/\v=.str ⟨#[c]⟩,λi _=>x.cps.size<=i⟩
theorem UC {P:bP}{it:aD}{vz:Tok}{ty:String}
  (W:∀ A':cE,A'.handled=ab->Walks P w A' it [it] [it] x.cps.size (SignAt x) (λi h=>h.IsStrIter it ty x vz i))
  (sf:∀ (A:cE) (i:Nat) (s:aI) (Q:aF->aI->Prop) (E:aF->aI->Prop),s.heap.IsStrIter it ty x vz i->Q (.ref it) s->aW (aY P w) A (tQ (.ref it)) Q E s)
  (jf:["enumerate","zip","dict_itemiterator","dict_reverseitemiterator","odict_iterator","itertools.zip_longest","itertools.pairwise"].contains ty=ag) :
  Turn P w K tg (AC x) [it] it (λi h=>h.IsStrIter it ty x vz i/\i<=x.cps.size) where
 mem:=by simp
 obj:=λi h st b hb=>by
  have e:b=it:=by simpa using hb
  subst e;obtain⟨o,e,_,d⟩:=st.1
  grind
 keep:=λi h h' st k=>⟨let ⟨o,e,r⟩:=st.1;⟨o,k it (by simp) o e,r⟩,st.2⟩
 item:=by
  rw[2];obtain⟨f0,f1,f2,f3,f4,f5⟩:=hf it (by simp)
  refine(W X.A (I.ok.hd hc)).item i s _ _ hg st.1 λv h' tk hv gg kk=>?_
  obtain⟨c,u,z3,rfl⟩:=hv;have I1:Inv X ad Z H { s with heap:=h',toks:=tk }:=I.turned (λb o hb e=>kk b o (by simpa using hb) e) f0 f1 f3 f4 f5
  obtain⟨o,e,z4,d⟩:=id gg;exact⟨_,rfl,yW e z4 d jf ⟨.str ⟨#[c]⟩,H,I1,⟨u,rfl⟩,⟨rfl,c,z3,rfl⟩,⟨gg,hg⟩,λb hb=>(hf b hb).1⟩⟩
 done:=by
  rw[2];obtain⟨f0,f1,f2,f3,f4,f5⟩:=hf it (by simp)
  have hi:=Nat.le_antisymm st.2 hg;subst hi;exact(W X.A (I.ok.hd hc)).done s _ _ st.1 λh' tk kk=>⟨rfl,I.turned (λb o hb e=>kk b o (by simpa using hb) e) f0 f1 f3 f4 f5⟩
 self:=λA i s Q E st h=>sf A i s Q E st.1 h
def Gd (tl:TE):TI:=λZ H R=>tl Z H λv H1=>∃ x,v=.str x/\R (AC x) H1
theorem Jw {X:Cx}{l:aR}{tl:TE}(hl:PE X l tl):PI X tg l (Gd tl):=by
 intro ad s Z H R I h;refine bf (hl ad s Z H _ I h) λv s1 gh=>?_
 obtain⟨y,H1,I1,r1,q1⟩:=gh;obtain⟨x,rfl,q⟩:=q1;obtain⟨t,rfl⟩:=r1;have fin:∀ (o:bK) (ty:String),Turn X.prog X.w X.K tg (AC x) [s1.heap.objs.size] s1.heap.objs.size (λi h=>h.IsStrIter s1.heap.objs.size ty x t i/\i<=x.cps.size)->(s1.heap.push o).IsStrIter s1.heap.objs.size ty x t 0 ->
   xj X ad Z tg R (.ref s1.heap.objs.size) { s1 with heap:=s1.heap.push o }:=λo ty T st=>by
  refine⟨s1.heap.objs.size,[s1.heap.objs.size],_,_,H1,rfl,I1.kept λb o e=>cD _ e,T,⟨st,eB _⟩,λb hb=>?_,q⟩
  have e:b=s1.heap.objs.size:=by simpa using hb
  subst e;exact I1.fpOk (bI _) (I1.hok.fresh (bI _))
 cases ha:x.cps.all (· < 128)
 .exact wpAny_pyIter_wide ha (fin _ "str_iterator" (UC (λA' hA=>Walks.strWide hA _ x t) (λA i s Q E st h=>wpAny_pyIter_striter_wide st h) nofun) ⟨_,dM _ rfl,rfl,rfl⟩)
 .exact wpAny_pyIter_ascii ha (fin _ "str_ascii_iterator" (UC (λA' hA=>Walks.strAscii hA _ x t) (λA i s Q E st h=>wpAny_pyIter_striter_ascii st h) nofun) ⟨_,dM _ rfl,rfl,rfl⟩)
def allB (xs:List V):Bool:=xs.all λv=>decide (v=.bl af)
theorem Qh (hc:X.calm=af):Adc X (.builtin "all") (λxs H Q=>∃ p ys,xs=[.ref p]/\SqL X.K H p ys/\(∀ y∈ys,∃ b,y=.bl b)/\Q (.bl (allB ys)) H):=by
 rw[5];obtain⟨p,ys,rfl,hs,hb,q⟩:=h;obtain⟨u,rfl,ru⟩:=vals1 r;cases ru;obtain⟨its,rv,pl,hz⟩:=I.list hs;have hl:=pl.isList;have cr:p<s.heap.objs.size:=by obtain⟨o,n,e,_⟩:=pl;exact bZ e
 have hh:=I.ok.hd hc;have len:=rv.length;refine call_all_walk (zF hl ⟨s.heap.objs.size,_,_,_,_,_,λi=>decide (ys[i]?=aa (.bl af)),rfl,Walks.list (A:=X.A.in1) hh s.heap.objs.size p (eD cr) its.toArray,
  ⟨⟨_,dM _ rfl,rfl,rfl⟩,hl.at λo e=>cD _ e⟩,?_,?_⟩)
 .intro i v s' Q' E' hv hq;have rn:its[i]?=aa v:=by simpa using hv
  have hi:i<ys.length:=by rw[len];exact(cW.1 rn).1
  obtain⟨b,hy⟩:=hb ys[i] (kH hi);have jg:ys[i]?=aa (.bl b):=by rw[eR hi,hy]
  obtain⟨u',h1,h2⟩:=rv.get jg;rw[rn] at h1;cases h1;cases h2;refine yX ?_;have:decide (ys[i]?=aa (V.bl af))=b:=by rw[jg];cases b<;>simp
  grind
 .intro h' tk hk;have e:((cP its.toArray.size).all λi=>decide (ys[i]?=aa (V.bl af)))=allB ys:=by
   have hn:its.toArray.size=ys.length:=by simp[len]
   rw[hn];unfold allB;rw[hJ];simp only[gD,iS,decide_eq_true_eq];constructor
   .intro h v hv;obtain⟨i,hi,rfl⟩:=rH hv
    grind
   .intro h i hi;rw[eR hi,h _ (kH hi)]
  rw[e];refine⟨.bl (allB ys),H,?_,rfl,q⟩;exact I.kept λb o eb=>hk b o (by simp;exact eD (bZ eb)) (cD _ eb)
structure Def (P:bP)(w:bE)(K:aM)(mg:aE->Option aF)(base:aU)(x:aE)(k:Nat)(ps:List aE)(sp:Sp):Prop where
 ex:∃ f fd,FnOk P w K mg base jl k f fd ps sp/\mg x=aa (.ref f)/\EA K (.ref f)=af/\Binds K fd ps []
section
variable {k:Nat}{t:TA}
theorem Af (D:Def X.prog X.w X.K X.mg X.base x k ps sp)(hr:Room k X.A)(hg:Gl X x)(ha:PA X (e::es) t)(ic:(x==("__debug__" : aE))=ag:=by decide)(he:cA (e::es) X.env=(ag,bW e X.env)::cA es X.env:=by rfl)
  (gs:(iQ pos (cA es X.env)).any (·.1)=ag:=by rfl):PE X (.Call (.Name x p) (e::es) [] pos) (OR sp [] E0 t):=by
 obtain⟨f,fd,F,hm,hk,hb⟩:=D.ex;exact Ny F hr hg hm hk hb .nil Gu ha ic he gs
end
def FG (a b:String):Option Bool:=if (oO a==oO b)=af then aa af else if PySem.W.kitMeta b=af then(fastBuiltinMro a).map (·.contains (.type b)) else ab
theorem Akf{a b:String}:Dq K (.type a) (.type b)=FG a b:=rfl
def kinds:List String:=["NoneType","bool","int","str","list","tuple","dict"]
def md (t T:String):Bool:=t==T||(t == "bool" && T == "int")
theorem Wf:(kinds.all λt=>["int","bool","str","list","tuple","dict"].all λT=>decide (FG t T=aa (md t T)))=af:=by rw[0]
theorem Pp {t:String}(ht:t∈kinds)(hT:T∈["int","bool","str","list","tuple","dict"]):FG t T=aa (md t T):=by
 have h:=gD.1 Wf t ht
 grind
def Kd (K:aM)(H:Hp)(x:V)(t:String):Prop:=TyOf K H x (.type t)/\t∈kinds
theorem Kd.ext(x:Ext H H'){t:String}(h:Kd K H v t):Kd K H' v t:=⟨x.ty h.1,h.2⟩
theorem Kd.int{x:V}(h:Kd K H x "int"):∃ i,x=.int i:=by
 obtain⟨h,_⟩:=h;generalize e:oO "int" = t at h;cases h<;>first|exact⟨_,rfl⟩|exact absurd (Value.type.inj e) nofun|cases e
theorem Kd.str{x:V}(h:Kd K H x "str"):∃ i,x=.str i:=by
 obtain⟨h,_⟩:=h;generalize e:oO "str" = t at h;cases h<;>first|exact⟨_,rfl⟩|exact absurd (Value.type.inj e) nofun|cases e
theorem Hi(hg:Gl X x)(hm:X.mg x=ab)(hv:lV x=aa (.type T))(hn:x ≠ "__name__":=by decide)(hd:(x==("__debug__" : aE))=ag:=by decide):PE X (.Name x pos) (tC (.ty T)):=
 Oc hg hm hv rfl hn hd
theorem boot_isinstance:lV "isinstance" = aa (.builtin "isinstance"):=by rw[0]
theorem boot_all:lV "all" = aa (.builtin "all"):=by rw[0]
theorem bits_le {i:Int}(h:i.natAbs<2^n):kJ i<=n:=by
 unfold kJ;split
 .exact eB _
 .rename_i dk;have h0:i.natAbs≠0:=by
   grind
  have:=(Nat.log2_lt h0).2 h
  lia
theorem Mh:OpR X (jQ .Mult) (rI (λi j=>i.natAbs<2^1000/\j.natAbs<2^1000) λi j=>.int (i*j)):=qj λi j _ _ _ _ _ hc q=>
 mul_int q (Zz (bits_le hc.1) (bits_le hc.2) nofun)
theorem GC{k:Nat}(hr:Room k A):A.units+100<cLine:=by
 have:=hr.un
 lia
theorem LA:∀ {xs:List V} {us:List aF},xs.length=us.length->(∀ (j:Nat) x u,xs[j]?=aa x->us[j]?=aa u->RelV x u)->Vals xs us
 |[],[],_,_=>.nil
 |[],_::_,h,_=>by simp at h
 |_::_,[],h,_=>by simp at h
 |x::xs,u::us,h,r=>.cons (r 0 x u rfl rfl) (LA (by simpa using h) λj y w h1 h2=>r (j+1) y w (by simpa using h1) (by simpa using h2))
def rX (c:Nat):V:=.str ⟨#[c]⟩
theorem Sr (hc:X.calm=af):Adc X (.type "list") (λxs H Q=>∃ z:aE,xs=[.str z]/\z.length<=sizeLine/\∀ l,H l=ab->Q (.ref l) (upd H l (.lst (z.cps.toList.map rX)))):=by
 rw[5];obtain⟨z,rfl,hz,q⟩:=h;obtain⟨u,rfl,t,rfl⟩:=vals1 r;refine call_list_str (I.ok.hd hc) z t (λh' tk de c' hk hS fz=>?_) hz
 have hv:Vals (z.cps.toList.map rX) de.toList:=by
  refine LA (by simp[fz.1]) λj x u h1 h2=>?_
  obtain⟨c,t',ld,rfl⟩:=fz.2 j u (by simpa using h2)
  have:(z.cps.toList.map rX)[j]?=aa (rX c):=by simp[ld]
  rw[this] at h1;cases h1;exact⟨t',rfl⟩
 exact⟨.ref s.heap.objs.size,_,I.laid hk (bI _) (show Acz X.prog X.w _ h' _ (.lst (z.cps.toList.map rX)) from⟨by rw[bR,EV];exact hz,de.toList,c',hv,by simpa using hS⟩),rfl,q _ I.fresh⟩
def jw (K:aM)(B:Hp)(J:It)(ds:List aA):Prop:=∀ (i:Nat) (H2:Hp),Ext B H2 ->
 (∀ d,ds[i]?=aa d->J.go i H2/\∀ x H3,J.yld i H2 x H3->Ext H2 H3/\∀ P2,Hid P2 H2->Ext B (hid H2 P2)->Abr K (hid H3 P2) d x)/\(ds.length=i->J.stop i H2)
def tI (K:aM)(f:AF):TI:=λZ H R=>∃ P Y ds,Hid P H/\Ama K (hid H P) Y Z/\f Y=aa ds/\∀ J H',Ext H H'->jw K (hid H' P) J ds->R J H'
def G5 (K:aM)(f:AF):TI:=λZ H R=>∃ P Y ds,Hid P H/\Ama K (hid H P) Y Z/\f Y=aa ds/\∀ J H',Ext H H'->jw K (λ_=>ab) J ds->R J H'
abbrev DI (X:Cx)(tg e:aR)(f:AF):Prop:=PI X tg e (tI X.K f)
abbrev u4 (X:Cx)(tg e:aR)(f:AF):Prop:=PI X tg e (G5 X.K f)
def itemsOf:aA->Option (List aA)
 |.list ds=>aa ds
 |.tuple ds=>aa ds
 |.str x=>aa (x.cps.toList.map λc=>.str ⟨#[c]⟩)
 |_=>ab
def ay (f:EF):AF:=λY=>(f Y).bind itemsOf
section
variable {a:aR}
theorem PI.imp {t t':TI}(h:PI X tg e t)(w:∀ Z H R,t' Z H R->t Z H R):PI X tg e t':=λad s Z H R I q=>h ad s Z H R I (w _ _ _ q)
theorem PI.or {t t':TI}(h:PI X tg e t)(h':PI X tg e t'):PI X tg e (λZ H R=>t Z H R\/t' Z H R):=λad s Z H R I q=>q.elim (h ad s Z H R I) (h' ad s Z H R I)
theorem Wb{B:Hp}{a:aD}(h:SqL K B a xs)(r:Aao K B ds xs):jw K B (FD K a) ds:=λi H2 x2=>by
 have h2:=x2.sqL h;refine⟨λd hd=>?_,λe=>⟨xs,h2,by rw[r.length];lia⟩⟩
 obtain⟨v,h3,h4⟩:=r.get hd;refine⟨⟨xs,v,h2,h3⟩,?_⟩;rintro x H3 ⟨rfl,hx⟩;have:=h3.symm.trans (hx xs h2);cases this;exact⟨Ext.refl,λP2 _ xb=>h4.ext xb⟩
theorem Lr{B:Hp}{a:aD}(h:B a=aa (.tup xs))(r:Aao K B ds xs):jw K B (FB K a) ds:=λi H2 x2=>by
 have h2:SqT K H2 a xs:=SqT.of (x2 _ _ h);refine⟨λd hd=>?_,λe=>⟨xs,h2,by rw[r.length];lia⟩⟩
 obtain⟨v,h3,h4⟩:=r.get hd;refine⟨⟨xs,v,h2,h3⟩,?_⟩;rintro x H3 ⟨rfl,hx⟩;have:aa v=aa x:=h3.symm.trans (hx xs h2);cases this;exact⟨Ext.refl,λP2 _ xb=>h4.ext xb⟩
theorem JH {z:aE}{c:Nat}(h:cI (.str z)=af)(hc:z.cps.toList[i]?=aa c):cI (.str ⟨#[c]⟩)=af:=by
 have hz:∀ d∈z.cps,d<0x110000:=by
  have h':z.cps.all (· < 0x110000)=af:=by simpa only[cI,EE] using h
  intro d hd;exact of_decide_eq_true (Array.all_eq_true'.1 h' d hd)
 have:=hz c (by simpa using eX hc)
 simp[cI,EE,this]
theorem Pn{B:Hp}{z:aE}(hl:cI (.str z)=af):jw K B (AC z) (z.cps.toList.map λc=>.str ⟨#[c]⟩):=λi H2 x2=>by
 refine⟨λd hd=>?_,λe=>?_⟩
 .rw[fN] at hd;cases hc:z.cps.toList[i]? with
  |none=>rw[hc] at hd;simp at hd
  |some c=>
   rw[hc] at hd;have hd:dF ⟨#[c]⟩=d:=by simpa using hd
   subst hd;have cr:i<z.cps.size:=by simpa using(cW.1 hc).1
   refine⟨cr,?_⟩;rintro x H3 ⟨rfl,c',dr,rfl⟩;have:z.cps.toList[i]?=aa c':=by simpa using dr
   rw[hc] at this;cases this;exact⟨Ext.refl,λP2 _ _=>Aa6.2 ⟨rfl,JH hl hc⟩⟩
 .have:z.cps.size=i:=by simpa using e
  exact Nat.le_of_eq this
theorem Zs{lo:Int}{B:Hp}:jw K B (AD lo n) ((cP n).map λ(k:Nat)=>bA (lo+k)):=λi H2 x2=>by
 refine⟨λd hd=>?_,λe=>?_⟩
 .have cr:i<n:=by
   have:=(cW.1 hd).1;simpa using this
  have km:bA (lo+i)=d:=by
   rw[fN,List.getElem?_range cr] at hd;simpa using hd
  subst km;refine⟨cr,?_⟩;rintro x H3 ⟨rfl,rfl⟩;exact⟨Ext.refl,λP2 _ _=>Aai.2 rfl⟩
 .have:n=i:=by simpa using e
  exact Nat.le_of_eq this
theorem sM {f:EF}(h:DE X e f):DI X tg e (ay f):=PI.imp (PI.or (Nk h) (PI.or (Kh h) (Jw h))) λZ H R gh=>by
 obtain⟨P,Y,ds,hP,rs,ef,k⟩:=gh;obtain⟨d,e1,ef⟩:=aj ef;cases d with
 |list jt=>
  have:jt=ds:=by simpa [itemsOf] using ef
  rw[10];refine .inl ⟨P,Y,_,hP,rs,e1,dJ λv H1 x1 r1=>?_⟩
  obtain⟨a,xs,rfl,hr,rr⟩:=Abe.1 r1;exact⟨a,rfl,⟨xs,Aaq.sqL hr⟩,k _ H1 x1 (Wb hr rr)⟩
 |tuple jt=>
  have:jt=ds:=by simpa [itemsOf] using ef
  rw[10];refine .inr (.inl ⟨P,Y,_,hP,rs,e1,dJ λv H1 x1 r1=>?_⟩)
  obtain⟨a,xs,rfl,hr,rr⟩:=Aau.1 r1;exact⟨a,rfl,⟨xs,SqT.of (Aaq _ _ hr)⟩,k _ H1 x1 (Lr hr rr)⟩
 |str z=>
  have:z.cps.toList.map (λc=>dF ⟨#[c]⟩)=ds:=by simpa [itemsOf] using ef
  rw[10];refine .inr (.inr ⟨P,Y,_,hP,rs,e1,dJ λv H1 x1 r1=>?_⟩)
  exact⟨z,(Aa6.1 r1).1,k _ H1 x1 (Pn (Aa6.1 r1).2)⟩
 |_=>simp[itemsOf] at ef
def FO (lo hi:Int):Option (List aA):=if -(2^62)<=lo/\lo<2^62 /\ -(2^62)<=hi/\hi<2^62 then aa ((cP (hi-lo).toNat).map λ(k:Nat)=>bA (lo+k)) else ab
def ip (fa:AF):AF:=λY=>(fa Y).bind λds=>match ds with
 |[.int j]=>FO 0 j
 |_=>ab
theorem UR {fa:AF}(hg:Gl X "range")(hm:X.mg "range" = ab)(ha:DA X [a] fa)(hs:cA [a] X.env=[(ag,bW a X.env)]:=by rfl):u4 X tg (.Call (.Name "range" p) [a] [] pos) (ip fa):=PI.imp (Zr hg hm ha hs) λZ H R gh=>by
 obtain⟨P,Y,ds,hP,rs,ef,k⟩:=gh;obtain⟨as,e1,ef⟩:=aj ef;refine⟨P,Y,as,hP,rs,e1,λvs H1 x1 r1=>?_⟩
 split at ef
 .rename_i j;obtain⟨hb,rfl⟩:=cR ef;obtain⟨v,t,rfl,h1,h2⟩:=Aag.1 r1;obtain rfl:=Aal.1 h2;obtain rfl:=Aai.1 h1;have e0:(j-0).toNat=j.toNat:=by simp
  refine⟨j,rfl,hb.2.2.1,hb.2.2.2,k _ H1 x1 ?_⟩;rw[e0];exact Zs
 .cases ef
theorem Bh {f:AF}(h:u4 X tg e f):DI X tg e f:=PI.imp h λZ H R ⟨P,Y,ds,hP,rs,ef,k⟩=>⟨P,Y,ds,hP,rs,ef,λJ H' x it=>k J H' x λi H2 x2=>by
 obtain⟨h1,h2⟩:=it i H2 (λ_ _ e=>by cases e)
 exact⟨λd hd=>⟨(h1 d hd).1,λv H3 y=>⟨((h1 d hd).2 v H3 y).1,λP2 hp _=>((h1 d hd).2 v H3 y).2 P2 hp λ_ _ e=>by cases e⟩⟩,h2⟩⟩
def tI' (K:aM)(H0:Hp)(P0:aD->Prop)(m:Md)(f:AF):TI:=λZ H R=>∃ B0 Y fp ds,Sta K H0 P0 B0 Y Z H fp/\aV m f Y=aa ds/\∀ J B1 H',Sta K H0 P0 B1 Y Z H' fp->Ext B0 B1->jw K B1 J ds->R J H'
theorem Sta.rebase{B1:Hp}{Y:aP}(S:Sta K H0 P0 B0 Y Z H fp)(b:Ext B1 (L2.hid H (Hd P0 fp))):Sta K H0 P0 B1 Y Z H fp:=⟨S.len,S.nd,S.dj,S.own,S.ext,S.hd,b,S.slot⟩
theorem G2 {f:AF}(h:DI X tg e f):PI X tg e (tI' X.K H0 P0 .s f):=PI.imp h λZ H R ⟨B0,Y,fp,ds,S,ef,k⟩=>
 ⟨Hd P0 fp,vS Y,ds,S.hid,S.viewS,ef,λJ H' x it=>k J _ H' ((S.grow x).rebase Ext.refl) (S.grow x).base it⟩
theorem Fn {f:AF}(m:Md)(h:u4 X tg e f):PI X tg e (tI' X.K H0 P0 m f):=PI.imp h λZ H R gh=>by
 obtain⟨B0,Y,fp,ds,S,ef,k⟩:=gh;have up:∀ {J:It} {B:Hp},jw X.K (λ_=>ab) J ds->jw X.K B J ds:=λ{J B} it i H2 x2=>by
  obtain⟨h1,h2⟩:=it i H2 (λ_ _ e=>by cases e)
  exact⟨λd hd=>⟨(h1 d hd).1,λv H3 y=>⟨((h1 d hd).2 v H3 y).1,λP2 hp _=>((h1 d hd).2 v H3 y).2 P2 hp λ_ _ e=>by cases e⟩⟩,h2⟩
 cases m with
 |s=>exact⟨Hd P0 fp,vS Y,ds,S.hid,S.viewS,ef,λJ H' x it=>k J _ H' (S.grow x) Ext.refl (up it)⟩
 |a=>exact⟨P0,vA Y,ds,S.hd.ext S.ext,S.viewA,ef,λJ H' x it=>k J _ H' (S.grow x) Ext.refl (up it)⟩
end
def tG (K:aM)(H0:Hp)(P0:aD->Prop)(T:aA->aP->Option aP):TG:=λv Z H Q=>∃ B0 Y fp d Y',Sta K H0 P0 B0 Y Z H fp/\Abr K (hid H (Hd P0 fp)) d v/\T d Y=aa Y'/\∀ Z' bw,Sta K H0 P0 B0 Y' Z' H bw->Q Z' H
abbrev DG (X:Cx)(H0:Hp)(P0:aD->Prop)(tg:aR)(T:aA->aP->Option aP):Prop:=PG X tg (tG X.K H0 P0 T)
theorem PG.imp{t t':TG}(h:PG X tg t)(w:∀ v Z H Q,t' v Z H Q->t v Z H Q):PG X tg t':=λad s Z H v u Q I r q=>h ad s Z H v u Q I r (w _ _ _ _ q)
theorem Sta.A8b{Y:aP}(S:Sta K H0 P0 B0 Y Z H fp)(r:Abr K (L2.hid H (Hd P0 fp)) d v)(hi:i<Y.length):∃ bw,Sta K H0 P0 B0 (Y.set i (aa (0,d))) (Z.set i (aa v)) H bw:=by
 have cw:∀ a,Hd P0 (λj=>if j=Y.length then [] else fp j) a->Hd P0 fp a:=λa h=>by
  rcases h with h|⟨j,h⟩
  .exact .inl h
  .by_cases hj:j=Y.length
   .simp only[hj,if_true] at h;simp at h
   .simp only[hj,if_false] at h;exact .inr ⟨j,h⟩
 have S2:Sta K H0 P0 B0 Y Z H (λj=>if j=Y.length then [] else fp j):=by
  refine⟨S.len,λj=>?_,λj k a h1 h2=>?_,λj a h1=>?_,S.ext,S.hd,S.base.trans (gP cw),λj n d e=>?_⟩
  .by_cases hj:j=Y.length
   .simp only[hj,if_true];exact .nil
   .simp only[hj,if_false];exact S.nd j
  .by_cases hj:j=Y.length
   .simp only[hj,if_true] at h1;simp at h1
   .by_cases hk:k=Y.length
    .simp only[hk,if_true] at h2;simp at h2
    .simp only[hj,if_false] at h1;simp only[hk,if_false] at h2;exact S.dj j k a h1 h2
  .by_cases hj:j=Y.length
   .simp only[hj,if_true] at h1;simp at h1
   .simp only[hj,if_false] at h1;exact S.own j a h1
  .have cr:=(cW.1 e).1;have hj:j≠Y.length:=()
   obtain⟨v',h1,h2⟩:=S.slot j n d e;refine⟨v',h1,?_⟩;simp only[hj,if_false];exact h2.keep (gP cw) λa m=>rfl
 refine Tmp.set ⟨_,S2,?_⟩ hi;simp only[if_true];exact⟨rfl,r.ext (gP cw)⟩
def dq (i:Nat):aA->aP->Option aP:=λd Y=>if i<Y.length then aa (Y.set i (aa (0,d))) else ab
theorem Lu(hN:X.N.Nodup)(hi:X.N[i]?=aa x)(hx:iU X.env.scope x)(hf:X.fn x=af\/X.env.scope.names.lookup x=aa .local:=by first|exact .inl rfl|exact .inr rfl|assumption):DG X H0 P0 (.Name x pos) (dq i):=
 PG.imp (qQ hN hi hx hf) λv Z H Q gh=>by
  obtain⟨B0,Y,fp,d,Y',S,r,ef,k⟩:=gh;obtain⟨hl,rfl⟩:=cR ef;obtain⟨bw,S'⟩:=S.A8b r hl;exact k _ bw S'
def nJ (i j:Nat):aA->aP->Option aP:=λd Y=>match d with
 |.tuple [a,b]=>(dq i a Y).bind λY'=>dq j b Y'
 |_=>ab
theorem Ng{p1:bL}{k}(hc:X.calm=af)(hN:X.N.Nodup)(hi:X.N[i]?=aa x)(hj:X.N[j]?=aa y)(hx:iU X.env.scope x)(hy:iU X.env.scope y)
  (hf:X.fn x=af\/X.env.scope.names.lookup x=aa .local:=by first|exact .inl rfl|exact .inr rfl|assumption) (rp:X.fn y=af\/X.env.scope.names.lookup y=aa .local:=by first|exact .inl rfl|exact .inr rfl|assumption)
  (hn:(eQ [.Name x p1,.Name y p2] X.env).length=2:=by rfl) (gw:(eQ [.Name x p1,.Name y p2] X.env).findIdx? (·.1)=ab:=by rfl)
  (h1:(eQ [.Name x p1,.Name y p2] X.env).map (·.2)=iI (.Name x p1) X.env::(eQ [.Name y p2] X.env).map (·.2):=by rfl) (h2:(eQ [.Name y p2] X.env).map (·.2)=iI (.Name y p2) X.env::(eQ [] X.env).map (·.2):=by rfl):DG X H0 P0 (.Tuple [.Name x p1,.Name y p2] k pos) (nJ i j):=
 PG.imp (ZX hc (vC (qQ hN hi hx hf) (vC (qQ hN hj hy rp) HI h2) h1) hn gw) λv Z H Q gh=>by
  obtain⟨B0,Y,fp,d,Y',S,r,ef,k⟩:=gh;unfold nJ at ef;split at ef
  .rename_i a b;obtain⟨Y1,e1,e2⟩:=aj ef;obtain⟨l1,rfl⟩:=cR e1;obtain⟨l2,rfl⟩:=cR e2;obtain⟨p,xs,rfl,hp,rr⟩:=Aau.1 r;obtain⟨v1,t1,rfl,r1,rr⟩:=Aag.1 rr;obtain⟨v2,t2,rfl,r2,rr⟩:=Aag.1 rr;obtain rfl:=Aal.1 rr;refine⟨p,_,rfl,SqT.of (Aaq _ _ hp),rfl,v1,_,rfl,v2,_,rfl,rfl,?_⟩;have Sb:=S.rebase Ext.refl;obtain⟨j9,S1⟩:=Sb.A8b r1 l1;obtain⟨cc,S2⟩:=S1.A8b (r2.ext S1.base) l2;exact k _ cc (S2.rebase (S.base.trans S2.base))
  .cases ef
def iW (F:SF)(T:aA->aP->Option aP):List aA->SF
 |[],Y=>aa (.nx Y)
 |d::r,Y=>(T d Y).bind λY1=>(F Y1).bind λo=>match o with
  |.nx Y'=>iW F T r Y'
  |.ct Y'=>iW F T r Y'
  |.bk Y'=>aa (.nx Y')
  |.rt d=>aa (.rt d)
def cS (m:Md)(fi:AF)(T:aA->aP->Option aP)(F:SF):SF:=λY=>(aV m fi Y).bind λds=>iW F T ds Y
section
variable {body:List eO}{F:SF}{T:aA->aP->Option aP}{fi:AF}{m:Md}
theorem SI (hp:zO (aY X.prog X.w) X.A X.env X.xe)(hc:X.calm=af)(hi:PI X tg bg (tI' X.K H0 P0 m fi))(hg:DG X H0 P0 tg T)(hb:gu X H0 P0 n0 body F)
  (hs:∀ x,rC bg X.env x=pure x:=by intro _;rfl):DS X H0 P0 n0 (.For tg bg body [] pos) (cS m fi T F):=PS.imp (Lk hp hc hi hg hb hs) λD Z H gh=>by
 rw[6];obtain⟨ds,e1,ef⟩:=aj ef;refine⟨B0,Y,fp,ds,S,e1,λJ B1 H' S1 xb it=>?_⟩
 refine⟨λi m Z H=>m=ds.length-i/\i<=ds.length/\∃ Y fp,Sta X.K H0 P0 B1 Y Z H fp/\iW F T (ds.drop i) Y=aa o,⟨ds.length,by simp,eB _,Y,fp,S1,by simpa using ef⟩,?_⟩
 rintro i m Z2 H2 ⟨rfl,hi,Y2,cc,S2,e2⟩;have x2:=S2.base.trans Aaq;obtain⟨go,st⟩:=it i H2 x2;by_cases cr:i<ds.length
 .have hd:=eR cr;rw[NM cr] at e2;obtain⟨Y3,e3,e2⟩:=aj e2;obtain⟨o3,e4,e2⟩:=aj e2;obtain⟨g1,g2⟩:=go _ hd;refine .inr ⟨g1,λZ' H'=>i+1<=ds.length/\∃ Y fp,Sta X.K H0 P0 B1 Y Z' H' fp/\iW F T (ds.drop (i+1)) Y=aa o,λZ' H' ⟨h1,h2⟩=>⟨ds.length-(i+1),(),rfl,h1,h2⟩,λx H3 y=>?_⟩
  obtain⟨x3,r3⟩:=g2 x H3 y;refine⟨B1,Y2,cc,_,Y3,S2.grow x3,r3 _ S2.hid S2.base,e3,λZ4 z5 S4=>⟨B1,Y3,z5,o3,S4,e4,?_⟩⟩
  cases o3 with
  |nx Y5=>exact λZ5 H5 lh S5=>⟨cr,Y5,lh,S5,e2⟩
  |ct Y5=>exact λZ5 H5 lh S5=>⟨cr,Y5,lh,S5,e2⟩
  |bk Y5=>
   cases e2;exact λZ5 H5 lh S5=>k Z5 H5 lh (S5.rebase (xb.trans S5.base))
  |rt d=>
   cases e2;exact k
 .have e:i=ds.length:=()
  subst e;rw[List.drop_length] at e2;cases e2;exact .inl ⟨st rfl,k Z2 H2 cc (S2.rebase (xb.trans S2.base))⟩
theorem xE (hp:zO (aY X.prog X.w) X.A X.env X.xe)(hc:X.calm=af)(hi:DI X tg bg fi)(hg:DG X H0 P0 tg T)(hb:gu X H0 P0 n0 body F)
  (hs:∀ x,rC bg X.env x=pure x:=by intro _;rfl):DS X H0 P0 n0 (.For tg bg body [] pos) (cS .s fi T F):=SI hp hc (G2 hi) hg hb hs
theorem Ms (m:Md)(hp:zO (aY X.prog X.w) X.A X.env X.xe)(hc:X.calm=af)(hi:u4 X tg bg fi)(hg:DG X H0 P0 tg T)(hb:gu X H0 P0 n0 body F)
  (hs:∀ x,rC bg X.env x=pure x:=by intro _;rfl):DS X H0 P0 n0 (.For tg bg body [] pos) (cS m fi T F):=SI hp hc (Fn m hi) hg hb hs
end
def iq (m:Md)(t:BF)(F:SF):Nat->SF
 |0,_=>ab
 |n+1,Y=>(bV m t Y).bind λb=>if b=af then(F Y).bind λo=>match o with
   |.nx Y'=>iq m t F n Y'
   |.ct Y'=>iq m t F n Y'
   |.bk Y'=>aa (.nx Y')
   |.rt d=>aa (.rt d)
  else aa (.nx Y)
section
variable {body:List eO}{F:SF}{t:BF}
theorem RL (m:Md)(fuel:Nat)(hp:zO (aY X.prog X.w) X.A X.env X.xe)(hc:DT X c t)(hb:gu X H0 P0 n0 body F):DS X H0 P0 n0 (.While c body [] pos) (iq m t F fuel):=
 PS.imp (Wn hp (t8 m hc) hb) λD Z H gh=>by
  rw[6];refine⟨λn Z H=>∃ Y fp,Sta X.K H0 P0 B0 Y Z H fp/\iq m t F n Y=aa o,⟨fuel,Y,fp,S,ef⟩,?_⟩
  rintro n Z1 H1 ⟨Y1,j9,S1,e1⟩;cases n with
  |zero=>cases e1
  |succ n=>
   obtain⟨b,e2,e1⟩:=aj e1;refine⟨B0,Y1,j9,b,S1,e2,λH2 S2=>?_⟩
   cases b with
   |false=>
    have:aa (Out.nx Y1)=aa o:=by simpa using e1
    cases this;exact oH (k Z1 H2 j9 S2)
   |true=>
    rw[if_pos rfl] at e1;obtain⟨o3,e4,e1⟩:=aj e1;refine oF ⟨λZ' H'=>∃ Y fp,Sta X.K H0 P0 B0 Y Z' H' fp/\iq m t F n Y=aa o,λZ' H' h=>⟨n,Nat.lt_succ_self n,h⟩,B0,Y1,j9,o3,S2,e4,?_⟩
    cases o3 with
    |nx Y5=>exact λZ5 H5 lh S5=>⟨Y5,lh,S5,e1⟩
    |ct Y5=>exact λZ5 H5 lh S5=>⟨Y5,lh,S5,e1⟩
    |bk Y5=>cases e1;exact k
    |rt d=>cases e1;exact k
end
def ja (T:aA->List (Option aA)->Option (List (Option aA)))(t:BF)(f:EF)(Y:List (Option aA)):List aA->Option (List aA)
 |[]=>aa []
 |d::r=>(T d Y).bind λY1=>(t Y1).bind λc=>if c=af then(f Y1).bind λy=>(ja T t f Y r).bind λys=>aa (y::ys) else ja T t f Y r
def kM (cap:List (Option Nat))(Y:List (Option aA)):List (Option aA):=cap.map λo=>o.bind λj=>(Y[j]?).join
def bu (cap:List (Option Nat))(fi:AF)(T:aA->List (Option aA)->Option (List (Option aA)))(t:BF)(f:EF):EF:=λY=>(fi Y).bind λds=>(ja T t f (kM cap Y) ds).bind λys=>if ds.length<=sizeLine then aa (.list ys) else ab
def u6 (K:aM)(T:aA->List (Option aA)->Option (List (Option aA))):TG:=λv Z H Q=>∃ P Y d Y',Hid P H/\Ama K (hid H P) Y Z/\Abr K (hid H P) d v/\T d Y=aa Y'/\∀ Z',Ama K (hid H P) Y' Z'->Q Z' H
def t7 (T:aA->List (Option aA)->Option (List (Option aA))):Prop:=∀ d Y Y',T d Y=aa Y'->∀ (i:Nat) d',Y[i]?=aa (aa d')->Y'[i]?=aa (aa d')
def cN:BF:=λ_=>aa af
def gB (j:Nat):aA->List (Option aA)->Option (List (Option aA)):=λd Y=>match Y[j]? with
 |some ab=>aa (Y.set j (aa d))
 |_=>ab
theorem BM{Y':List (Option aA)}(h:gB j d Y=aa Y'):Y[j]?=aa ab/\Y.set j (aa d)=Y':=by
 unfold gB at h;split at h
 .rename_i e;exact⟨e,gQ h⟩
 .cases h
def jy (i j:Nat):aA->List (Option aA)->Option (List (Option aA)):=λd Y=>match d with
 |.tuple [a,b]=>(gB i a Y).bind λY'=>gB j b Y'
 |_=>ab
theorem mZ:t7 (gB j):=λd Y Y' e i d' h=>by
 obtain⟨hj,rfl⟩:=BM e;by_cases q:j=i
 .subst q;rw[hj] at h;cases h
 .rw[mW q];exact h
theorem AU:t7 (jy i j):=λd Y Y' e k d' h=>by
 unfold jy at e;split at e
 .obtain⟨Y1,e1,e2⟩:=aj e;exact mZ _ _ _ e2 k d' (mZ _ _ _ e1 k d' h)
 .cases e
section
variable {fi:AF}{T:aA->List (Option aA)->Option (List (Option aA))}{t:BF}{f:EF}
theorem qP:rS X [] (mn X.K cN):=λad s Z H Q I gh=>by
 obtain⟨P,Y,b,hP,rs,ef,k⟩:=gh;cases ef;exact Nd ad s Z H Q I (k H Ext.refl)
theorem xM (h:DT X c t):rS X [c] (mn X.K t):=Mx h
theorem Ama.set{B:Hp}(h:Ama K B Y Z)(r:Abr K B d v)(hl:j<Z.length):Ama K B (Y.set j (aa d)) (Z.set j (aa v)):=λi d' e=>by
 by_cases q:j=i
 .subst q;have hj:j<Y.length:=by
   have:=(cW.1 e).1;simpa using this
  rw[pZ hj] at e;cases e;exact⟨v,pZ hl,r⟩
 .rw[mW q] at e;obtain⟨w,h1,h2⟩:=h i d' e;exact⟨w,by rw[mW q];exact h1,h2⟩
def xi (X:Cx)(tg:aR)(T:aA->List (Option aA)->Option (List (Option aA))):Prop:=
 ∀ (ad:List (aD×bK)) (s:aI) (Z:St) (H:Hp) (v:V) (u:aF) (Q:St->Hp->Prop),Inv X ad Z H s->RelV v u->u6 X.K T v Z H Q ->
  aW (aY X.prog X.w) X.A (iI tg X.env u) (λ_ s'=>∃ Z' H',Inv X ad Z' H' s'/\Q Z' H') X.xe s
theorem qR(hN:X.N.Nodup)(hi:X.N[j]?=aa x)(hx:iU X.env.scope x)(hf:X.fn x=af\/X.env.scope.names.lookup x=aa .local:=by first|exact .inl rfl|exact .inr rfl|assumption):xi X (.Name x pos) (gB j):=λad s Z H v u Q I r gh=>by
 obtain⟨P,Y,d,Y',hP,rs,rd,ef,k⟩:=gh;obtain⟨hj,rfl⟩:=BM ef;have hl:j<Z.length:=by rw[I.len];exact(cW.1 hi).1
 exact qQ hN hi hx hf ad s Z H v u Q I r (k _ (rs.set rd hl))
theorem BX{p1:bL}{kk}(hc:X.calm=af)(hN:X.N.Nodup)(hi:X.N[i]?=aa x)(hj:X.N[j]?=aa y)(hx:iU X.env.scope x)(hy:iU X.env.scope y)
  (hf:X.fn x=af\/X.env.scope.names.lookup x=aa .local:=by first|exact .inl rfl|exact .inr rfl|assumption) (rp:X.fn y=af\/X.env.scope.names.lookup y=aa .local:=by first|exact .inl rfl|exact .inr rfl|assumption)
  (hn:(eQ [.Name x p1,.Name y p2] X.env).length=2:=by rfl) (gw:(eQ [.Name x p1,.Name y p2] X.env).findIdx? (·.1)=ab:=by rfl)
  (h1:(eQ [.Name x p1,.Name y p2] X.env).map (·.2)=iI (.Name x p1) X.env::(eQ [.Name y p2] X.env).map (·.2):=by rfl) (h2:(eQ [.Name y p2] X.env).map (·.2)=iI (.Name y p2) X.env::(eQ [] X.env).map (·.2):=by rfl):xi X (.Tuple [.Name x p1,.Name y p2] kk pos) (jy i j):=λad s Z H v u Q I r gh=>by
 obtain⟨P,Y,d,Y',hP,rs,rd,ef,k⟩:=gh;unfold jy at ef;split at ef
 .rename_i a b;obtain⟨Y1,e1,e2⟩:=aj ef;obtain⟨l1,rfl⟩:=BM e1;obtain⟨l2,rfl⟩:=BM e2;obtain⟨p,xs,rfl,hp,rr⟩:=Aau.1 rd;obtain⟨v1,t1,rfl,r1,rr⟩:=Aag.1 rr;obtain⟨v2,t2,rfl,r2,rr⟩:=Aag.1 rr;obtain rfl:=Aal.1 rr;have hl:i<Z.length:=by rw[I.len];exact(cW.1 hi).1
  have v4:j<Z.length:=by rw[I.len];exact(cW.1 hj).1
  exact ZX hc (vC (qQ hN hi hx hf) (vC (qQ hN hj hy rp) HI h2) h1) hn gw ad s Z H _ u Q I r ⟨p,_,rfl,SqT.of (Aaq _ _ hp),rfl,v1,_,rfl,v2,_,rfl,rfl,k _ ((rs.set r1 hl).set r2 (by simpa using v4))⟩
 .cases ef
theorem Wm{B:Hp}(h:Ama K B Y Z):Ama K B (kM cap Y) (uA cap Z):=λi d e=>by
 unfold kM at e;unfold uA;rw[fN] at e ⊢;cases hc:cap[i]? with
 |none=>rw[hc] at e;simp at e
 |some o=>
  rw[hc] at e;cases o with
  |none=>simp at e
  |some j=>
   simp only[EG,bB,Option.some.injEq] at e ⊢;obtain⟨v,h1,h2⟩:=h j d (VX e);exact⟨v,by rw[h1];rfl,h2⟩
theorem PH(hT:t7 T):∀ Z H Q,tF K 1 (bu cap fi T t f) Z H Q->xq cap (tI K fi) (u6 K T) (mn K t) (tF K 0 f) Z H Q:=λZ H Q gh=>by
 rw[4];obtain⟨ds,e1,ef⟩:=aj ef;obtain⟨all,e2,ef⟩:=aj ef;obtain⟨hz,rfl⟩:=cR ef;refine⟨P,Y,ds,hP,rs,e1,λJ H1 x1 it A hA=>?_⟩
 have hPA:=(hP.ext x1).new hA;have og:∀ {H':Hp} {ys:List V},hid (upd H' A (.lst ys)) (dh P [A])=hid H' (dh P [A]):=λ{H' ys}=>by
  funext b;unfold hid;by_cases hb:dh P [A] b
  .rw[if_pos hb,if_pos hb]
  .rw[if_neg hb,if_neg hb];exact cO (λz=>hb (.inr (by simp[z])))
 refine⟨λi m ys Z' H'=>m=ds.length-i/\i<=ds.length/\H' A=aa (.lst ys)/\Ext H1 H'/\Ext (hid H1 P) (hid H' (dh P [A]))/\Ama K (hid H' (dh P [A])) (kM cap Y) Z'/\ys.length<=i /\
  ∃ done rest,Aao K (hid H' (dh P [A])) done ys/\ja T t f (kM cap Y) (ds.drop i)=aa rest/\all=done++rest,⟨ds.length,?_⟩,?_⟩
 .have xa:Ext (hid H1 P) (hid (upd H1 A (.lst [])) (dh P [A])):=λb o e=>by
   obtain⟨nb,e⟩:=Ab3.1 e;have hb:=kC e hA;exact fL (λz=>z.elim nb λm=>hb (by simpa using m)) (by rw[cO hb];exact e)
  exact⟨by simp,eB _,eI,Ext.new hA,xa,(Wm (rs.ext (cK x1))).ext xa,eB _,[],all,Aal.2 rfl,by simpa using e2,rfl⟩
 .rintro i m ys Z' H' ⟨rfl,hi,hD,x2,xb,z6,hl,done,rest,rd,e3,rfl⟩;refine⟨hD,?_⟩;obtain⟨go,st⟩:=it i H' (Aaq.trans x2);have li:Hid (dh P [A]) H':=λa h=>by
   rcases h with h|h
   .exact(hP.ext (x1.trans x2)) a h
   .have:a=A:=by simpa using h
    rw[10];exact .inl ⟨_,hD⟩
  by_cases cr:i<ds.length
  .have hd:=eR cr;rw[NM cr] at e3;obtain⟨Y1,e4,e3⟩:=aj e3;obtain⟨c,e5,e3⟩:=aj e3;obtain⟨g1,g2⟩:=go _ hd;refine .inr ⟨g1,(),λys Z' H'=>i+1<=ds.length/\H' A=aa (.lst ys)/\Ext H1 H'/\Ext (hid H1 P) (hid H' (dh P [A]))/\Ama K (hid H' (dh P [A])) (kM cap Y) Z'/\ys.length<=i+1 /\
    ∃ d2 r2,Aao K (hid H' (dh P [A])) d2 ys/\ja T t f (kM cap Y) (ds.drop (i+1))=aa r2/\done++rest=d2++r2,λzs Z2 H2 h=>⟨ds.length-(i+1),(),rfl,h⟩,λx H2 y=>?_⟩
   obtain⟨x3,r3⟩:=g2 x H2 y;refine⟨dh P [A],kM cap Y,_,Y1,li.ext x3,z6.ext (cK x3),r3 _ li xb,e4,λZ3 v5=>?_⟩
   refine⟨dh P [A],Y1,c,li.ext x3,v5,e5,λH4 x4=>?_⟩
   have yc:Ama K (hid H2 (dh P [A])) (kM cap Y) Z3:=λj d' e=>v5 j d' (hT _ _ _ e4 j d' e)
   cases c with
   |false=>
    rw[if_neg mB] at e3;refine oH ⟨cr,x4 _ _ (x3 _ _ hD),x2.trans (x3.trans x4),xb.trans (cK (x3.trans x4)),yc.ext (cK x4),(),done,rest,rd.ext (cK (x3.trans x4)),e3,rfl⟩
   |true=>
    rw[if_pos rfl] at e3;obtain⟨yd,e6,e3⟩:=aj e3;obtain⟨r2,e7,e3⟩:=aj e3;cases e3;refine oF ⟨dh P [A],Y1,yd,li.ext (x3.trans x4),v5.ext (cK x4),e6,dJ λv H5 x5 r5=>⟨x5 _ _ (x4 _ _ (x3 _ _ hD)),cr,eI,?_,?_,?_,by simp;lia,done++[yd],r2,?_,e7,by simp⟩⟩
    .intro b o e;rw[cO (kC e hA)];exact x5 _ _ (x4 _ _ (x3 _ _ (x2 _ _ e)))
    .rw[og];exact xb.trans (cK (x3.trans (x4.trans x5)))
    .rw[og];exact yc.ext (cK (x4.trans x5))
    .rw[og];exact(rd.ext (cK (x3.trans (x4.trans x5)))).snoc r5
  .have e:i=ds.length:=()
   subst e;rw[List.drop_length] at e3;cases e3;rw[lY] at k;refine .inl ⟨st rfl,?_⟩;refine k (.ref A) H' [A] (x1.trans x2) (iJ.2 ⟨by simp,.nil⟩) (λa m=>?_) ⟨A,ys,ys.map λ_=>[],rfl,hD,?_,?_⟩
   .have:a=A:=by simpa using m
    rw[10];exact⟨x1.none hA,_,hD⟩
   .have:∀ l:List V,(l.map λ_=>([]:List aD)).flatten=[]:=λl=>by
     induction l with
     |nil=>rfl
     |cons a l ih=>rw[cT,iT,ih];rfl
    rw[this]
   .have go:∀ (ds:List aA) (xs:List V),Aao K (hid H' (dh P [A])) ds xs->All3 (Ad0 K (hid H' (dh P [A])) H' 0) ds xs (xs.map λ_=>[]):=by
     intro ds;induction ds with
     |nil=>intro xs r;rw[Aal.1 r];exact .nil
     |cons d ds ih=>
      intro xs r;obtain⟨y,t,rfl,h1,h2⟩:=Aag.1 r;exact .cons ⟨rfl,h1⟩ (ih t h2)
    exact go _ _ rd
def Ab (X:Cx)(N:List aE)(sc:fZ)(tg f9:aR)(fj:List aR)(T:aA->List (Option aA)->Option (List (Option aA)))(t:BF)(f:EF):Prop:=
 ∀ (cl:List (aE×aD)) (C:aD) (s₀:aI) (H₀:Hp) (ex:List aD),xi (gF X N sc cl C s₀ H₀ ex) tg T/\rS (gF X N sc cl C s₀ H₀ ex) fj (mn X.K t)/\DE (gF X N sc cl C s₀ H₀ ex) f9 f
theorem DR (hc:X.calm=af)(S:CompScope X N cap sc)(hT:t7 T)(hi:DI X tg bg fi)(hb:Ab X N sc tg f9 fj T t f)(hs:∀ x,rC bg X.env x=pure x:=by intro _;rfl) :
  DF 1 X (.ListComp f9 [⟨tg,bg,fj,0⟩] sc pos) (bu cap fi T t f):=PE.imp (Ii hc S hi (g:=u6 X.K T) (tc:=mn X.K t) (te:=tF X.K 0 f) hb hs) (PH hT)
theorem qS(m:Md)(hc:X.calm=af)(hN:X.N.Nodup)(j6:X.N[i]?=aa x)(hx:iU X.env.scope x)(S:CompScope X N cap sc)(hT:t7 T)(hi:DI X tg bg fi)(hb:Ab X N sc tg f9 fj T t f)
  (fy:iO (.ListComp f9 [⟨tg,bg,fj,0⟩] sc pos) (aa (.Name x px)) cv.line X.env=pure af:=by rfl)
  (hs:∀ x,rC bg X.env x=pure x:=by intro _;rfl) (hf:X.fn x=af\/X.env.scope.names.lookup x=aa .local:=by first|exact .inl rfl|exact .inr rfl|assumption) :
  DS X H0 P0 n0 (.Assign [.Name x px] (.ListComp f9 [⟨tg,bg,fj,0⟩] sc pos) cv) (bC i 1 m (bu cap fi T t f)):=PS.imp (Wv hc hN j6 hx S hi (g:=u6 X.K T) (tc:=mn X.K t) (te:=tF X.K 0 f) hb fy hs hf) λD Z H gh=>by
 rw[6];obtain⟨d,e1,ef⟩:=aj ef;obtain⟨hl,rfl⟩:=cR ef;refine PH hT Z H _ (NZ m Z H _ ⟨B0,Y,fp,d,S,e1,λv H' t=>?_⟩)
 obtain⟨bw,S'⟩:=t.set hl;exact k _ _ bw S'
end
def outD:Option Out->Option aA
 |some (.rt d)=>aa d
 |some (.nx _)=>aa .none
 |_=>ab
def cf (np n:Nat)(body:SF):List aA->Option aA:=λds=>if ds.length=np then outD (body (ds.map (λd=>aa (0,d))++oU (n-np) ab)) else ab
def ue (K:aM)(n0:Nat)(F:List aA->Option aA):Sp:=λvs H Q _=>∃ P ds d,Hid P H/\Aao K (hid H P) ds vs/\F ds=aa d/\Res K P n0 d H Q
section
variable {P:bP}{base:aU}
theorem PJ{k np:Nat}{body:SF}(F:Fun K x qual st f fd)(S:FnScope N ps (dD st))(v6:np=ps.length)(hN:ps.length<=N.length)
  (hb:∀ (cg:aF) (A:cE) (outer:List dP) (s:aI) (H:Hp) (E:XK) (P0:aD->Prop),Room k (A.deeper (envOfC qual (dD st) s.heap.objs.size f cg))->gu (oB jl P w K mg base N qual (dD st) f cg A outer s H E).nox H P0 n0 (nR st) body) :
  FnOk P w K mg base jl (k+1) f fd ps (ue K n0 (cf np N.length body)):=by
 refine F.ok S (λvs H Q E h=>?_) (λcg A outer s H vs Q E hr h=>?_)
 .obtain⟨P,ds,d,_,r,ef,_⟩:=h;unfold cf at ef;by_cases hl:ds.length=np
  .rw[r.length,hl,v6]
  .rw[if_neg hl] at ef;cases ef
 .obtain⟨P0,ds,d,hP,r,ef,k⟩:=h;refine⟨_,hb cg A outer s H E P0 hr,?_⟩;unfold cf at ef;by_cases hl:ds.length=np
  case neg=>rw[if_neg hl] at ef;cases ef
  rw[if_pos hl] at ef;rw[<-hl] at ef;have bj:=r.length;have S0:Sta K H P0 (hid H P0) (ds.map (λd=>aa (0,d))++oU (N.length-ds.length) ab) (start N vs) H (λ_=>[]):=by
   have eH:Hd P0 (λ_=>[])=P0:=by
    funext a;simp[Hd]
   refine⟨by simp[start,bj],λ_=>.nil,λi j a h=>by simp at h,λi a h=>by simp at h,Ext.refl,hP,by rw[eH];exact Ext.refl,λi n' d' e=>?_⟩
   rw[eH];by_cases hi:i<ds.length
   .rw[EN (by simpa using hi),fN] at e
    cases q:ds[i]? with
    |none=>rw[q] at e;simp at e
    |some d2=>
     rw[q] at e;have e':0=n'/\d2=d':=by simpa using e
     obtain⟨rfl,rfl⟩:=e';obtain⟨v,h1,h2⟩:=r.get q;refine⟨v,?_,rfl,h2⟩;unfold start;rw[EN (by rw[bR,bj];exact hi),fN,h1]
     rfl
   .rw[NH (by simpa using hi)] at e
    have:=eX e;simp at this
  cases eb:body (ds.map (λd=>aa (0,d))++oU (N.length-ds.length) ab) with
  |none=>rw[eb] at ef;cases ef
  |some o=>
   rw[eb] at ef;refine⟨_,_,_,o,S0,eb,?_⟩;cases o with
   |rt d'=>
    cases ef;exact λv H' ⟨Fr,h1,h2,h3,h4⟩=>k v H' Fr h1 h2 h3 h4
   |nx Y'=>
    cases ef;intro Z' H' bw S';refine k .non H' [] S'.ext .nil (λa m=>by simp at m) ?_
    cases n0 with
    |zero=>exact⟨rfl,Abp.2 rfl⟩
    |succ n=>
     unfold Afz;split
     .exact .inl ⟨rfl,rfl,rfl⟩
     .split
      .exact .inl ⟨rfl,rfl,rfl⟩
      .exact⟨rfl,Abp.2 rfl⟩
   |bk _=>cases ef
   |ct _=>cases ef
variable {k np:Nat}{F:List aA->Option aA}{fa:AF}
theorem sJ (D:Def X.prog X.w X.K X.mg X.base x k ps (ue X.K n0 F))(hr:Room k X.A)(hg:Gl X x)(ha:DA X (e::es) fa)(ic:(x==("__debug__" : aE))=ag:=by decide)(he:cA (e::es) X.env=(ag,bW e X.env)::cA es X.env:=by rfl)
  (gs:(iQ pos (cA es X.env)).any (·.1)=ag:=by rfl):DF n0 X (.Call (.Name x p) (e::es) [] pos) (aJ F fa):=
 PE.imp (Af D hr hg ha ic he gs) λZ H Q gh=>by
  rw[4];obtain⟨ds,e1,ef⟩:=aj ef;refine⟨P,Y,ds,hP,rs,e1,λvs H1 x1 r1=>?_⟩
  show ue X.K n0 F (vs++[]) H1 Q E0;rw[lY];exact⟨P,ds,d,hP.ext x1,r1,ef,k.mono x1⟩
end
def uc (g:Int->Int->aA):aA->aA->Option aA
 |.int i,.int j=>aa (g i j)
 |_,_=>ab
def nk (C:Int->Int->Prop)[∀ i j,Decidable (C i j)](g:Int->Int->aA):aA->aA->Option aA
 |.int i,.int j=>if C i j then aa (g i j) else ab
 |_,_=>ab
theorem Bc {g:Int->Int->V}{gd:Int->Int->aA}(h:∀ i j H,Abr K H (gd i j) (g i j)):OpD K 0 (k6 g) (uc gd):=λP H x y a b d Q hP ra rb e k=>by
 unfold uc at e;split at e
 .rename_i i j;cases e;exact⟨i,j,Aai.1 ra,Aai.1 rb,k.zero Ext.refl (h i j _)⟩
 .cases e
theorem yT {C C':Int->Int->Prop}[∀ i j,Decidable (C' i j)]{g:Int->Int->V}{gd:Int->Int->aA}(hC:∀ i j,C' i j->C i j)(h:∀ i j H,Abr K H (gd i j) (g i j)):OpD K 0 (rI C g) (nk C' gd):=λP H x y a b d Q hP ra rb e k=>by
 unfold nk at e;split at e
 .rename_i i j;obtain⟨hc,rfl⟩:=cR e;exact⟨i,j,Aai.1 ra,Aai.1 rb,hC i j hc,k.zero Ext.refl (h i j _)⟩
 .cases e
section
variable {a:aR}{fa fb fc:EF}
def qJ:aA->aA->Option aA:=uc λi j=>.int (i-j)
theorem Jp (ha:DE X a fa)(hb:DE X b fb):DE X (.BinOp a .Sub b pos) (ah qJ fa fb):=pF Ja (Bc λ_ _ _=>Aai.2 rfl) ha hb
def iG:aA->aA->Option aA:=nk (λi j=>(i.natAbs<2^64\/j.natAbs<2^64)\/(i.natAbs<2^1000/\j.natAbs<2^1000)) λi j=>.int (i*j)
theorem VI:OpR X (jQ .Mult) (rI (λi j=>(i.natAbs<2^64\/j.natAbs<2^64)\/(i.natAbs<2^1000/\j.natAbs<2^1000)) λi j=>.int (i*j)):=by
 rw[3];obtain⟨i,j,ex,ey,hc,q⟩:=h;rcases hc with hc|hc
 .refine Ir ad s Z H x y v u Q I rx ry ⟨i,j,ex,ey,?_,q⟩;rcases hc with hc|hc
  .exact .inl ⟨(),()⟩
  .exact .inr ⟨(),()⟩
 .exact Mh ad s Z H x y v u Q I rx ry ⟨i,j,ex,ey,hc,q⟩
theorem Mo (ha:DE X a fa)(hb:DE X b fb):DE X (.BinOp a .Mult b pos) (ah iG fa fb):=pF VI (yT (λ_ _ h=>h) λ_ _ _=>Aai.2 rfl) ha hb
def dY:aA->aA->Option aA:=nk (λ_ j=>0<j/\j<1073741824) λi j=>.int (i/j)
theorem Dh (ha:DE X a fa)(hb:DE X b fb):DE X (.BinOp a .FloorDiv b pos) (ah dY fa fb):=pF Ve (yT (λ_ _ h=>h) λ_ _ _=>Aai.2 rfl) ha hb
def cC:aA->aA->Option aA:=nk (λ_ j=>0<j) λi j=>.int (i%j)
theorem GH (ha:DE X a fa)(hb:DE X b fb):DE X (.BinOp a .Mod b pos) (ah cC fa fb):=pF Ml (yT (λ_ _ h=>h) λ_ _ _=>Aai.2 rfl) ha hb
def AN:aA->aA->Option aA:=nk (λi j=>0<=j/\j<=1000000/\i.natAbs<2^64) λi j=>.int (i^j.toNat)
theorem Au (ha:DE X a fa)(hb:DE X b fb):DE X (.BinOp a .Pow b pos) (ah AN fa fb):=pF Jo (yT (λ_ _ h=>h) λ_ _ _=>Aai.2 rfl) ha hb
theorem Sd(hx:cI (.str x)=af)(hy:cI (.str y)=af):cI (.str (x++y))=af:=by
 have e:(x++y).cps=x.cps++y.cps:=rfl;simp only[cI,EE] at hx hy ⊢;rw[e,Array.all_append,hx,hy]
 rfl
def dA:aA->aA->Option aA
 |.int i,.int j=>aa (.int (i+j))
 |.str x,.str y=>if x.length+y.length<=sizeLine then aa (.str (x++y)) else ab
 |.tuple (x::xs),.tuple ys=>if (x::xs).length+ys.length<=sizeLine then aa (.tuple ((x::xs)++ys)) else ab
 |_,_=>ab
theorem Mw:OpD K 0 (λx y H Q=>k6 (λi j=>.int (i+j)) x y H Q\/(∃ i j,x=.str i/\y=.str j/\i.length+j.length<=sizeLine/\Q (.str (i++j)) H)\/FV K x y H Q) dA:=λP H x y a b d Q hP ra rb e k=>by
 unfold dA at e;split at e
 .rename_i i j;cases e;exact .inl ⟨i,j,Aai.1 ra,Aai.1 rb,k.zero Ext.refl (Aai.2 rfl)⟩
 .rename_i i j;obtain⟨hc,rfl⟩:=cR e;exact .inr (.inl ⟨i,j,(Aa6.1 ra).1,(Aa6.1 rb).1,hc,k.zero Ext.refl (Aa6.2 ⟨rfl,Sd (Aa6.1 ra).2 (Aa6.1 rb).2⟩)⟩)
 .rename_i z zs ys;obtain⟨hc,rfl⟩:=cR e;obtain⟨p,us,rfl,hp,r1⟩:=Aau.1 ra;obtain⟨q,ws,rfl,hq,r2⟩:=Aau.1 rb;have l1:=r1.length;have l2:=r2.length;refine .inr (.inr ⟨p,q,us,ws,rfl,rfl,SqT.of (Aaq _ _ hp),SqT.of (Aaq _ _ hq),λz=>by rw[z] at l1;simp at l1,by rw[l1,l2];exact hc,λz=>?_,λz r hr=>?_⟩)
  .subst z;have:ys=[]:=by simpa using l2.symm
   rw[10];refine k.zero Ext.refl ?_;rw[lY];exact ra
  .exact k.tup hP hr (r1.append r2)
 .cases e
theorem GM (ha:DE X a fa)(hb:DE X b fb):DE X (.BinOp a .Add b pos) (ah dA fa fb):=pF (Bgj.or (Aw9.or Ax5)) Mw ha hb
mutual
def noDict:aA->Bool
 |.dict _=>ag
 |.list ds=>noDicts ds
 |.tuple ds=>noDicts ds
 |_=>af
def noDicts:List aA->Bool
 |[]=>af
 |d::r=>noDict d&&noDicts r
end
mutual
theorem kU {X:Cx}(I:Inv X ad Z H s):∀ {d:aA} {v:V} {u:aF},noDict d=af->Abr X.K H d v->RelV v u->d.canLay0=af/\∃ as,pX s.heap u d as
 |.none,v,u,_,h,r=>by
  obtain rfl:=Abp.1 h;cases r;exact⟨by simp[cI],_,.none⟩
 |.bool b,v,u,_,h,r=>by
  obtain rfl:=Aay.1 h;cases r;exact⟨by simp[cI],_,.bool b⟩
 |.int i,v,u,_,h,r=>by
  obtain rfl:=Aai.1 h;obtain⟨t,rfl⟩:=r;exact⟨by simp[cI],_,.int i t⟩
 |.str x,v,u,_,h,r=>by
  obtain⟨rfl,hl⟩:=Aa6.1 h;obtain⟨t,rfl⟩:=r;exact⟨hl,_,.str x t⟩
 |.list ds,v,u,n,h,r=>by
  obtain⟨a,xs,rfl,hs,hr⟩:=Abe.1 h;cases r;obtain⟨its,rv,⟨o,m,e,hc,_,hd⟩,_⟩:=I.list hs;obtain⟨hl,as,ha⟩:=KS I (by simpa [noDict] using n) hr rv
  exact⟨by simpa [cI] using hl,_,.list e hc hd (by simpa using ha)⟩
 |.tuple ds,v,u,n,h,r=>by
  obtain⟨a,xs,rfl,hs,hr⟩:=Aau.1 h;cases r;obtain⟨its,rv,⟨o,e,hc,m,hd⟩,_⟩:=I.tuple (SqT.of hs);obtain⟨hl,as,ha⟩:=KS I (by simpa [noDict] using n) hr rv
  exact⟨by simpa [cI] using hl,_,.tuple e hc hd (by simpa using ha)⟩
 |.dict _,_,_,n,h,_=>by simp[noDict] at n
theorem KS {X:Cx}(I:Inv X ad Z H s):∀ {ds:List aA} {vs:List V} {us:List aF},noDicts ds=af->Aao X.K H ds vs->Vals vs us->zN ds=af/\∃ as,pW s.heap us ds as
 |[],vs,us,_,h,r=>by
  obtain rfl:=Aal.1 h;cases r;exact⟨by simp[zN],_,.nil⟩
 |d::ds,vs,us,n,h,r=>by
  have n':noDict d=af/\noDicts ds=af:=by simpa [noDicts] using n
  obtain⟨x,rr,rfl,h1,h2⟩:=Aag.1 h;cases r with
  |cons r1 r2=>
   obtain⟨l1,as,ha⟩:=kU I n'.1 h1 r1;obtain⟨l2,bs,hb⟩:=KS I n'.2 h2 r2;exact⟨by simp[zN,l1,l2],_,.cons ha hb⟩
end
def Ad2 (d:aA):Bool:=noDict d&&decide (d.depth<=60)
def cb:aA->aA->Option aA:=λa b=>if (Ad2 a&&Ad2 b)=af then aa (.bool (bX a b)) else ab
def dg:aA->aA->Option aA:=λa b=>if (Ad2 a&&Ad2 b)=af then aa (.bool (!bX a b)) else ab
def wR (K:aM)(neg:Bool):R2:=λx y H Q=>∃ da db,Abr K H da x/\Abr K H db y/\Ad2 da=af/\Ad2 db=af/\Q (.bl (neg != bX da db)) H
theorem sR (hu:X.A.units+100<cLine):OpR X (iB .Eq) (wR X.K ag):=by
 rw[3];obtain⟨da,db,ra,rb,fa,fb,q⟩:=h;have ku:noDict da=af/\da.depth<=60:=by simpa [Ad2] using fa
 have v7:noDict db=af/\db.depth<=60:=by simpa [Ad2] using fb
 obtain⟨la,as,ra⟩:=kU I ku.1 ra rx;obtain⟨lb,bs,rb⟩:=kU I v7.1 rb ry;exact SeqAt.compareEq_reads ra rb la lb () ⟨.bl _,H,I,rfl,by simpa using q⟩
theorem Ac (hu:X.A.units+100<cLine):OpR X (iB .NotEq) (wR X.K af):=by
 rw[3];obtain⟨da,db,ra,rb,fa,fb,q⟩:=h;have ku:noDict da=af/\da.depth<=60:=by simpa [Ad2] using fa
 have v7:noDict db=af/\db.depth<=60:=by simpa [Ad2] using fb
 obtain⟨la,as,ra⟩:=kU I ku.1 ra rx;obtain⟨lb,bs,rb⟩:=kU I v7.1 rb ry;exact SeqAt.compareNe_reads ra rb la lb () ⟨.bl _,H,I,rfl,by simpa using q⟩
theorem sI:OpD K 0 (wR K ag) cb:=λP H x y a b d Q hP ra rb e k=>by
 obtain⟨hc,rfl⟩:=cR e;have dr:Ad2 a=af/\Ad2 b=af:=by simpa using hc
 exact⟨a,b,ra.ext Aaq,rb.ext Aaq,dr.1,dr.2,k.zero Ext.refl (Aay.2 (by simp))⟩
theorem Mp:OpD K 0 (wR K af) dg:=λP H x y a b d Q hP ra rb e k=>by
 obtain⟨hc,rfl⟩:=cR e;have dr:Ad2 a=af/\Ad2 b=af:=by simpa using hc
 exact⟨a,b,ra.ext Aaq,rb.ext Aaq,dr.1,dr.2,k.zero Ext.refl (Aay.2 (by simp))⟩
def FR (K:aM)(neg:Bool):R2:=λx y H Q=>∃ d ds,Abr K H d x/\(Abr K H (.list ds) y\/Abr K H (.tuple ds) y)/\Ad2 d=af/\noDicts ds=af/\Q (.bl (neg != ds.any λz=>bX z d)) H
theorem Ke (hu:X.A.units+100<cLine):OpR X (iB .In) (FR X.K ag):=by
 rw[3];obtain⟨d,ds,ra,rb,fa,fb,q⟩:=h;have ku:noDict d=af/\d.depth<=60:=by simpa [Ad2] using fa
 obtain⟨la,as,ra⟩:=kU I ku.1 ra rx;rcases rb with rb|rb
 .obtain⟨lb,bs,rb⟩:=kU I (by simpa [noDict] using fb) rb ry
  exact SeqAt.in_list_reads rb ra (by simpa [cI] using lb) la () ⟨.bl _,H,I,rfl,by simpa using q⟩
 .obtain⟨lb,bs,rb⟩:=kU I (by simpa [noDict] using fb) rb ry
  exact SeqAt.in_tuple_reads rb ra (by simpa [cI] using lb) la () ⟨.bl _,H,I,rfl,by simpa using q⟩
theorem WB (hu:X.A.units+100<cLine):OpR X (iB .NotIn) (FR X.K af):=by
 rw[3];obtain⟨d,ds,ra,rb,fa,fb,q⟩:=h;have ku:noDict d=af/\d.depth<=60:=by simpa [Ad2] using fa
 obtain⟨la,as,ra⟩:=kU I ku.1 ra rx;rcases rb with rb|rb
 .obtain⟨lb,bs,rb⟩:=kU I (by simpa [noDict] using fb) rb ry
  exact SeqAt.notIn_list_reads rb ra (by simpa [cI] using lb) la () ⟨.bl _,H,I,rfl,by simpa using q⟩
 .obtain⟨lb,bs,rb⟩:=kU I (by simpa [noDict] using fb) rb ry
  exact SeqAt.notIn_tuple_reads rb ra (by simpa [cI] using lb) la () ⟨.bl _,H,I,rfl,by simpa using q⟩
end
theorem PE.or{t t':TE}(h:PE X e t)(h':PE X e t'):PE X e (λZ H Q=>t Z H Q\/t' Z H Q):=λad s Z H Q I q=>q.elim (h ad s Z H Q I) (h' ad s Z H Q I)
def k4:aA->aA->Option aA
 |.int i,.int j=>aa (.bool (decide (i<j)))
 |.str i,.str j=>aa (.bool (decide (i.cps.toList<j.cps.toList)))
 |_,_=>ab
def dw:aA->aA->Option aA:=uc λi j=>.bool (decide (j<i))
theorem Le:OpD K 0 (λx y H Q=>k6 (λi j=>.bl (decide (i<j))) x y H Q\/∃ i j,x=.str i/\y=.str j/\Q (.bl (decide (i.cps.toList<j.cps.toList))) H) k4:=λP H x y a b d Q hP ra rb e k=>by
 unfold k4 at e;split at e
 .cases e;exact .inl ⟨_,_,Aai.1 ra,Aai.1 rb,k.zero Ext.refl (Aay.2 rfl)⟩
 .cases e;exact .inr ⟨_,_,(Aa6.1 ra).1,(Aa6.1 rb).1,k.zero Ext.refl (Aay.2 rfl)⟩
 .cases e
theorem AO:OpD K 0 (k6 λi j=>.bl (decide (j<i))) dw:=Bc λ_ _ _=>Aay.2 rfl
def qZ:aA->aA->Option aA
 |.none,.none=>aa (.bool af)
 |_,.none=>aa (.bool ag)
 |_,_=>ab
def fJ:aA->aA->Option aA
 |.none,.none=>aa (.bool ag)
 |_,.none=>aa (.bool af)
 |_,_=>ab
theorem VN{a:aA}{x:V}(r:Abr K H a x):decide (x=.non)=(match a with|.none=>af|_=>ag):=by
 cases a with
 |none=>obtain rfl:=Abp.1 r;rfl
 |bool b=>obtain rfl:=Aay.1 r;rfl
 |int b=>obtain rfl:=Aai.1 r;rfl
 |str b=>obtain⟨rfl,_⟩:=Aa6.1 r;rfl
 |list b=>obtain⟨_,_,rfl,_⟩:=Abe.1 r;rfl
 |tuple b=>obtain⟨_,_,rfl,_⟩:=Aau.1 r;rfl
 |dict b=>obtain⟨_,rfl,_⟩:=Ac0.1 r;rfl
theorem HH:OpD K 0 (λx y H Q=>y=.non/\Q (.bl (decide (x=.non))) H) qZ:=λP H x y a b d Q hP ra rb e k=>by
 have q:=VN ra;unfold qZ at e;split at e
 .cases e;exact⟨Abp.1 rb,k.zero Ext.refl (Aay.2 (by rw[q]))⟩
 .rename_i h;cases e;refine⟨Abp.1 rb,k.zero Ext.refl (Aay.2 ?_)⟩;rw[q];cases a<;>first|rfl|exact(h rfl).elim
 .cases e
theorem RY:OpD K 0 (λx y H Q=>y=.non/\Q (.bl (!decide (x=.non))) H) fJ:=λP H x y a b d Q hP ra rb e k=>by
 have q:=VN ra;unfold fJ at e;split at e
 .cases e;exact⟨Abp.1 rb,k.zero Ext.refl (Aay.2 (by rw[q];rfl))⟩
 .rename_i h;cases e;refine⟨Abp.1 rb,k.zero Ext.refl (Aay.2 ?_)⟩;rw[q];cases a<;>first|rfl|exact(h rfl).elim
 .cases e
noncomputable def bM:aA->Option aH
 |.int i=>aa (.inl i)
 |.str x=>aa (.inr x)
 |_=>ab
theorem sZ{k:aH}(h:bM d=aa k):d=kD k:=by
 cases d<;>simp[bM] at h<;>subst h<;>rfl
noncomputable def bJ (kds:List (aA×aA))(k:aH):Option aA:=(kds.find? λkd=>decide (bM kd.1=aa k)).map (·.2)
theorem iN (k:aH):bM (kD k)=aa k:=by cases k<;>rfl
theorem qV{k:aH}:∀ {kds:List (aA×aA)} {kvs:List (aH×V)},Abu K H kds kvs->(bJ kds k=ab/\dR kvs k=ab)\/∃ d v,bJ kds k=aa d/\dR kvs k=aa v/\Abr K H d v
 |[],kvs,h=>by rw[Abq.1 h];exact .inl ⟨rfl,rfl⟩
 |(k0,d)::r,kvs,h=>by
  obtain⟨k',x,rr,rfl,rfl,h1,h2⟩:=Aa7.1 h;by_cases e:k'=k
  .refine .inr ⟨d,x,?_,kA e,h1⟩;simp[bJ,fH,iN,e]
  .have e1:bJ ((kD k',d)::r) k=bJ r k:=by simp[bJ,fH,iN,e]
   rw[e1,jN e];exact qV h2
theorem YV{k:aH}:∀ {kds:List (aA×aA)} {kvs:List (List aA×V)},Acj K H kds kvs->bJ kds k=ab
 |[],kvs,h=>rfl
 |(k0,d)::r,kvs,h=>by
  obtain⟨k',x,rr,rfl,⟨rfl,_⟩,h1,h2⟩:=Ab6.1 h;have e1:bJ ((.tuple k',d)::r) k=bJ r k:=by simp[bJ,fH,bM]
  rw[e1];exact YV h2
theorem Xu{k:aH}(h:Abr K H (.dict kds) v)(e:bJ kds k=aa d):∃ a,∃ kvs:Nat×List (aH×V),v=.ref a/\H a=aa (.dK kvs.1 kvs.2)/\Abu K H kds kvs.2:=by
 obtain⟨a,ev,⟨kvs,h1,r⟩|⟨ts,h1,r⟩|⟨xs,h1,r⟩⟩:=Ac0.1 h
 case inr.inr=>
  obtain⟨es,rfl,_⟩:=JQ r;cases e
 .exact⟨a,kvs,ev,h1,r⟩
 .cases kds with
  |nil=>simp[Axk] at r
  |cons p q=>
   obtain⟨k0,m⟩:=p;obtain⟨rfl,r2⟩:=Aee.1 r;have e1:bJ ((.none,m)::q) k=bJ q k:=by simp[bJ,fH,bM]
   rw[e1,YV r2] at e;cases e
def Ahz (kds:List (aA×aA))(k:List aA):Option aA:=(kds.find? λkd=>bX kd.1 (.tuple k)).map (·.2)
theorem Cy (a b:List aA):bX (.tuple a) (.tuple b)=oQ a b:=by simp[bX]
theorem XE {a k:List aA}{r:List (aA×aA)}(ha:bY a=af)(hk:bY k=af):Ahz ((.tuple a,d)::r) k=if a=k then aa d else Ahz r k:=by
 have e:bX (.tuple a) (.tuple k)=decide (a=k):=by rw[Cy,yG _ _ ha hk]
 unfold Ahz;rw[fH,e];by_cases h:a=k
 .rw[if_pos h,decide_eq_true h];rfl
 .rw[if_neg h,decide_eq_false h]
theorem KA{k:List aA}(hk:bY k=af):∀ {kds:List (aA×aA)} {kvs:List (List aA×V)},Acj K H kds kvs->(Ahz kds k=ab/\dR kvs k=ab)\/∃ d v,Ahz kds k=aa d/\dR kvs k=aa v/\Abr K H d v
 |[],kvs,h=>by rw[Adm.1 h];exact .inl ⟨rfl,rfl⟩
 |(k0,d)::r,kvs,h=>by
  obtain⟨k',x,rr,rfl,⟨rfl,gf⟩,h1,h2⟩:=Ab6.1 h;rw[XE gf hk];by_cases e:k'=k
  .rw[if_pos e];exact .inr ⟨d,x,rfl,kA e,h1⟩
  .rw[if_neg e,jN e];exact KA hk h2
noncomputable def putD (kds:List (aA×aA))(k:aH)(d:aA):List (aA×aA):=
 if (kds.any λkd=>decide (bM kd.1=aa k))=af then kds.map λkd=>if bM kd.1=aa k then(kd.1,d) else kd else kds++[(kD k,d)]
theorem QZ{k:aH}:∀ {kds:List (aA×aA)} {kvs:List (aH×V)},Abu K H kds kvs->(kds.any λkd=>decide (bM kd.1=aa k))=kvs.any λkv=>decide (kv.1=k)
 |[],kvs,h=>by rw[Abq.1 h];rfl
 |(k0,d)::r,kvs,h=>by
  obtain⟨k',x,rr,rfl,rfl,h1,h2⟩:=Aa7.1 h;rw[rK,rK,QZ h2,iN];simp
theorem JB{k:aH}(rv:Abr K H d v):∀ {kds:List (aA×aA)} {kvs:List (aH×V)},Abu K H kds kvs ->
  Abu K H (kds.map λkd=>if bM kd.1=aa k then(kd.1,d) else kd) (kvs.map λkv=>if kv.1=k then(kv.1,v) else kv)
 |[],kvs,h=>by rw[Abq.1 h];exact Abq.2 rfl
 |(k0,d0)::r,kvs,h=>by
  obtain⟨k',x,rr,rfl,rfl,h1,h2⟩:=Aa7.1 h;rw[cT,cT];by_cases e:k'=k
  .rw[if_pos (show bM (kD k',d0).1=aa k by rw[iN,e]),if_pos (show(k',x).1=k from e)]
   exact Aa7.2 ⟨k',v,_,rfl,rfl,rv,JB rv h2⟩
  .rw[if_neg (show ¬ bM (kD k',d0).1=aa k by rw[iN];simpa using e),if_neg (show ¬ (k',x).1=k from e)]
   exact Aa7.2 ⟨k',x,_,rfl,rfl,h1,JB rv h2⟩
theorem Abu.snoc{k:aH}(rv:Abr K H d v):∀ {kds:List (aA×aA)} {kvs:List (aH×V)},Abu K H kds kvs->Abu K H (kds++[(kD k,d)]) (kvs++[(k,v)])
 |[],kvs,h=>by rw[Abq.1 h];exact Aa7.2 ⟨k,v,[],rfl,rfl,rv,Abq.2 rfl⟩
 |(k0,d0)::r,kvs,h=>by
  obtain⟨k',x,rr,rfl,rfl,h1,h2⟩:=Aa7.1 h;exact Aa7.2 ⟨k',x,_,rfl,rfl,h1,Abu.snoc rv h2⟩
theorem xQ{k:aH}{kvs:List (aH×V)}(h:Abu K H kds kvs)(rv:Abr K H d v):Abu K H (putD kds k d) (putK kvs k v):=by
 unfold putD putK;rw[QZ h];by_cases q:(kvs.any λkv=>decide (kv.1=k))=af
 .rw[if_pos q,if_pos q];exact JB rv h
 .rw[if_neg q,if_neg q];exact Abu.snoc rv h
theorem Abu.length:∀ {kds:List (aA×aA)} {kvs:List (aH×V)},Abu K H kds kvs->kvs.length=kds.length
 |[],kvs,h=>by rw[Abq.1 h];rfl
 |(k0,d0)::r,kvs,h=>by
  obtain⟨k',x,rr,rfl,rfl,h1,h2⟩:=Aa7.1 h;rw[fU,fU,Abu.length h2]
theorem kB{x:V}{k:aH}(h:bM d=aa k)(r:Abr K H d x):x=kV k:=by
 rw[sZ h] at r;exact Tq r
def ao:aA->aA->Option aA
 |.list ds,.int i=>gc ds i
 |.tuple ds,.int i=>gc ds i
 |.str z,.int i=>if z.length<=sizeLine then(gc z.cps.toList i).bind λc=>aa (.str ⟨#[c]⟩) else ab
 |.dict kds,d=>(bM d).bind λk=>bJ kds k
 |_,_=>ab
theorem Cb{i:Int}(r:Aao K H ds xs)(h:gc ds i=aa d):∃ v,gc xs i=aa v/\Abr K H d v:=by
 unfold gc at h ⊢;rw[r.length];obtain⟨j,h1,h2⟩:=aj h;obtain⟨v,h3,h4⟩:=r.get h2;exact⟨v,by rw[h1];exact h3,h4⟩
theorem Vh {α:Type}{xs:List α}{i:Int}{x:α}(h:gc xs i=aa x):∃ j:Nat,xs[j]?=aa x:=by
 unfold gc at h;obtain⟨j,h1,h2⟩:=aj h;exact⟨j,h2⟩
section
variable {a:aR}{fa fb f:EF}
theorem nH (hu:X.A.units+40<cLine)(ha:DE X a fa)(hb:DE X b fb)(hs:xP b):DE X (.Subscript a b pos) (ah ao fa fb):=PE.imp (PE.or (DD AQ ha hb hs) (HL hu ha hb hs)) λZ H Q h=>by
 obtain⟨P,Y,d,hP,rs,ef,k⟩:=h;obtain⟨d1,e1,bv⟩:=aj ef;obtain⟨d2,e2,bh⟩:=aj bv;clear ef bv;have seq:(∀ (H2:Hp) (v u:V),Ext H H2->Abr X.K (hid H2 P) d1 v->Abr X.K (hid H2 P) d2 u->xo X.K v u H2 Q)->qm (xo X.K) (tF X.K 0 fa) (tF X.K 0 fb) Z H Q:=λz=>
  ⟨P,Y,d1,hP,rs,e1,dJ λv H1 x1 r1=>⟨P,Y,d2,hP.ext x1,rs.ext (cK x1),e2,dJ λu H2 x2 r2=>z H2 v u (x1.trans x2) (r1.ext (cK x2)) r2⟩⟩
 cases d1 with
 |list ds=>
  cases d2 with
  |int i=>
   refine .inl (seq λH2 v u x r1 r2=>.inl ?_)
   obtain⟨q,xs,rfl,hq,rr⟩:=Abe.1 r1;obtain⟨w,h1,h2⟩:=Cb rr (show gc ds i=aa d from bh)
   exact⟨q,xs,i,w,rfl,Aai.1 r2,Aaq.sqL hq,h1,k.zero x h2⟩
  |_=>cases bh
 |tuple ds=>
  cases d2 with
  |int i=>
   refine .inl (seq λH2 v u x r1 r2=>.inr (.inl ?_))
   obtain⟨q,xs,rfl,hq,rr⟩:=Aau.1 r1;obtain⟨w,h1,h2⟩:=Cb rr (show gc ds i=aa d from bh)
   exact⟨q,xs,i,w,rfl,Aai.1 r2,SqT.of (Aaq _ _ hq),h1,k.zero x h2⟩
  |_=>cases bh
 |str z=>
  cases d2 with
  |int i=>
   have bh:(if z.length<=sizeLine then(gc z.cps.toList i).bind λc=>aa (.str ⟨#[c]⟩) else ab)=aa d:=bh
   by_cases hz:z.length<=sizeLine
   .rw[if_pos hz] at bh;obtain⟨c,h1,h2⟩:=aj bh;cases h2;obtain⟨j,hj⟩:=Vh h1;refine .inl (seq λH2 v u x r1 r2=>.inr (.inr ⟨z,i,c,(Aa6.1 r1).1,Aai.1 r2,hz,h1,k.zero x (Aa6.2 ⟨rfl,JH (Aa6.1 r1).2 hj⟩)⟩))
   .rw[if_neg hz] at bh;cases bh
  |_=>cases bh
 |dict kds=>
  obtain⟨kk,h1,h2⟩:=aj (show((bM d2).bind λk=>bJ kds k)=aa d by cases d2<;>exact bh)
  refine .inr ⟨P,Y,_,hP,rs,e1,dJ λv H1 x1 r1=>⟨P,Y,d2,hP.ext x1,rs.ext (cK x1),e2,dJ λu H2 x2 r2=>?_⟩⟩
  obtain⟨q,kvs,rfl,hq,rr⟩:=Xu (r1.ext (cK x2)) h2;rcases qV rr with⟨n1,_⟩|⟨d',v',s1,s2,rd⟩
  .rw[h2] at n1;cases n1
  .rw[h2] at s1;cases s1;refine⟨q,v',rfl,.inl ⟨kvs.1,kvs.2,kk,.inl (Aaq _ _ hq),kB h1 r2,s2.symm⟩,k.zero (x1.trans x2) rd⟩
 |_=>cases d2<;>cases bh
def FM (neg:Bool):aA->List (aA×aA)->Option aA
 |.tuple _,(_,.list _)::_=>ab
 |.tuple k,(_,_)::kds=>if (bY k&&decide (cY k<=6))=af then aa (.bool (neg != (Ahz kds k).isSome)) else ab
 |_,_=>ab
def dy (neg:Bool):aA->aA->Option aA
 |d,.list ds=>if (Ad2 d&&noDicts ds)=af then aa (.bool (neg != ds.any λz=>bX z d)) else ab
 |d,.tuple ds=>if (Ad2 d&&noDicts ds)=af then aa (.bool (neg != ds.any λz=>bX z d)) else ab
 |.str i,.str j=>aa (.bool (neg != !(NT j i 0 j.length 1).isEmpty))
 |d,.dict kds=>if cz kds=af then(bM d).bind λk=>aa (.bool (neg != (bJ kds k).isSome)) else FM neg d kds
 |_,_=>ab
def GF (K:aM)(neg:Bool):R2:=λx y H Q=>FR K neg x y H Q\/(∃ i j,x=.str i/\y=.str j/\Q (.bl (neg != !(NT j i 0 j.length 1).isEmpty)) H)\/∃ a o,y=.ref a/\Axm H a x o/\Q (.bl (neg != o.isSome)) H
theorem JC (hu:X.A.units+100<cLine):OpR X (iB .In) (GF X.K ag):=by
 rw[3];rcases h with h|⟨i,j,ex,ey,q⟩|⟨a,o,rfl,g,q⟩
 .exact Ke hu ad s Z H x y v u Q I rx ry h
 .exact Qv ad s Z H x y v u Q I rx ry ⟨i,j,ex,ey,by simpa using q⟩
 .cases ry;exact Fo () I g rx λs' I'=>⟨.bl _,H,I',rfl,by simpa using q⟩
theorem XX (hu:X.A.units+100<cLine):OpR X (iB .NotIn) (GF X.K af):=by
 rw[3];rcases h with h|⟨i,j,ex,ey,q⟩|⟨a,o,rfl,g,q⟩
 .exact WB hu ad s Z H x y v u Q I rx ry h
 .exact Ug ad s Z H x y v u Q I rx ry ⟨i,j,ex,ey,by simpa using q⟩
 .cases ry;exact Vg () I g rx λs' I'=>⟨.bl _,H,I',rfl,by simpa using q⟩
theorem xC{neg:Bool}:OpD K 0 (GF K neg) (dy neg):=λP H x y a b d Q hP ra rb e k=>by
 unfold dy at e;split at e
 .obtain⟨hc,rfl⟩:=cR e;have dr:=gE.1 hc;exact .inl ⟨a,_,ra.ext Aaq,.inl (rb.ext Aaq),dr.1,dr.2,k.zero Ext.refl (Aay.2 rfl)⟩
 .obtain⟨hc,rfl⟩:=cR e;have dr:=gE.1 hc;exact .inl ⟨a,_,ra.ext Aaq,.inr (rb.ext Aaq),dr.1,dr.2,k.zero Ext.refl (Aay.2 rfl)⟩
 .cases e;exact .inr (.inl ⟨_,_,(Aa6.1 ra).1,(Aa6.1 rb).1,k.zero Ext.refl (Aay.2 rfl)⟩)
 .rename_i kds;by_cases pk:cz kds=af
  case neg=>
   rw[if_neg pk] at e;have ek:∃ m r,kds=(.none,m)::r:=by
    cases kds with
    |nil=>simp[cz] at pk
    |cons p r=>
     obtain⟨k0,m⟩:=p;cases k0<;>simp[cz] at pk;exact⟨m,r,rfl⟩
   obtain⟨m,r,rfl⟩:=ek;cases a with
   |tuple kk=>
    have hm:∀ es,m ≠ .list es:=by
     rintro es rfl;cases e
    replace e:(if (bY kk&&decide (cY kk<=6))=af then aa (fA (neg != (Ahz r kk).isSome)) else ab)=aa d:=by
     cases m with
     |list es=>exact absurd rfl (hm es)
     |_=>exact e
    obtain⟨hc,rfl⟩:=cR e;have dr:bY kk=af/\cY kk<=6:=by simpa using hc
    obtain⟨q,ts,rfl,hq,rr⟩:=(JS hm).1 rb;obtain⟨b,xs,rfl,hb,rx⟩:=Aau.1 (ra.ext Aaq);refine .inr (.inr ⟨q,dR ts.2 kk,rfl,.inr ⟨ts.2,kk,b,⟨_,.inl (Aaq _ _ hq)⟩,rfl,⟨dr.1,dr.2,xs,hb,Aao.keys kk dr.1 rx⟩,rfl⟩,k.zero Ext.refl (Aay.2 ?_)⟩);rcases KA dr.1 rr with⟨n1,n2⟩|⟨d',v',s1,s2,rd⟩
    .rw[n1,n2];rfl
    .rw[s1,s2];rfl
   |_=>simp[FM] at e
  rw[if_pos pk] at e;obtain⟨kk,h1,h2⟩:=aj e;cases h2;obtain⟨q,kvs,rfl,hq,rr⟩:=(nW pk).1 rb;refine .inr (.inr ⟨q,dR kvs.2 kk,rfl,.inl ⟨kvs.1,kvs.2,kk,.inl (Aaq _ _ hq),kB h1 ra,rfl⟩,k.zero Ext.refl (Aay.2 ?_)⟩);rcases qV rr with⟨n1,n2⟩|⟨d',v',s1,s2,rd⟩
  .rw[n1,n2];rfl
  .rw[s1,s2];rfl
 .cases e
end
def bG:List aA->Option aA
 |[.list ds]=>aa (.int ds.length)
 |[.tuple ds]=>aa (.int ds.length)
 |[.dict kds]=>if cz kds=af then aa (.int kds.length) else ab
 |[.str z]=>if z.length<=sizeLine then aa (.int z.length) else ab
 |_=>ab
theorem fQ(r:Aao K H [d] xs):∃ v,xs=[v]/\Abr K H d v:=by
 obtain⟨v,t,rfl,h1,h2⟩:=Aag.1 r;obtain rfl:=Aal.1 h2;exact⟨v,rfl,h1⟩
section
def OA (K:aM):List V->Hp->VK->Prop:=λxs H Q=>(∃ p ys,xs=[.ref p]/\(SqL K H p ys\/SqT K H p ys)/\Q (.int ys.length) H)\/(∃ z,xs=[.str z]/\z.length<=sizeLine/\Q (.int z.length) H)\/∃ a ep kvs,xs=[V.ref a]/\H a=aa (.dK ep kvs)/\Q (.int kvs.length) H
theorem YC:Adc X (.builtin "len") (OA X.K):=Aqo.or (Apf.or Rf)
theorem VE:CallD K 0 (OA K) bG:=λP H xs ds d Q hP r e k=>by
 unfold bG at e;split at e
 .cases e;rw[8];replace r:=r';obtain⟨q,ys,rfl,hq,rr⟩:=Abe.1 r;exact .inl ⟨q,ys,rfl,.inl (Aaq.sqL hq),k.zero Ext.refl (Aai.2 (by rw[rr.length]))⟩
 .cases e;rw[8];replace r:=r';obtain⟨q,ys,rfl,hq,rr⟩:=Aau.1 r;exact .inl ⟨q,ys,rfl,.inr (SqT.of (Aaq _ _ hq)),k.zero Ext.refl (Aai.2 (by rw[rr.length]))⟩
 .obtain⟨pk,rfl⟩:=cR e;rw[8];replace r:=r';obtain⟨q,ys,rfl,hq,rr⟩:=(nW pk).1 r;exact .inr (.inr ⟨q,ys.1,ys.2,rfl,Aaq _ _ hq,k.zero Ext.refl (Aai.2 (by rw[rr.length]))⟩)
 .obtain⟨hz,rfl⟩:=cR e;rw[8];replace r:=r';exact .inr (.inl ⟨_,by rw[(Aa6.1 r).1],hz,k.zero Ext.refl (Aai.2 rfl)⟩)
 .cases e
noncomputable def nF:aA->String
 |.none=>"NoneType"
 |.bool _=>"bool"
 |.int _=>"int"
 |.str _=>"str"
 |.list _=>"list"
 |.tuple _=>"tuple"
 |.dict _=>"dict"
def TV:List String:=["int","bool","str","list","tuple","dict"]
theorem Yj (d:aA):nF d∈kinds:=by cases d<;>simp[nF,kinds]
theorem Ri:Adc X (.builtin "isinstance") (λxs H Q=>∃ x T d,xs=[x,.ty T]/\Abr X.K H d x/\T∈TV/\Q (.bl (md (nF d) T)) H):=by
 rw[5];obtain⟨x,T,d,rfl,rd,hT,q⟩:=h;have ek:=Pp (Yj d) hT;have by_ty:TyOf X.K H x (.type (nF d))->aW (aY X.prog X.w) X.A (call (.builtin "isinstance") us) (EP X ad Z Q) X.xe s:=λty=>
  Th ad s Z H _ us Q I r ⟨x,T,_,md (nF d) T,rfl,ty,Akf.trans ek,q⟩
 cases d with
 |none=>obtain rfl:=Abp.1 rd;exact by_ty .non
 |bool b=>obtain rfl:=Aay.1 rd;exact by_ty (.bl _)
 |int b=>obtain rfl:=Aai.1 rd;exact by_ty (.int _)
 |str b=>obtain⟨rfl,_⟩:=Aa6.1 rd;exact by_ty (.str _)
 |list b=>
  obtain⟨a,ys,rfl,h,_⟩:=Abe.1 rd;obtain⟨u,w',rfl,ru,gm⟩:=vals2 r;cases gm;cases ru;obtain⟨its,_,⟨o,n,e1,hc,_,_⟩,_⟩:=I.list h;exact lW Do I.kIn ⟨o,e1,hc⟩ (Akf.trans ek) (λz=>nomatch z) λtk=>⟨.bl _,H,I.tok tk,rfl,q⟩
 |tuple b=>obtain⟨_,_,rfl,h,_⟩:=Aau.1 rd;exact by_ty (.tup h)
 |dict b=>
  obtain⟨_,rfl,⟨_,h,_⟩|⟨_,h,_⟩|⟨_,h,_⟩⟩:=Ac0.1 rd
  .exact by_ty (.dK h)
  .exact by_ty (.dT h)
  .obtain⟨u,w',rfl,ru,gm⟩:=vals2 r;cases gm;cases ru;obtain⟨⟨_,_,o,_,e1,hc,_⟩,_⟩:=I.hok _ _ h;exact lW Dp I.kIn ⟨o,e1,hc.1⟩ (Akf.trans ek) (λz=>nomatch z) λtk=>⟨.bl _,H,I.tok tk,rfl,q⟩
noncomputable def fD (T:String):aA->Option aA:=λd=>aa (.bool (md (nF d) T))
variable {a:aR}{f:EF}{fa:AF}{aq av:bL}
theorem BC(rj:Gl X "isinstance")(hm:X.mg "isinstance" = ab)(hg:Gl X x)(z9:X.mg x=ab)(hv:lV x=aa (.type T))(hT:T∈TV)(he:DE X e f)
  (hn:x ≠ "__name__":=by decide) (hd:(x==("__debug__" : aE))=ag:=by decide) (oh:cA (e::[.Name x p2]) X.env=(ag,bW e X.env)::cA [.Name x p2] X.env:=by rfl)
  (gn:cA (.Name x p2::[]) X.env=(ag,bW (.Name x p2) X.env)::cA [] X.env:=by rfl) (gs:(iQ pos (cA [.Name x p2] X.env)).any (·.1)=ag:=by rfl):DE X (.Call (.Name "isinstance" p) [e,.Name x p2] [] pos) (ff (fD T) f):=
 PE.imp (SX Ri rj hm boot_isinstance (eZ he (eZ (Hi hg z9 hv hn hd) iH gn) oh) nofun nofun oh gs) λZ H Q gh=>by
  rw[4];obtain⟨d1,e1,ef⟩:=aj ef;cases ef;exact⟨P,Y,d1,hP,rs,e1,dJ λv H1 x1 r1=>⟨v,T,d1,rfl,r1.ext Aaq,hT,k.zero x1 (Aay.2 rfl)⟩⟩
def hX:List aA->Option aA
 |[.list ds]=>aa (.tuple ds)
 |[.tuple ds]=>aa (.tuple ds)
 |_=>ab
theorem Tp:CallD K 0 (λxs H Q=>∃ p ys,xs=[.ref p]/\((SqL K H p ys/\∀ l,H l=ab->Q (.ref l) (upd H l (.tup ys)))\/(SqT K H p ys/\Q (.ref p) H))) hX:=λP H xs ds d Q hP r e k=>by
 unfold hX at e;split at e
 .cases e;rw[8];replace r:=r';obtain⟨q,ys,rfl,hq,rr⟩:=Abe.1 r;exact⟨q,ys,rfl,.inl ⟨Aaq.sqL hq,λl hl=>k.tup hP hl rr⟩⟩
 .cases e;rw[8];replace r:=r';obtain⟨q,ys,rfl,hq,rr⟩:=Aau.1 r;exact⟨q,ys,rfl,.inr ⟨SqT.of (Aaq _ _ hq),k.zero Ext.refl r⟩⟩
 .cases e
def mY:List aA->Option aA
 |[.list ds]=>aa (.list ds)
 |[.tuple ds]=>aa (.list ds)
 |[.str z]=>if z.length<=sizeLine then aa (.list (z.cps.toList.map λc=>.str ⟨#[c]⟩)) else ab
 |_=>ab
def PD (K:aM):List V->Hp->VK->Prop:=λxs H Q=>(∃ p ys,xs=[.ref p]/\(SqL K H p ys\/SqT K H p ys)/\∀ l,H l=ab->Q (.ref l) (upd H l (.lst ys)))\/∃ z:aE,xs=[.str z]/\z.length<=sizeLine/\∀ l,H l=ab->Q (.ref l) (upd H l (.lst (z.cps.toList.map rX)))
theorem CU (hc:X.calm=af):Adc X (.type "list") (PD X.K):=Aqz.or (Sr hc)
theorem XB:∀ {cs:List Nat},(∀ c∈cs,cI (.str ⟨#[c]⟩)=af)->Aao K H (cs.map λc=>.str ⟨#[c]⟩) (cs.map rX)
 |[],_=>Aal.2 rfl
 |c::r,h=>Aag.2 ⟨_,_,rfl,Aa6.2 ⟨rfl,h c bO⟩,XB λc' m=>h c' (bN _ m)⟩
theorem CN:CallD K 1 (PD K) mY:=λP H xs ds d Q hP r e k=>by
 unfold mY at e;split at e
 .cases e;rw[8];replace r:=r';obtain⟨q,ys,rfl,hq,rr⟩:=Abe.1 r;exact .inl ⟨q,ys,rfl,.inl (Aaq.sqL hq),λl hl=>k.lst hP hl rr⟩
 .cases e;rw[8];replace r:=r';obtain⟨q,ys,rfl,hq,rr⟩:=Aau.1 r;exact .inl ⟨q,ys,rfl,.inr (SqT.of (Aaq _ _ hq)),λl hl=>k.lst hP hl rr⟩
 .obtain⟨hz,rfl⟩:=cR e;rw[8];replace r:=r';refine .inr ⟨_,by rw[(Aa6.1 r).1],hz,λl hl=>k.lst hP hl (XB λc m=>?_)⟩
  obtain⟨j,hj⟩:=Ee.1 m;exact JH (Aa6.1 r).2 hj
 .cases e
def AH:List aA->Option aA
 |[.int i]=>aa (.int i)
 |[.bool b]=>aa (.int (if b then 1 else 0))
 |_=>ab
theorem Yw:CallD K 0 (λxs H Q=>(∃ i,xs=[.int i]/\Q (.int i) H)\/∃ k,xs=[.bl k]/\Q (.int (if k then 1 else 0)) H) AH:=λP H xs ds d Q hP r e k=>by
 unfold AH at e;split at e
 .cases e;rw[8];replace r:=r';exact .inl ⟨_,by rw[Aai.1 r],k.zero Ext.refl (Aai.2 rfl)⟩
 .cases e;rw[8];replace r:=r';exact .inr ⟨_,by rw[Aay.1 r],k.zero Ext.refl (Aai.2 rfl)⟩
 .cases e
def pO:List aA->Option (List Bool)
 |[]=>aa []
 |.bool b::r=>(pO r).bind λbs=>aa (b::bs)
 |_::_=>ab
def wU:List aA->Option aA
 |[.list ds]=>(pO ds).bind λbs=>aa (.bool (bs.all id))
 |_=>ab
theorem JG:∀ {ds:List aA} {xs:List V} {bs:List Bool},pO ds=aa bs->Aao K H ds xs->xs=bs.map V.bl
 |[],xs,bs,e,r=>by
  cases e;rw[Aal.1 r];rfl
 |.bool b::ds,xs,bs,e,r=>by
  obtain⟨bs',e1,e2⟩:=aj (show((pO ds).bind λbs=>aa (b::bs))=aa bs from e)
  cases e2;obtain⟨v,t,rfl,h1,h2⟩:=Aag.1 r;rw[Aay.1 h1,JG e1 h2];rfl
 |.none::_,_,_,e,_=>by cases e
 |.int _::_,_,_,e,_=>by cases e
 |.str _::_,_,_,e,_=>by cases e
 |.list _::_,_,_,e,_=>by cases e
 |.tuple _::_,_,_,e,_=>by cases e
 |.dict _::_,_,_,e,_=>by cases e
theorem Yf:CallD K 0 (λxs H Q=>∃ p ys,xs=[.ref p]/\SqL K H p ys/\(∀ y∈ys,∃ b,y=.bl b)/\Q (.bl (allB ys)) H) wU:=λP H xs ds d Q hP r e k=>by
 unfold wU at e;split at e
 .obtain⟨bs,e1,e2⟩:=aj e;cases e2;rw[8];replace r:=r';obtain⟨q,ys,rfl,hq,rr⟩:=Abe.1 r;obtain rfl:=JG e1 rr;refine⟨q,_,rfl,Aaq.sqL hq,λy m=>?_,k.zero Ext.refl (Aay.2 ?_)⟩
  .grind
  .unfold allB;rw[List.all_map]
   grind
 .cases e
def cutD (ds:List aA)(lo hi:Option Int):List aA:=(ds.drop (HT.sIx ds.length 0 lo)).take (HT.sIx ds.length ds.length hi-HT.sIx ds.length 0 lo)
abbrev OF:=List (Option aA)->Option (Option Int)
def G7 (K:aM)(f:OF):TO:=λZ H Q=>∃ P Y o,Hid P H/\Ama K (hid H P) Y Z/\f Y=aa o/\∀ H',Ext H H'->Q o H'
abbrev DO (X:Cx)(e:Option aR)(f:OF):Prop:=PO X e (G7 X.K f)
def oN:OF:=λ_=>aa ab
def oS (f:EF):OF:=λY=>(f Y).bind λd=>match d with
 |.int i=>aa (aa i)
 |_=>ab
theorem PO.imp {o:Option aR}{t t':TO}(h:PO X o t)(w:∀ Z H Q,t' Z H Q->t Z H Q):PO X o t':=λad s Z H Q I q=>h ad s Z H Q I (w _ _ _ q)
theorem xO:DO X ab oN:=PO.imp Nr λZ H Q gh=>by
 obtain⟨P,Y,o,hP,rs,ef,k⟩:=gh;cases ef;exact k H Ext.refl
theorem xJ (h:DE X e f):DO X (aa e) (oS f):=PO.imp (Oq h) λZ H Q gh=>by
 obtain⟨P,Y,o,hP,rs,ef,k⟩:=gh;obtain⟨d,e1,ef⟩:=aj ef;refine⟨P,Y,d,hP,rs,e1,dJ λv H1 x1 r1=>?_⟩
 cases d with
 |int i=>cases ef;exact⟨i,Aai.1 r1,k H1 x1⟩
 |_=>cases ef
def AI (f:EF)(lo hi:OF):EF:=λY=>(f Y).bind λd=>(lo Y).bind λl=>(hi Y).bind λh=>match d with
 |.list ds=>aa (.list (cutD ds l h))
 |_=>ab
theorem Ik {lo hi:Option aR}{fl fh:OF}{pp:bL}(he:DE X e f)(hl:DO X lo fl)(hh:DO X hi fh):DF 1 X (.Subscript e (.Slice lo hi ab pp) pos) (AI f fl fh):=PE.imp (IS Mr he hl hh) λZ H Q gh=>by
 rw[4];obtain⟨d1,e1,bv⟩:=aj ef;obtain⟨l,e2,bh⟩:=aj bv;obtain⟨h,e3,bx⟩:=aj bh;clear ef bv bh;cases d1 with
 |list ds=>
  cases bx;refine⟨P,Y,_,hP,rs,e1,dJ λv H1 x1 r1=>⟨P,Y,l,hP.ext x1,rs.ext (cK x1),e2,λH2 x2=>⟨P,Y,h,hP.ext (x1.trans x2),rs.ext (cK (x1.trans x2)),e3,λH3 x3=>?_⟩⟩⟩
  obtain⟨q,ys,rfl,hq,rr⟩:=Abe.1 (r1.ext (cK (x2.trans x3)));refine⟨q,ys,rfl,Aaq.sqL hq,λp hp=>(k.mono ((x1.trans x2).trans x3)).lst (hP.ext ((x1.trans x2).trans x3)) hp ?_⟩
  unfold pS cutD;rw[rr.length];exact(rr.drop _).take _
 |_=>cases bx
theorem xN {α:Type}{c:Prop}[Decidable c]{x:Option α}{y:α}(h:(if c then x else ab)=aa y):c/\x=aa y:=by
 grind
def Hf:aA->aA->aA->Option aA
 |.dict kds,k,x=>if cz kds=af then(bM k).bind λk=>aa ((bJ kds k).getD x) else ab
 |_,_,_=>ab
def fW (fd fk fx:EF):EF:=λY=>(fd Y).bind λd=>(fk Y).bind λk=>(fx Y).bind λx=>Hf d k x
theorem IC {o k z:aR}{fd fk fx:EF}(hu:X.A.units+40<cLine)(ho:DE X o fd)(hk:DE X k fk)(hz:DE X z fx)(m:M2 X o "get" aq k z av:=by exact⟨rfl,rfl,rfl,rfl⟩):DE X (.Call (.Attribute o "get" aq) [k,z] [] av) (fW fd fk fx):=
 PE.imp (Xi hu ho hk hz m) λZ H Q gh=>by
  obtain⟨P,Y,d,hP,rs,ef,kk⟩:=gh;obtain⟨d1,e1,bv⟩:=aj ef;obtain⟨d2,e2,bh⟩:=aj bv;obtain⟨d3,e3,bx⟩:=aj bh;clear ef bv bh;cases d1 with
  |dict kds=>
   obtain⟨pk,df⟩:=xN (show(if cz kds=af then(bM d2).bind λk=>aa ((bJ kds k).getD d3) else ab)=aa d from bx)
   obtain⟨key,h1,h2⟩:=aj df;cases h2;refine⟨P,Y,_,hP,rs,e1,dJ λv H1 x1 r1=>?_⟩
   obtain⟨q,kvs,rfl,hq,rr⟩:=(nW pk).1 r1;refine⟨q,rfl,.inl ⟨kvs.1,kvs.2,.inl (Aaq _ _ hq)⟩,P,Y,d2,hP.ext x1,rs.ext (cK x1),e2,dJ λu H2 x2 r2=>⟨P,Y,d3,hP.ext (x1.trans x2),rs.ext (cK (x1.trans x2)),e3,dJ λw H3 x3 r3=>?_⟩⟩
   refine⟨dR kvs.2 key,.inl ⟨kvs.1,kvs.2,key,.inl (x3 _ _ (x2 _ _ (Aaq _ _ hq))),kB h1 r2,rfl⟩,kk.zero ((x1.trans x2).trans x3) ?_⟩;rcases qV (rr.ext (cK (x2.trans x3))) with⟨n1,n2⟩|⟨d',v',s1,s2,rd⟩
   .rw[n1,n2];exact r3
   .rw[s1,s2];exact rd
  |_=>cases bx
theorem Res.dic{P:aD->Prop}{ep:Nat}{kvs:List (aH×V)}{q:aD}(hP:Hid P H)(h:Res K P 1 (.dict kds) H Q)(n:H q=ab)(r:Abu K (hid H P) kds kvs):Q (.ref q) (upd H q (.dK ep kvs)):=by
 refine h (.ref q) _ [q] (Ext.new n) (iJ.2 ⟨by simp,.nil⟩) (λa m=>?_) ⟨q,(ep,kvs),kvs.map λ_=>[],rfl,eI,?_,?_⟩
 .have:a=q:=by simpa using m
  rw[10];exact⟨n,_,eI⟩
 .have:∀ l:List (aH×V),(l.map λ_=>([]:List aD)).flatten=[]:=λl=>by
   induction l with
   |nil=>rfl
   |cons a l ih=>rw[cT,iT,ih];rfl
  rw[this]
 .have xe:Ext (hid H P) (hid (upd H q (.dK ep kvs)) (dh P [q])):=λb o e=>by
   obtain⟨nb,e⟩:=Ab3.1 e;have hb:=kC e n;exact fL (λz=>z.elim nb λm=>hb (by simpa using m)) (by rw[cO hb];exact e)
  generalize hid (upd H q (.dK ep kvs)) (dh P [q])=B at xe;generalize upd H q (.dK ep kvs)=H1;clear h;have go:∀ (ds:List (aA×aA)) (xs:List (aH×V)),Abu K (hid H P) ds xs->All3 (λ(kd:aA×aA) (kv:aH×V) f=>kd.1=kD kv.1/\Afz K B H1 0 kd.2 kv.2 f) ds xs (xs.map λ_=>[]):=by
   intro ds;induction ds with
   |nil=>intro xs r;rw[Abq.1 r];exact .nil
   |cons d ds ih=>
    intro xs r;obtain⟨k',y,t,rfl,ek,h1,h2⟩:=Aa7.1 (show Abu K (hid H P) ((d.1,d.2)::ds) xs from r)
    exact .cons ⟨ek,rfl,h1.ext xe⟩ (ih t h2)
  exact go kds kvs r
theorem Cq:DF 1 X (.Dict [] [] pos) (eC (.dict [])):=PE.imp RS λZ H Q gh=>by
 rw[4];cases ef;exact λq hq=>k.dic hP hq (Abq.2 rfl)
def FX:List aA->Option aA
 |[.dict kds]=>if cz kds=af then aa (.dict kds) else ab
 |_=>ab
theorem Rm:Adc X (.type "dict") (λxs H Q=>∃ a ep kvs,xs=[.ref a]/\H a=aa (.dK ep kvs)/\∀ p n,H p=ab->Q (.ref p) (upd H p (.dK n kvs))):=by
 rw[5];obtain⟨a,ep,kvs,rfl,ha,q⟩:=h;obtain⟨u,rfl,ru⟩:=vals1 r;cases ru;exact Xz I (.inl ha) λp n s' hp I'=>⟨.ref p,_,I',rfl,q p n hp⟩
theorem Sk:CallD K 1 (λxs H Q=>∃ a ep kvs,xs=[.ref a]/\H a=aa (.dK ep kvs)/\∀ p n,H p=ab->Q (.ref p) (upd H p (.dK n kvs))) FX:=λP H xs ds d Q hP r e k=>by
 unfold FX at e;split at e
 .obtain⟨pk,rfl⟩:=cR e;rw[8];replace r:=r';obtain⟨q,ys,rfl,hq,rr⟩:=(nW pk).1 r;exact⟨q,ys.1,ys.2,rfl,Aaq _ _ hq,λl n hl=>k.dic hP hl rr⟩
 .cases e
end
section
variable {Y:aP}
theorem CA {B:Hp}:∀ {ds:List aA} {xs:List V} {Fs:List (List aD)},All3 (Ad0 K B H 0) ds xs Fs->Aao K B ds xs/\Fs.flatten=[]:=by
 intro ds xs Fs h;induction h with
 |nil=>exact⟨Aal.2 rfl,rfl⟩
 |cons h t ih=>
  obtain⟨rfl,r⟩:=h;exact⟨Aag.2 ⟨_,_,rfl,r,ih.1⟩,by rw[iT,ih.2];rfl⟩
theorem Rn {B:Hp}:∀ {ds:List (aA×aA)} {xs:List (aH×V)} {Fs:List (List aD)},All3 (λ(kd:aA×aA) (kv:aH×V) f=>kd.1=kD kv.1/\Ad0 K B H 0 kd.2 kv.2 f) ds xs Fs->Abu K B ds xs/\Fs.flatten=[]:=by
 intro ds xs Fs h;induction h with
 |nil=>exact⟨Abq.2 rfl,rfl⟩
 |@cons p q F ds xs Fs h t ih=>
  obtain⟨k,d⟩:=p;obtain⟨k',v⟩:=q;obtain⟨ek,rfl,r⟩:=h;exact⟨Aa7.2 ⟨_,_,_,rfl,ek,r,ih.1⟩,by rw[iT,ih.2];rfl⟩
theorem yK {B:Hp}:∀ {ds:List aA} {xs:List V},Aao K B ds xs->All3 (Ad0 K B H1 0) ds xs (xs.map λ_=>[])/\(xs.map λ_=>([]:List aD)).flatten=[]
 |[],xs,r=>by rw[Aal.1 r];exact⟨.nil,rfl⟩
 |d::ds,xs,r=>by
  obtain⟨y,t,rfl,h1,h2⟩:=Aag.1 r;obtain⟨q1,q2⟩:=yK h2;exact⟨.cons ⟨rfl,h1⟩ q1,by rw[cT,iT,q2];rfl⟩
theorem WY {B:Hp}:∀ {ds:List (aA×aA)} {xs:List (aH×V)},Abu K B ds xs->All3 (λ(kd:aA×aA) (kv:aH×V) f=>kd.1=kD kv.1/\Ad0 K B H1 0 kd.2 kv.2 f) ds xs (xs.map λ_=>[])/\(xs.map λ_=>([]:List aD)).flatten=[]
 |[],xs,r=>by rw[Abq.1 r];exact⟨.nil,rfl⟩
 |(k,d)::ds,xs,r=>by
  obtain⟨k',y,t,rfl,ek,h1,h2⟩:=Aa7.1 r;obtain⟨q1,q2⟩:=WY h2;exact⟨.cons ⟨ek,rfl,h1⟩ q1,by rw[cT,iT,q2];rfl⟩
theorem Sta.write {p:aD}{d':aA}(S:Sta K H0 P0 B0 Y Z H fp)(hi:i<Y.length)(hv:Z[i]?=aa (aa (.ref p)))(hp:p∈fp i)(ho:(∃ xs,o=.lst xs)\/∃ q:DQ,o=dO q)
  (new:Afz K (L2.hid H (Hd P0 fp)) (upd H p o) 1 d' (.ref p) (fp i)):Sta K H0 P0 B0 (Y.set i (aa (1,d'))) Z (upd H p o) fp:=by
 have hb:L2.hid (upd H p o) (Hd P0 fp)=L2.hid H (Hd P0 fp):=by
  funext b;unfold L2.hid;by_cases q:Hd P0 fp b
  .rw[if_pos q,if_pos q]
  .rw[if_neg q,if_neg q];exact cO λz=>q (.inr ⟨i,by rw[z];exact hp⟩)
 refine⟨by simp[S.len],S.nd,S.dj,λj a m=>⟨(S.own j a m).1,?_⟩,λb u e=>?_,S.hd,by rw[hb];exact S.base,λj n d e=>?_⟩
 .by_cases q:a=p
  .subst q;rcases ho with⟨xs,rfl⟩|⟨xs,rfl⟩
   .exact .inl ⟨xs,eI⟩
   .exact .inr ⟨xs,eI⟩
  .rw[cO q];exact(S.own j a m).2
 .rw[cO (kC e (S.own i p hp).1)];exact S.ext b u e
 .by_cases q:j=i
  .subst q;rw[pZ hi] at e;cases e;exact⟨_,hv,by rw[hb];exact new⟩
  .rw[mW (λz=>q z.symm)] at e
   obtain⟨v,h1,h2⟩:=S.slot j n d e;refine⟨v,h1,?_⟩;rw[hb];exact h2.keep Ext.refl λa m=>cO λz=>q (S.dj j i a m (by rw[z];exact hp))
theorem Sta.lst1(S:Sta K H0 P0 B0 Y Z H fp)(e:Y[i]?=aa (aa (1,.list ds))):∃ p xs,Z[i]?=aa (aa (.ref p))/\H p=aa (.lst xs)/\Aao K (L2.hid H (Hd P0 fp)) ds xs /\
  ∀ jt i3,Aao K (L2.hid H (Hd P0 fp)) jt i3->Sta K H0 P0 B0 (Y.set i (aa (1,.list jt))) Z (upd H p (.lst i3)) fp:=by
 obtain⟨v,h1,h2⟩:=S.slot i 1 _ e;obtain⟨p,xs,Fs,rfl,hp,hF,h3⟩:=h2;obtain⟨r,hn⟩:=CA h3;rw[hn] at hF;refine⟨p,xs,h1,hp,r,λjt i3 r'=>S.write (cW.1 e).1 h1 (by rw[hF];exact bO) (.inl ⟨_,rfl⟩) ?_⟩
 obtain⟨q1,q2⟩:=yK r';exact⟨p,i3,_,rfl,eI,by rw[hF,q2],q1⟩
theorem Sta.dic1 {ds:List (aA×aA)}(S:Sta K H0 P0 B0 Y Z H fp)(e:Y[i]?=aa (aa (1,.dict ds))):∃ p ep xs,Z[i]?=aa (aa (.ref p))/\H p=aa (.dK ep xs)/\Abu K (L2.hid H (Hd P0 fp)) ds xs /\
  ∀ n jt i3,Abu K (L2.hid H (Hd P0 fp)) jt i3->Sta K H0 P0 B0 (Y.set i (aa (1,.dict jt))) Z (upd H p (.dK n i3)) fp:=by
 obtain⟨v,h1,h2⟩:=S.slot i 1 _ e;obtain⟨p,xs,Fs,rfl,hp,hF,h3⟩:=h2;obtain⟨r,hn⟩:=Rn h3;rw[hn] at hF;refine⟨p,xs.1,xs.2,h1,hp,r,λn jt i3 r'=>S.write (cW.1 e).1 h1 (by rw[hF];exact bO) (.inr ⟨.inl (n,i3),rfl⟩) ?_⟩
 obtain⟨q1,q2⟩:=WY r';exact⟨p,(n,i3),_,rfl,eI,by rw[hF,q2],q1⟩
end
def getL (i:Nat)(Y:aP):Option (List aA):=match Y[i]? with
 |some (aa (1,.list ds))=>aa ds
 |_=>ab
def lB (i:Nat)(Y:aP):Option (List (aA×aA)):=match Y[i]? with
 |some (aa (1,.dict ds))=>aa ds
 |_=>ab
theorem nZ{Y:aP}(h:getL i Y=aa ds):Y[i]?=aa (aa (1,.list ds)):=by
 unfold getL at h;split at h
 .rename_i e;cases h;exact e
 .cases h
theorem mL{Y:aP}{ds:List (aA×aA)}(h:lB i Y=aa ds):Y[i]?=aa (aa (1,.dict ds)):=by
 unfold lB at h;split at h
 .rename_i e;cases h;exact e
 .cases h
section
variable {k o:aR}{f g:EF}{aq av:bL}
def gS (i:Nat)(m:Md)(f:EF):SF:=λY=>(eV 0 m f Y).bind λd=>(getL i Y).bind λds=>if ds.length<sizeLine then aa (.nx (Y.set i (aa (1,.list (ds++[d]))))) else ab
theorem Zp (i:Nat)(m:Md)(he:DE X e f)(hN:Nm X i x:=by exact gL)(q5:Bm X (.Name x px) e [] "append" aq av:=by exact⟨rfl,rfl,rfl,rfl,rfl⟩)
  (fy:iO (.Call (.Attribute (.Name x px) "append" aq) [e] [] av) ab pos.line X.env=pure ag:=by rfl):DS X H0 P0 n0 (.Expr (.Call (.Attribute (.Name x px) "append" aq) [e] [] av) pos) (gS i m f):=
 PS.imp (nP (lG tV MR MP yF (hN.pe) (eZ (ev m he) iH q5.s) q5) fy) λD Z H gh=>by
  rw[6];obtain⟨d,e1,bv⟩:=aj ef;obtain⟨ds,e2,bh⟩:=aj bv;obtain⟨hl,rfl⟩:=cR bh;obtain⟨p,xs,h1,h2,_,_⟩:=S.lst1 (nZ e2);refine⟨.ref p,h1,.inl ⟨rfl,xs,SqL.of h2⟩,B0,Y,fp,d,S,e1,λv H2 gh=>?_⟩
  obtain⟨cc,S2,r2⟩:=gh;obtain⟨p2,p8,q1,q2,q3,q4⟩:=S2.lst1 (nZ e2);have:p2=p:=by rw[h1] at q1;cases q1;rfl
  rw[10];exact⟨p2,p8,v,rfl,rfl,q2,by rw[q3.length];exact hl,k _ _ cc (q4 _ _ (q3.snoc r2.2))⟩
def rV (i:Nat)(m:Md)(f:EF)(mk:Md)(g:EF):SF:=λY=>(eV 0 m f Y).bind λd=>(getL i Y).bind λds=>(eV 0 mk g Y).bind λk=>match k with
 |.int j=>(fg ds.length j).bind λj=>aa (.nx (Y.set i (aa (1,.list (ds.set j d)))))
 |_=>ab
theorem mG{m:Md}{Y:aP}(S:Sta K H0 P0 B0 Y Z H fp)(e:eV 0 m g Y=aa d)(hd:dS d=af)(k:∀ v H',Ext H H'->Abr K (hid H' (Hd P0 fp)) d v->Q v H'):tF K 0 g Z H Q:=by
 cases m with
 |s=>exact⟨Hd P0 fp,vS Y,d,S.hid,S.viewS,e,dJ k⟩
 |a=>
  obtain⟨d',ed,ef⟩:=aj e;obtain⟨fl,rfl⟩:=cR ef;refine⟨P0,vA Y,d',S.hd.ext S.ext,S.viewA,ed,dJ λv H' x r=>k v H' x (r.flat (λa xs e=>?_) _ hd)⟩
  obtain⟨na,e⟩:=Ab3.1 e;refine fL (λq=>?_) e
  rcases q with q|⟨j,q⟩
  .exact na q
  .rcases((S.grow x).own j a q).2 with⟨ys,e2⟩|⟨ys,e2⟩<;>rw[e] at e2<;>first|cases e2|(cases ys<;>simp[dO] at e2)
theorem Ci (i:Nat)(m mk:Md)(he:DE X e f)(hk:DE X k g)(hN:Nm X i x:=by exact gL)
  (ha:∀ v,iI (.Subscript (.Name x px) k aq) X.env v=(do
   let ov <-kX [v] (bW (.Name x px) X.env)
   let iv <-kX [v,ov] (bW k X.env)
   standAt aq
   kX [v,ov,iv] (setItem ov iv v)
   release [v,ov,iv] []):=by intro _;rfl)
  (hs:DY [.Subscript (.Name x px) k aq] e pos.line X.env=pure ag:=by rfl) (hw:DZ [.Subscript (.Name x px) k aq] e X.env=pure ab:=by rfl)
  (h1:(eQ [.Subscript (.Name x px) k aq] X.env).map (·.2)=[iI (.Subscript (.Name x px) k aq) X.env]:=by rfl):DS X H0 P0 n0 (.Assign [.Subscript (.Name x px) k aq] e pos) (rV i m f mk g):=
 PS.imp (AS (ev m he) (GI (hN.pe) hk set_list ha) hs hw h1) λD Z H gh=>by
  obtain⟨B0,Y,fp,o,S,ef,kk⟩:=gh;obtain⟨d,e1,bv⟩:=aj ef;obtain⟨ds,e2,bh⟩:=aj bv;obtain⟨kd,e3,bx⟩:=aj bh;clear ef bv bh;cases kd with
  |int j=>
   obtain⟨jn,e5,df⟩:=aj (show((fg ds.length j).bind λj=>aa (Out.nx (Y.set i (aa (1,.list (ds.set j d))))))=aa o from bx)
   cases df;refine⟨B0,Y,fp,d,S,e1,λv H2 gh=>?_⟩
   obtain⟨cc,S2,r2⟩:=gh;obtain⟨p,xs,h1,h2,_,_⟩:=S2.lst1 (nZ e2);refine⟨.ref p,h1,mG S2 e3 (by simp[dS]) λu H3 x3 r3=>?_⟩
   have S3:=S2.grow x3;obtain⟨p3,gi,q1,q2,q3,q4⟩:=S3.lst1 (nZ e2);have:p3=p:=by rw[h1] at q1;cases q1;rfl
   rw[10];exact⟨p3,gi,j,jn,rfl,Aai.1 r3,q2,by rw[q3.length];exact e5,kk _ _ cc (q4 _ _ (q3.set (r2.2.ext (cK x3)) jn))⟩
  |_=>cases bx
def yU (i:Nat)(m:Md)(f:EF)(mk:Md)(g:EF):SF:=λY=>(eV 0 m f Y).bind λd=>(lB i Y).bind λkds=>(eV 0 mk g Y).bind λk=>(bM k).bind λk=>if kds.length<sizeLine then aa (.nx (Y.set i (aa (1,.dict (putD kds k d))))) else ab
theorem QK (i:Nat)(m mk:Md)(hu:X.A.units+40<cLine)(he:DE X e f)(hk:DE X k g)(hN:Nm X i x:=by exact gL)(hs:iO e (aa (.Subscript (.Name x px) k aq)) pos.line X.env=pure ag:=by rfl):DS X H0 P0 n0 (.Assign [.Subscript (.Name x px) k aq] e pos) (yU i m f mk g):=
 PS.imp (Oa hu (hN.pe) hk (ev m he) hs) λD Z H gh=>by
  obtain⟨B0,Y,fp,o,S,ef,kk⟩:=gh;obtain⟨d,e1,bv⟩:=aj ef;obtain⟨kds,e2,bh⟩:=aj bv;obtain⟨kd,e3,bx⟩:=aj bh;obtain⟨key,e4,df⟩:=aj bx;obtain⟨hl,rfl⟩:=cR df;clear ef bv bh bx;refine⟨B0,Y,fp,d,S,e1,λv H2 gh=>?_⟩
  obtain⟨cc,S2,r2⟩:=gh;obtain⟨p,ep,xs,h1,h2,_,_⟩:=S2.dic1 (mL e2);have hf:dS kd=af:=by rw[sZ e4];cases key<;>simp[kD,dS]
  refine⟨.ref p,h1,mG S2 e3 hf λu H3 x3 r3=>?_⟩
  have S3:=S2.grow x3;obtain⟨p3,i4,gi,q1,q2,q3,q4⟩:=S3.dic1 (mL e2);have:p3=p:=by rw[h1] at q1;cases q1;rfl
  rw[10];refine⟨p3,_,rfl,.inl ⟨i4,gi,key,q2,kB e4 r3,by rw[q3.length];exact hl,rfl⟩,λn=>kk _ _ cc (q4 n _ _ (xQ q3 (r2.2.ext (cK x3))))⟩
end
section
variable {a:aR}{fa fb fc:EF}
def pR:aA->aA->Option aA
 |.list xs,.list ys=>if xs.length+ys.length<=sizeLine then aa (.list (xs++ys)) else ab
 |_,_=>ab
theorem Ma:OpR X (jQ .Add) (λx y H Q=>∃ l b xs zs,x=.ref l/\y=.ref b/\SqL X.K H l xs/\SqL X.K H b zs/\xs.length+zs.length<=sizeLine/\∀ p,H p=ab->Q (.ref p) (upd H p (.lst (xs++zs)))):=by
 rw[3];obtain⟨l,b,xs,zs,rfl,rfl,hH,hB,hz,q⟩:=h;cases rx;cases ry;obtain⟨its,r,p1,z1⟩:=I.list hH;obtain⟨j4,r2,p2,z2⟩:=I.list hB;have l1:=r.length;have l2:=r2.length;obtain⟨⟨cls,dd,data,sl⟩,ho,hc,n,hd⟩:=p1.isList;obtain⟨⟨qw,m8,data2,p6⟩,kq,ix,n2,js⟩:=p2.isList;simp only at hc hd ix js;subst hc hd ix js;refine ML ⟨_,ho,rfl⟩ ⟨_,kq,rfl⟩ noFill_list_add seq_list_add PySem.F.slot_list_add PySem.F.entry_list_add (PySem.F.args_list_add_2 _ _) (list_addW l b its.toArray j4.toArray n n2 dd m8 sl p6 (by simp only[dX];lia)) ⟨ho,kq,?_⟩
 have ea:its.toArray++j4.toArray=(its++j4).toArray:=by simp
 rw[ea];exact⟨.ref _,_,I.lnew (r.append r2) (by rw[jS];lia),rfl,q _ I.fresh⟩
theorem Bb (ha:DE X a fa)(hb:DE X b fb):DF 1 X (.BinOp a .Add b pos) (ah pR fa fb):=pF Ma (λP H x y a b d Q hP ra rb e k=>by
 unfold pR at e;split at e
 .obtain⟨hz,rfl⟩:=cR e;obtain⟨p,xs,rfl,hp,r1⟩:=Abe.1 ra;obtain⟨q,ys,rfl,hq,r2⟩:=Abe.1 rb;exact⟨p,q,xs,ys,rfl,rfl,Aaq.sqL hp,Aaq.sqL hq,by rw[r1.length,r2.length];exact hz,λl hl=>k.lst hP hl (r1.append r2)⟩
 .cases e) ha hb
end
variable {a:aR}{f fa fb:EF}
def pL (x:aE)(lo hi:Option Int):aE:=
 if (EU lo hi 1 x.length).length==x.length then x else⟨((EU lo hi 1 x.length).filterMap (x.cps[·]?)).toArray⟩
theorem SZ (x:aE)(lo hi:Option Int):(pL x lo hi).length<=x.length:=by
 unfold pL;split
 .exact bI _
 .refine cL ?_ (sliceIndices_le lo hi x.length);exact wH _ _
theorem TC(lo hi:Option Int)(h:cI (.str x)=af):cI (.str (pL x lo hi))=af:=by
 unfold pL;split
 .exact h
 .simp only[cI,EE] at h ⊢
  grind
def uJ:aF->Option (Int×Tok)
 |.int i t=>aa (i,t)
 |_=>ab
theorem WC {v:aF}{o:Option Int}(h:oY v o):partValue (uJ v)=v/\(uJ v).map (·.1)=o:=by
 cases h with
 |none=>exact⟨rfl,rfl⟩
 |int i t=>exact⟨rfl,rfl⟩
def Fk:V->Option Int->Option Int->Hp->VK->Prop:=λx lo hi H Q=>∃ z,x=.str z/\z.length<=sizeLine/\Q (.str (pL z lo hi)) H
theorem Bgq:SlR X Fk:=by
 intro ad s Z H x v vl vu lo hi sl Q I rx hs pl pu h;obtain⟨z,rfl,hz,q⟩:=h;obtain⟨t,rfl⟩:=rx;obtain⟨e1,m1⟩:=WC pl;obtain⟨e2,m2⟩:=WC pu;refine⟨"str",_,PySem.F.slot_str_getitem.lookup,typeIs_str s z t,?_⟩;have oe:s.heap.IsSlice sl (uJ vl) (uJ vu) ab:=by
  obtain⟨o,h1,h2,h3⟩:=hs;exact⟨o,h1,h2,by rw[e1,e2];exact h3⟩
 refine wpAny_getItem_str_slice oe rfl ?_;have es:slicePicked z (uJ vl) (uJ vu) ab=EU lo hi 1 z.length:=by
  unfold slicePicked;rw[m1,m2]
  rfl
 unfold sliceMade;rw[es];unfold pL at q;by_cases hc:(EU lo hi 1 z.length).length==z.length
 .rw[if_pos hc] at q;rw[if_pos (by rw[hc];rfl)]
  exact⟨.str z,H,I,⟨t,rfl⟩,q⟩
 .rw[if_neg hc] at q;rw[if_neg (by simpa using hc)]
  refine⟨?_,⟨.str ⟨((EU lo hi 1 z.length).filterMap (z.cps[·]?)).toArray⟩,H,I.tok _,⟨_,rfl⟩,q⟩⟩;have:=SZ z lo hi;unfold pL at this
  grind
def nj (f:EF)(lo hi:OF):EF:=λY=>(f Y).bind λd=>(lo Y).bind λl=>(hi Y).bind λh=>match d with
 |.str z=>if z.length<=sizeLine then aa (.str (pL z l h)) else ab
 |.tuple ds=>if HT.sIx ds.length 0 l=0/\HT.sIx ds.length ds.length h=ds.length then ab else aa (.tuple (cutD ds l h))
 |_=>ab
theorem OU {lo hi:Option aR}{fl fh:OF}{pp:bL}(he:DE X e f)(hl:DO X lo fl)(hh:DO X hi fh):DE X (.Subscript e (.Slice lo hi ab pp) pos) (nj f fl fh):=PE.imp (IS (Bgq.or Bq) he hl hh) λZ H Q gh=>by
 rw[4];obtain⟨d1,e1,bv⟩:=aj ef;obtain⟨l,e2,bh⟩:=aj bv;obtain⟨h,e3,bx⟩:=aj bh;clear ef bv bh;cases d1 with
 |str z=>
  obtain⟨hc,rfl⟩:=cR bx;refine⟨P,Y,_,hP,rs,e1,dJ λv H1 x1 r1=>⟨P,Y,l,hP.ext x1,rs.ext (cK x1),e2,λH2 x2=>⟨P,Y,h,hP.ext (x1.trans x2),rs.ext (cK (x1.trans x2)),e3,λH3 x3=>?_⟩⟩⟩
  refine .inl ⟨z,(Aa6.1 r1).1,hc,(k.mono ((x1.trans x2).trans x3)).zero Ext.refl (Aa6.2 ⟨rfl,TC _ _ (Aa6.1 r1).2⟩)⟩
 |tuple ds=>
  by_cases hw:HT.sIx ds.length 0 l=0/\HT.sIx ds.length ds.length h=ds.length
  .grind
  have df:(if HT.sIx ds.length 0 l=0/\HT.sIx ds.length ds.length h=ds.length then ab else aa (dG (cutD ds l h)))=aa d:=bx
  rw[if_neg hw] at df;cases df;refine⟨P,Y,_,hP,rs,e1,dJ λv H1 x1 r1=>⟨P,Y,l,hP.ext x1,rs.ext (cK x1),e2,λH2 x2=>⟨P,Y,h,hP.ext (x1.trans x2),rs.ext (cK (x1.trans x2)),e3,λH3 x3=>?_⟩⟩⟩
  obtain⟨q,ys,rfl,hq,rr⟩:=Aau.1 (r1.ext (cK (x2.trans x3)));refine .inr ⟨q,ys,rfl,SqT.of (Aaq _ _ hq),by rw[rr.length];exact hw,λp hp=>(k.mono ((x1.trans x2).trans x3)).tup (hP.ext ((x1.trans x2).trans x3)) hp ?_⟩
  unfold pS cutD;rw[rr.length];exact(rr.drop _).take _
 |_=>cases bx
def OV (K:aM):R2:=λx y H Q=>∃ a b ys,x=.ref a/\y=.ref b/\SqT K H a []/\SqT K H b ys/\Q (.ref b) H
theorem Mz:OpR X (jQ .Add) (OV X.K):=by
 rw[3];obtain⟨a,b,ys,rfl,rfl,ha,hb,q⟩:=h;cases rx;cases ry;obtain⟨its,r1,p1,_⟩:=I.tuple ha;obtain⟨j4,r2,p2,_⟩:=I.tuple hb;cases r1;obtain⟨⟨cls,dd,data,sl⟩,ho,hc,n,hd⟩:=p1;obtain⟨⟨qw,m8,data2,p6⟩,kq,ix,n2,js⟩:=p2;simp only at hc hd ix js;subst hc hd ix js;exact ML ⟨_,ho,rfl⟩ ⟨_,kq,rfl⟩ Dl seq_tuple_add Ds Du (Dv _ _)
  (tuple_addW0 a b _ _ n n2 dd m8 sl p6 rfl) ⟨ho,kq,⟨.ref b,H,I,rfl,q⟩⟩
def DH:aA->aA->Option aA
 |.tuple xs,.tuple ys=>if xs.length+ys.length<=sizeLine then aa (.tuple (xs++ys)) else ab
 |_,_=>ab
theorem Xf:OpD K 0 (λx y H Q=>FV K x y H Q\/OV K x y H Q) DH:=λP H x y a b d Q hP ra rb e k=>by
 unfold DH at e;split at e
 .rename_i zs ys;obtain⟨hc,rfl⟩:=cR e;obtain⟨p,us,rfl,hp,r1⟩:=Aau.1 ra;obtain⟨q,ws,rfl,hq,r2⟩:=Aau.1 rb;have l1:=r1.length;have l2:=r2.length;cases zs with
  |nil=>
   have eu:us=[]:=by simpa using l1
   subst eu;exact .inr ⟨p,q,ws,rfl,rfl,SqT.of (Aaq _ _ hp),SqT.of (Aaq _ _ hq),k.zero Ext.refl rb⟩
  |cons z zs=>
   refine .inl ⟨p,q,us,ws,rfl,rfl,SqT.of (Aaq _ _ hp),SqT.of (Aaq _ _ hq),λz=>by rw[z] at l1;simp at l1,by rw[l1,l2];exact hc,λz=>?_,λz r hr=>?_⟩
   .subst z;have:ys=[]:=by simpa using l2.symm
    rw[10];refine k.zero Ext.refl ?_
    grind
   .exact k.tup hP hr (r1.append r2)
 .cases e
theorem Ph (ha:DE X a fa)(hb:DE X b fb):DE X (.BinOp a .Add b pos) (ah DH fa fb):=pF (Ax5.or Mz) Xf ha hb
def rA:List aA->Option aA
 |[.int i,.int j]=>aa (.int (if j > i then j else i))
 |_=>ab
def FP:List aA->Option aA
 |[.int i,.int j]=>aa (.int (if j<i then j else i))
 |_=>ab
theorem JZ:CallD K 0 (λxs H Q=>∃ i j,xs=[.int i,.int j]/\Q (.int (if j > i then j else i)) H) rA:=λP H xs ds d Q hP r e k=>by
 unfold rA at e;split at e
 .cases e;obtain⟨v,t,rfl,h1,h2⟩:=Aag.1 r;obtain⟨v',rfl,h3⟩:=fQ h2;rw[Aai.1 h1,Aai.1 h3];exact⟨_,_,rfl,k.zero Ext.refl (Aai.2 rfl)⟩
 .cases e
theorem Yh:CallD K 0 (λxs H Q=>∃ i j,xs=[.int i,.int j]/\Q (.int (if j<i then j else i)) H) FP:=λP H xs ds d Q hP r e k=>by
 unfold FP at e;split at e
 .cases e;obtain⟨v,t,rfl,h1,h2⟩:=Aag.1 r;obtain⟨v',rfl,h3⟩:=fQ h2;rw[Aai.1 h1,Aai.1 h3];exact⟨_,_,rfl,k.zero Ext.refl (Aai.2 rfl)⟩
 .cases e
end L2
namespace L2
open PySem PySem.Spec PyProof.Rows
variable {sl:Array (Option aF)}{us ai:Array aF}{Q E:aF->aI->Prop}{ds:List aA}{l a it D z i1 i2:aD}{h h':aU}{d:aA}{es:List aR}{ep j n nl N i m n0 mask bp:Nat}{s:aI}{e c tg o e2:aR}{R:Result->aI->Prop}{w:bE}{kvs:List (aH×V)}{K:aM}{b:Bool}{u:aF}{x y:aE}{xs ys:List V}{fp:Nat->List aD}{v:V}{H H' H0 B0:Hp}{p1 p2 pos px je aq av py cv p3 ap cp v8 rq:bL}{kds:List (aA×aA)}{f g fk fv f2:EF}{wr F o1 o2:List aD}{ad:List (aD×bK)}{T:String}{p:Array Nat}{vs:List aF}{ks:List aH}{kss:List (List aA)}{X:Cx}{P0:aD->Prop}{ow:Array (Option Nat)}{Y:aP}{A:cE}{prog:bP}{body:List eO}{S1 S2:Nat->aU->Prop}{fc:BF}
section
variable {P:bP}
theorem Uq {t sl:aD}{vl vu:aF}{lo hi:Option Int}(ht:IsTup s.heap t us)(hs:s.heap.IsSliceOf sl vl vu .none)(pl:oY vl lo)(pu:oY vu hi)
  (hw:HT.sIx us.size 0 lo=0/\HT.sIx us.size us.size hi=us.size) (h:Q (.ref t) s):aW (aY P w) A (pV (.ref t) (.ref sl)) Q E s:=by
 obtain⟨os,e1,e2,e3⟩:=id hs;have ty:s.TypeIs (.ref sl) "slice":=⟨os,e1,e2⟩;unfold pV
 try with_reducible refine iA ?_
 first|refine aK (aZ ?_)|skip
 refine aK (wpAny_sequenceKey ht.typeIs nofun (aK (tO ht.typeIs MJ (lT MJ ht.typeIs entry_tuple_getitem ?_ (args_tuple_getitem _ _)))))
 show aW _ _ (Ew (.ref t)>>=_) _ _ s;refine aK (tupleItemsOf_ ht (aK (tN ty ?_)));rw[if_pos nofun]
 refine aK (HT.Afu hs pl pu ?_);have At:(((HT.sIx us.size 0 lo:Nat):Int)==0&&(1:Int)==1&&(HT.sIx us.size us.size hi-HT.sIx us.size 0 lo)==us.size)=af:=by
  rw[hw.1,hw.2];simp
 show aW _ _ (if (((HT.sIx us.size 0 lo:Nat):Int)==0&&(1:Int)==1&&(HT.sIx us.size us.size hi-HT.sIx us.size 0 lo)==us.size)=af then _ else _) _ _ s
 rw[if_pos At];unfold Builtin.Tuple.tupleIsExact;refine aK (aK (tN ht.typeIs (aZ ?_)));rw[if_pos nofun]
 exact aK (vM (aZ ⟨_,rfl,aZ h⟩))
end
def Gk (K:aM):V->Option Int->Option Int->Hp->VK->Prop:=λx lo hi H Q=>∃ a xs,x=.ref a/\SqT K H a xs/\(HT.sIx xs.length 0 lo=0/\HT.sIx xs.length xs.length hi=xs.length)/\Q (.ref a) H
theorem A5s:SlR X (Gk X.K):=by
 intro ad s Z H x v vl vu lo hi sl Q I rx hs pl pu h;obtain⟨a,xs,rfl,hx,hw,q⟩:=h;cases rx;obtain⟨its,r,ht,hz⟩:=I.tuple hx;have bj:its.toArray.size=xs.length:=by rw[dX];exact r.length.symm
 exact⟨"tuple",_,MJ.lookup,ht.typeIs,Uq ht hs pl pu (by rw[bj];exact hw) ⟨.ref a,H,I,rfl,q⟩⟩
def wO (f:EF)(lo hi:OF):EF:=λY=>(f Y).bind λd=>(lo Y).bind λl=>(hi Y).bind λh=>match d with
 |.tuple ds=>aa (.tuple (cutD ds l h))
 |_=>ab
theorem Rr{l h:Option Int}(hw:HT.sIx ds.length 0 l=0/\HT.sIx ds.length ds.length h=ds.length):cutD ds l h=ds:=by
 unfold cutD;rw[hw.1,hw.2];simp
theorem Bj {lo hi:Option aR}{fl fh:OF}{pp:bL}(he:DE X e f)(hl:DO X lo fl)(hh:DO X hi fh):DE X (.Subscript e (.Slice lo hi ab pp) pos) (wO f fl fh):=PE.imp (IS (A5s.or Bq) he hl hh) λZ H Q gh=>by
 rw[4];obtain⟨d1,e1,bv⟩:=aj ef;obtain⟨l,e2,bh⟩:=aj bv;obtain⟨h,e3,bx⟩:=aj bh;clear ef bv bh;cases d1 with
 |tuple ds=>
  cases bx;refine⟨P,Y,_,hP,rs,e1,dJ λv H1 x1 r1=>⟨P,Y,l,hP.ext x1,rs.ext (cK x1),e2,λH2 x2=>⟨P,Y,h,hP.ext (x1.trans x2),rs.ext (cK (x1.trans x2)),e3,λH3 x3=>?_⟩⟩⟩
  have r3:=r1.ext (cK (x2.trans x3));obtain⟨q,ys,rfl,hq,rr⟩:=Aau.1 r3;by_cases hw:HT.sIx ds.length 0 l=0/\HT.sIx ds.length ds.length h=ds.length
  .rw[Rr hw] at k;exact .inl ⟨q,ys,rfl,SqT.of (Aaq _ _ hq),by rw[rr.length];exact hw,(k.mono ((x1.trans x2).trans x3)).zero Ext.refl r3⟩
  .refine .inr ⟨q,ys,rfl,SqT.of (Aaq _ _ hq),by rw[rr.length];exact hw,λp hp=>(k.mono ((x1.trans x2).trans x3)).tup (hP.ext ((x1.trans x2).trans x3)) hp ?_⟩
   unfold pS cutD;rw[rr.length];exact(rr.drop _).take _
 |_=>cases bx
def Awr (h:aU)(d:aD)(es:Array qB)(ep:Nat):Prop:=∃ o,h.get? d=aa o/\o.ExactDict/\o.data=.dict es ep
theorem Awr.keep{d:aD}{es:Array qB}(x:Awr h d es ep)(k:∀ o,h.get? d=aa o->h'.get? d=aa o):Awr h' d es ep:=
 let ⟨o,e,r⟩:=x;⟨o,k o e,r⟩
theorem Awr.ty{d:aD}{es:Array qB}(x:Awr s.heap d es ep):s.TypeIs (.ref d) "dict":=let ⟨o,e,c,_⟩:=x;⟨o,e,c.1⟩
section
variable {d:aD}{es:Array qB}
theorem Yb(nm:(d==jH)=ag)(R:Awr s.heap d es ep)
  (q:Q (.ref s.heap.objs.size) { s with heap:=s.heap.push { cls:=.type "dict_keyiterator",data:=.fields #[.ref d,.int 0 0,.int es.size 0,.int ep 0] } }):aW (aY prog w) A (tQ (.ref d)) Q E s:=by
 have ty:=R.ty;obtain⟨o,eo,_,ed⟩:=R;refine wpAny_pyIter_slot ty F.slot_dict_iter (lT F.slot_dict_iter ty F.entry_dict_iter
  ?_ (F.args_dict_iter_1 _))
 unfold Builtin.«dict.__iter__»;refine aK ?_;unfold Builtin.Dict.dictSlotNone;refine aK (wpAny_notOrdered_dict ty ?_);refine aZ ?_;show aW _ _ (Builtin.Dict.showsAll d>>=_) _ _ s;unfold Builtin.Dict.showsAll;rw[if_neg (show ¬ (d==jH)=af by rw[nm];exact mB)]
 refine aK (aZ ?_);refine aK (Dj eo ed ?_);refine aK (wpAny_dictEpoch eo ed ?_);refine aK (pT (aZ ⟨_,rfl,"dict_keyiterator",_,
  ⟨_,dM _ rfl,rfl⟩,ET.lookup,?_⟩))
 simpa [jP] using q
theorem Wu {e:qB}{Q:Option aF->aI->Prop}(K:s.heap.IsKeyIter it d i es.size ep)(R:Awr s.heap d es ep)(x:es[i]?=aa e)
  (q:∀ h',h'.IsKeyIter it d (i+1) es.size ep->wJ it s.heap h'->Q (aa e.key) { s with heap:=h' }):aW (aY prog w) A (oI (.ref it)) Q E s:=by
 obtain⟨oi,ei,ci,di⟩:=id K;obtain⟨o,eo,_,ed⟩:=R;unfold oI;refine aK (MH (tO K.typeIs
  ET (lT ET K.typeIs
   d6 ?_ (d7 _))))
 refine aK (aZ ?_);refine aK ?_;refine aK ?_
 first
  |refine aK (LZ K.typeIs (aZ ?_))
  |refine aK (LY K.typeIs (aZ ?_))
 refine aK (wpAny_fieldsOf ei di ?_);have own:Builtin.Dict_items.ownsTuple "dict_keyiterator" = ag:=by decide
 simp only[own,qC,if_false];show aW _ _ (if (fR d==fT)=af then _ else _) _ _ s
 rw[if_neg (show ¬ (fR d==fT)=af from mB)]
 refine aK (aZ ?_);refine aK (Dj eo ed ?_);rw[if_neg (by simp)]
 refine aK (aZ ?_);refine aK (wpAny_dictEpoch eo ed ?_);rw[if_neg (by simp)]
 refine aZ ?_;simp only[show ¬ ((i:Int)<0) from by lia,if_false,NO,x]
 refine aK ?_
 first
  |refine aK (LZ K.typeIs (aZ ?_))
  |refine aK (LY K.typeIs (aZ ?_))
 refine aK (wpAny_isOneOf_keyiter K.typeIs ?_);show aW _ _ (setField (.ref it) 1 (jP ((i:Int)+1))>>=_) _ _ s;refine aK (MB ei di (by simp) ?_)
 have K':(s.heap.update it (Obj.mapFields (·.setIfInBounds 1 (jP ((i:Int)+1))))).IsKeyIter it d (i+1) es.size ep:=
  ⟨_,zU _ ei (Obj.isFreed_of_fields (MU di _)),(Obj.cls_mapFields ..).trans ci,by
   rw[MU di];simp[jP]⟩
 refine aK (iA ?_);refine aK (wpAny_isOneOf_keyiter
  K'.typeIs ?_)
 exact aZ (aZ ⟨_,rfl,aZ (q _ K' (zV ..))⟩)
theorem Ol {Q:Option aF->aI->Prop}(hh:A.handled=ab)(K:s.heap.IsKeyIter it d i es.size ep)(R:Awr s.heap d es ep)(x:es.size<=i)
  (q:∀ h',ES it s.heap h'->Q ab { s with heap:=h' }):aW (aY prog w) A (oI (.ref it)) Q E s:=by
 obtain⟨oi,ei,ci,di⟩:=id K;obtain⟨o,eo,_,ed⟩:=R;unfold oI;refine aK (MH (tO K.typeIs
  ET (lT ET K.typeIs
   d6 ?_ (d7 _))))
 refine aK (aZ ?_);refine aK ?_;refine aK ?_
 first
  |refine aK (LZ K.typeIs (aZ ?_))
  |refine aK (LY K.typeIs (aZ ?_))
 refine aK (wpAny_fieldsOf ei di ?_);have own:Builtin.Dict_items.ownsTuple "dict_keyiterator" = ag:=by decide
 simp only[own,qC,if_false];show aW _ _ (if (fR d==fT)=af then _ else _) _ _ s
 rw[if_neg (show ¬ (fR d==fT)=af from mB)]
 refine aK (aZ ?_);refine aK (Dj eo ed ?_);rw[if_neg (by simp)]
 refine aK (aZ ?_);refine aK (wpAny_dictEpoch eo ed ?_);rw[if_neg (by simp)]
 refine aZ ?_;simp only[show ¬ ((i:Int)<0) from by lia,if_false,NO,Array.getElem?_eq_none x]
 refine aK ?_
 first
  |refine aK (LZ K.typeIs (aZ ?_))
  |refine aK (LY K.typeIs (aZ ?_))
 show aW _ _ (setField (.ref it) 0 .none>>=_) _ _ s;refine aK (MB ei di (by simp) ?_)
 refine aK ?_;simp only[newExc,newTuple];refine aK (pT ?_ (by size_fits))
 refine aK (wpAny_of_eq
  (by first|rfl|(simp only[firstArgMember];rfl)) ?_)
 refine pT ?_ (by size_fits)
 simp only[raiseNew];refine aK (wpAny_handled ?_);rw[show A.in1.handled=ab from hh]
 refine aK (aZ (wpAny_throw ?_));refine aK (MF
  ⟨_,dM _ rfl,rfl⟩ isSubtype_stop ?_)
 exact aZ (q _ (((zV ..).extBut.push _).push _))
theorem Rh (hh:A.handled=ab)(I d:aD)(ne:d≠I)(es:Array qB)(ep:Nat) :
  Walks prog w A I [I,d] [I] es.size (λi v=>∃ e,es[i]?=aa e/\v=e.key) (λi h=>h.IsKeyIter I d i es.size ep/\Awr h d es ep) where
 sub:=λb hb=>by simp at hb;simp[hb]
 frame:=λ_ _ _ st hk=>⟨st.1.at λo e=>hk I (by simp) o e,st.2.keep λo e=>hk d (by simp) o e⟩
 item:=λi s Q E hi st hQ=>by
  have hx:=EY hi;refine Wu st.1 st.2 hx λh' K' hs=>?_
  exact hQ _ h' s.toks ⟨_,hx,rfl⟩ ⟨K',st.2.keep λo e=>hs.extBut d o ne e⟩ λb o hb e=>hs.extBut b o (λh=>hb (by simp[h])) e
 done:=λs Q E st hQ=>Ol hh st.1 st.2 (bI _) λh' he=>hQ h' s.toks λb o hb e=>he b o (λh=>hb (by simp[h])) e
 self:=λ_ _ _ _ st hQ=>wpAny_pyIter_keyiter st.1 hQ
theorem Um:typeLookup (.type "dict") "__len__" = pure (aa (.builtin "dict.__len__")):=by rw[typeLookup_type,builtinLookup_eq_fast];kernel_rfl
theorem Rx(hh:A.handled=ab)(nm:(d==jH)=ag)(D:Awr s.heap d es ep)(S:aD)(res:aF)(c₀:Nat)(v9:S≠d)
  (hS:s.heap.get? S=aa { cls:=.type "list",data:=.seq #[] c₀ }) (hn:es.size<=sizeLine)
  (q:∀ h' tk ar c',(∀ b o,b≠S->s.heap.get? b=aa o->h'.get? b=aa o)->h'.get? S=aa { cls:=.type "list",dict:=ab,data:=.seq ar c',slots:=#[] } ->
   ItemsOf (λi v=>∃ e,es[i]?=aa e/\v=e.key) ar es.size->R (.ok (.ret res)) { s with heap:=h',toks:=tk }) :
  aW (aY prog w) A.in1 (NV (.ref S) (.ref d) res)
   (λfin s'=>match fin with|.done f=>R (.ok f) s'|.again c'=>c'.quiet=af/\oK (aY prog w) A c' R s') (λe s'=>R (.error e) s') s:=by
 have ty:=D.ty;unfold NV;refine aK (tN ty ?_);have h1:Builtin.List.listSameRef (.ref S) (.ref d)=ag:=by
  simp[Builtin.List.listSameRef,v9]
 have h2:(oO "dict" == oO "list")=ag:=by decide
 have h3:(oO "dict" == oO "tuple")=ag:=by decide
 simp only[h1,h2,h3,Bool.or_false,qC,if_false];refine aK (Yb nm D ?_);refine aK (iA ?_);have uq:d<s.heap.objs.size:=by obtain⟨o,e,_⟩:=D;exact bZ e
 have ye:S<s.heap.objs.size:=bZ hS;have i5:∀ b o,s.heap.get? b=aa o->(s.heap.push { cls:=.type "dict_keyiterator",data:=.fields #[.ref d,.int 0 0,.int es.size 0,.int ep 0] }).get? b=aa o:=λb o e=>cD _ e
 have D':Awr (s.heap.push { cls:=.type "dict_keyiterator",data:=.fields #[.ref d,.int 0 0,.int es.size 0,.int ep 0] }) d es ep:=D.keep λo e=>i5 d o e
 have yf:(s.heap.push { cls:=.type "dict_keyiterator",data:=.fields #[.ref d,.int 0 0,.int es.size 0,.int ep 0] }).IsKeyIter s.heap.objs.size d 0 es.size ep:=⟨_,dM _ rfl,rfl,rfl⟩;unfold Builtin.List.listLengthHint;refine aK (yY (T:="dict") (v:=.ref d) (by obtain⟨o,e,c,_⟩:=D';exact⟨o,e,c.1⟩) Um ?_)
 wp_delta
 refine aK (MF (T:="dict") (v:=.ref d) (b:=af) (by obtain⟨o,e,c,_⟩:=D';exact⟨o,e,c.1⟩) (by rw[isSubtype_type];kernel_rfl) ?_)
 show aW _ _ (typeOf (fR d)>>=_) _ _ _;refine aK (tN (T:="dict") (v:=.ref d) (by obtain⟨o,e,c,_⟩:=D';exact⟨o,e,c.1⟩) ?_)
 refine aZ ?_;rw[if_pos nofun]
 refine aK (vM ?_);refine aK ?_;have S1:=i5 _ _ hS;generalize(s.heap.push { cls:=.type "dict_keyiterator",data:=.fields #[.ref d,.int 0 0,.int es.size 0,.int ep 0] })=G at i5 D' S1 yf ⊢;show aW _ _ (updateSeq S (·.push .none)>>=λ_=>updateSeq S (·.pop)) _ _ _
 refine aK (wpAny_updateSeq S1 rfl ?_);have S2:=zU (iD (·.push fT)) S1 rfl;refine wpAny_updateSeq (hz:=by seq_fits) S2 rfl ?_
 have S3:=zU (iD (·.pop)) S2 rfl;have dv:∀ b o,b≠S->G.get? b=aa o->((G.update S (iD (·.push fT))).update S (iD (·.pop))).get? b=aa o:=λb o hb e=>
  (ER _ _ (kF hb)).trans ((ER _ _ (kF hb)).trans e)
 have dk:d≠s.heap.objs.size:=eD uq;have AT:S∉[s.heap.objs.size,d]:=λhm=>by
  rcases cZ.1 hm with z|z
  .exact absurd ye (by rw[z];exact mT _)
  .exact v9 (cM.1 z)
 refine aZ ⟨zH F.plain_extend_loop _,codeAny_extend_loopS (Rh (A:=A.in1) hh s.heap.objs.size d dk es ep).toS hn _ AT _ es.size 0 _ _ _ rfl (eB _)
  ⟨yf.at λo e=>dv _ o (rD ye) e,D'.keep λo e=>dv _ o (kF v9) e⟩ S3 (ItemsOf.nil _) λs' ar c' hm om fz=>?_⟩
 rw[Moved.eq_with hm];refine q s'.heap s'.toks ar c' (λb ob hb e=>hm.heap b ob (λhmem=>?_) (dv b ob hb (i5 _ _ e))) om fz
 rcases cZ.1 hmem with z|hmem
 .exact hb z
 .exact absurd (bZ e) (by rw[cM.1 hmem];exact mT _)
theorem Vt(hh:A.handled=ab)(nm:(d==jH)=ag)(D:Awr s.heap d es ep)(hn:es.size<=sizeLine)
  (q:∀ h' tk ar c',(∀ b o,s.heap.get? b=aa o->h'.get? b=aa o)->h'.get? s.heap.objs.size=aa { cls:=.type "list",dict:=ab,data:=.seq ar c',slots:=#[] } ->
   ItemsOf (λi v=>∃ e,es[i]?=aa e/\v=e.key) ar es.size->Q (.ref s.heap.objs.size) { s with heap:=h',toks:=tk }):aW (aY prog w) A (call (.type "list") [.ref d]) Q E s:=by
 refine callType_codes (Q₁:=λobj s₁=>obj=.ref s.heap.objs.size/\s₁={ s with heap:=s.heap.push { cls:=.type "list",data:=.seq #[] } })
  F.called_list (F.typeCall_list_1 _) F.entry_list_init (code_list_new _ ⟨rfl,rfl⟩) λobj s₁ h₁=>?_
 obtain⟨rfl,rfl⟩:=h₁;have uq:d<s.heap.objs.size:=by obtain⟨o,e,_⟩:=D;exact bZ e
 have N1:(s.heap.push { cls:=.type "list",data:=.seq #[] }).get? s.heap.objs.size=aa { cls:=.type "list",data:=.seq #[] }:=dM _ rfl;refine⟨⟨_,N1,rfl⟩,F.args_list_init_2 _ _,?_⟩;show aW _ _ (do
  let kr <-Builtin.List.listItems (.ref s.heap.objs.size)
  Builtin.List.listUpdate (.ref s.heap.objs.size) (λ_=>#[])
  letGo kr.toList.reverse
  NV (.ref s.heap.objs.size) (.ref d) .none) _ _ _
 refine aK ?_;unfold Builtin.List.listItems;refine aK (mS N1 rfl (aZ ?_));show aW _ _ (updateSeq s.heap.objs.size (λ_=>#[])>>=λ_=>letGo (#[]:Array aF).toList.reverse>>=λ_=>
  NV (.ref s.heap.objs.size) (.ref d) .none) _ _ _
 refine aK (wpAny_updateSeq N1 rfl ?_);have N2:=zU (iD (λ_=>(#[]:Array aF))) N1 rfl
 have dv:∀ b o,b≠s.heap.objs.size->(s.heap.push { cls:=.type "list",data:=.seq #[] }).get? b=aa o ->
   ((s.heap.push { cls:=.type "list",data:=.seq #[] }).update s.heap.objs.size (iD (λ_=>(#[]:Array aF)))).get? b=aa o:=λb o hb e=>(ER _ _ (kF hb)).trans e
 refine aK (ME ?_);refine Rx (A:=A.in1) hh nm (D.keep λo e=>dv d o (eD uq) (cD _ e)) s.heap.objs.size .none _ (rD uq) N2 hn λh' tk ar c' hk om fz=>?_
 exact⟨rfl,q h' tk ar c' (λb o e=>hk b o (eD (bZ e)) (dv b o (eD (bZ e)) (cD _ e))) om fz⟩
end
section
variable {Z:St}
theorem KD {P:bP}:∀ {es:List qB} {kvs:List (aH×V)} {vs:List (aH×aF)},KV kvs vs->PySem.Pairs (fG P w) es vs->Vals (kvs.map λkv=>kV kv.1) (es.map (·.key))
 |[],kvs,vs,r,p=>by
  cases p;cases r;exact .nil
 |e::es,kvs,vs,r,p=>by
  cases p with
  |cons h hv t=>
   cases r with
   |cons h' t'=>
    refine .cons ?_ (KD t' t);show RelV (kV _) e.key;rw[h'.1];rcases mM h with⟨i,tk,e1,e2⟩|⟨x,tk,e1,e2⟩
    .rw[e1,e2];exact⟨tk,rfl⟩
    .rw[e1,e2];exact⟨tk,rfl⟩
theorem Qn {es:Array qB}{ar:Array aF}(h:ItemsOf (λi v=>∃ e,es[i]?=aa e/\v=e.key) ar es.size):ar.toList=es.toList.map (·.key):=by
 obtain⟨h1,h2⟩:=h;apply List.ext_getElem?
 grind
theorem Kw {xL:Nat}(I:Inv X ad Z H s)(ha:H a=aa (.dK xL kvs)):kvs.length<=sizeLine/\(a==jH)=ag/\∃ es ep,Awr s.heap a es ep/\Vals (kvs.map λkv=>kV kv.1) (es.toList.map (·.key))/\es.size=kvs.length:=by
 obtain⟨z,nm,vs,r,o,es,ep,e1,e2,e3,_,e5,_⟩:=qI I.hok ha;refine⟨z,nm,es,ep,⟨o,e1,e2,e3⟩,KD r e5,?_⟩;have l1:=(KD r e5).length;simp at l1;exact l1.symm
theorem Rz (hc:X.calm=af):Adc X (.type "list") (λxs H Q=>∃ a ep kvs,xs=[.ref a]/\H a=aa (.dK ep kvs)/\∀ l,H l=ab->Q (.ref l) (upd H l (.lst (kvs.map λkv=>kV kv.1)))):=by
 rw[5];obtain⟨a,ep1,kvs,rfl,ha,q⟩:=h;obtain⟨u,rfl,ru⟩:=vals1 r;cases ru;obtain⟨z,nm,es,ep,D,rv,el⟩:=Kw I ha;refine Vt (I.ok.hd hc) nm D () λh' tk ar c' hk hS fz=>?_
 have ea:=Qn fz;rw[<-ea] at rv;exact⟨.ref s.heap.objs.size,_,I.laid hk (bI _) (show Acz X.prog X.w _ h' _ (.lst _) from⟨by rw[bR];exact z,ar.toList,c',rv,by simpa using hS⟩),rfl,q _ I.fresh⟩
theorem WA:∀ {kds:List (aA×aA)} {kvs:List (aH×V)},Abu K H kds kvs->(∀ kd∈kds,cI kd.1=af)->Aao K H (kds.map (·.1)) (kvs.map λkv=>kV kv.1)
 |[],kvs,r,_=>by rw[Abq.1 r];exact Aal.2 rfl
 |(k,d)::kds,kvs,r,h=>by
  obtain⟨k',x,rr,rfl,rfl,h1,h2⟩:=Aa7.1 r;refine Aag.2 ⟨_,_,rfl,?_,WA h2 λkd m=>h kd (bN _ m)⟩
  have hl:=h (kD k',d) bO;cases k' with
  |inl i=>exact Aai.2 rfl
  |inr z=>exact Aa6.2 ⟨rfl,hl⟩
def GO:List aA->Option aA
 |[.dict kds]=>if (cz kds&&kds.all λkd=>cI kd.1)=af then aa (.list (kds.map (·.1))) else ab
 |_=>ab
theorem Tw:CallD K 1 (λxs H Q=>∃ a ep kvs,xs=[.ref a]/\H a=aa (.dK ep kvs)/\∀ l,H l=ab->Q (.ref l) (upd H l (.lst (kvs.map λkv=>kV kv.1)))) GO:=λP H xs ds d Q hP r e k=>by
 unfold GO at e;split at e
 .obtain⟨hl,rfl⟩:=cR e;rw[8];obtain⟨pk,hl⟩:=gE.1 hl;obtain⟨q,ys,rfl,hq,rr⟩:=(nW pk).1 r';exact⟨q,ys.1,ys.2,rfl,Aaq _ _ hq,λl pz=>k.lst hP pz (WA rr (gD.1 hl))⟩
 .cases e
def oE (b:List (aA×aA)):List (aA×aA)->Bool
 |[]=>af
 |(k,d)::r=>match (bM k).bind (bJ b) with
  |none=>ag
  |some e=>bX d e&&oE b r
def uO (a b:List (aA×aA)):Bool:=a.length==b.length&&oE b a
def valsOk (a:List (aA×aA)):Bool:=a.all λkd=>Ad2 kd.2
theorem Wq {b:List (aA×aA)}{k:aH}(h:valsOk b=af)(e:bJ b k=aa d):Ad2 d=af:=by
 unfold bJ at e;cases q:b.find? λkd=>decide (bM kd.1=aa k) with
 |none=>rw[q] at e;cases e
 |some kd=>
  rw[q] at e;have:kd.2=d:=by simpa using e
  rw[10];exact gD.1 h kd (wF q)
theorem QA (hu:X.A.units+100<cLine)(I:Inv X ad Z H s){kb:List (aA×aA)}{vb:List (aH×V)}{ub:List (aH×aF)}(rb:Abu X.K H kb vb)(qb:KV vb ub)(fb:valsOk kb=af) :
  ∀ {ka:List (aA×aA)} {va:List (aH×V)} {ua:List (aH×aF)},valsOk ka=af->Abu X.K H ka va->KV va ua->PySem.W.KeqHits X.A.in1 s ub ua (oE kb ka)
 |[],va,ua,_,ra,qa=>by
  obtain rfl:=Abq.1 ra;cases qa;exact .nil
 |(k,d)::ka,va,ua,fa,ra,qa=>by
  obtain⟨k',x,rr,rfl,rfl,h1,h2⟩:=Aa7.1 ra;have ku:Ad2 d=af/\valsOk ka=af:=by simpa [valsOk] using fa
  cases qa with
  |@cons _ u _ us h' t'=>
  obtain⟨g1,g2⟩:=h';obtain⟨uk,uv⟩:=u;have e2:=g1;subst e2;have cq:=qb.val k';have eh:oE kb ((kD k',d)::ka)=(match bJ kb k' with|none=>ag|some e=>bX d e&&oE kb ka):=by
   show(match (bM (kD k')).bind (bJ kb) with|none=>ag|some e=>bX d e&&oE kb ka)=_
   rw[iN]
   rfl
  rcases qV rb with⟨n1,n2⟩|⟨d',v',s1,s2,rd⟩
  .rw[n2] at cq;rw[eh,n1];exact .miss cq.none_of
  .rw[s2] at cq;obtain⟨y,hy,ry⟩:=cq.some_of;have f1:noDict d=af/\d.depth<=60:=by simpa [Ad2] using ku.1
   have f2:noDict d'=af/\d'.depth<=60:=by simpa [Ad2] using Wq fb s1
   obtain⟨l1,as,A0⟩:=kU I f1.1 h1 g2;obtain⟨l2,bs,A1⟩:=kU I f2.1 rd ry;have eq:=SeqAt.eqAt_reads d d' X.A.in1 s uv y as bs A0 A1 l1 l2 (by
    have:X.A.in1.units=X.A.units+1:=rfl
    lia)
   rw[eh,s1];exact .hit hy eq (QA hu I rb qb fb ku.2 h2 t')
def OE (K:aM)(neg:Bool):R2:=λx y H Q=>∃ ka kb,Abr K H (.dict ka) x/\Abr K H (.dict kb) y/\(cz ka=af/\cz kb=af)/\valsOk ka=af/\valsOk kb=af/\Q (.bl (neg != uO ka kb)) H
theorem Lb (hu:X.A.units+100<cLine):OpR X (iB .Eq) (OE X.K ag):=by
 rw[3];obtain⟨ka,kb,ra,rb,pk,fa,fb,q⟩:=h;obtain⟨a,va,rfl,ha,ra⟩:=(nW pk.1).1 ra;obtain⟨b,vb,rfl,hb,rb⟩:=(nW pk.2).1 rb;cases rx;cases ry;obtain⟨_,na,ua,qa,da⟩:=qI I.hok ha;obtain⟨_,nb,ub,qb,db⟩:=qI I.hok hb;have l1:=(ra.length).symm.trans qa.length;have l2:=(rb.length).symm.trans qb.length;refine PySem.W.keq_eq na nb da db () (λ_=>QA hu I rb qb fb fa ra qa) ?_
 rw[<-l1,<-l2];exact⟨.bl _,H,I,rfl,by simpa [uO] using q⟩
def mD (neg:Bool):aA->aA->Option aA
 |.dict a,.dict b=>if (valsOk a&&valsOk b&&(cz a&&cz b))=af then aa (.bool (neg != uO a b)) else ab
 |_,_=>ab
theorem Nn{neg:Bool}:OpD K 0 (OE K neg) (mD neg):=λP H x y a b d Q hP ra rb e k=>by
 unfold mD at e;split at e
 .obtain⟨hc,rfl⟩:=cR e;have dr:=gE.1 hc;have hv:=gE.1 dr.1;exact⟨_,_,ra.ext Aaq,rb.ext Aaq,gE.1 dr.2,hv.1,hv.2,k.zero Ext.refl (Aay.2 rfl)⟩
 .cases e
end
open PySem
structure Sub (P:bP)(w:bE)(it:aD)(own:List aD)(St:Nat->aU->Prop)(xs:Array aF):Prop where
 mem:it∈own
 obj:∀ k h,St k h->∀ c∈own,∃ o,h.get? c=aa o
 keep:∀ k h h',St k h->(∀ c∈own,∀ o,h.get? c=aa o->h'.get? c=aa o)->St k h'
 item:∀ (A:cE) (E:aF->aI->Prop) (s:aI) (Q:aF->aI->Prop) (k:Nat) (x:aF),St k s.heap->xs[k]?=aa x ->
  (∀ h',St (k+1) h'->wJ it s.heap h'->Q x { s with heap:=h' })->aW (aY P w) A (zZ (.ref it)) Q E s
 done:∀ (A:cE) (E:aF->aI->Prop) (s:aI) (Q:aF->aI->Prop) (k:Nat),A.handled=ab->St k s.heap->xs[k]?=ab ->
  (∀ h' e,ES it s.heap h'->(∃ o,h'.get? e=aa o/\o.cls=.type "StopIteration")->E (.ref e) { s with heap:=h' })->aW (aY P w) A (zZ (.ref it)) Q E s
section
variable {P:bP}
theorem Xd {j t:aD}{k:Nat}(hj:s.heap.IsTupleIter j t k)(ht:s.heap.IsTuple t us)(hu:us[k]?=aa u)
  (q:∀ h',h'.IsTupleIter j t (k+1)->wJ j s.heap h'->Q u { s with heap:=h' }):aW (aY P w) A (zZ (.ref j)) Q E s:=by
 obtain⟨oj,g1,g2,g3⟩:=id hj;obtain⟨ot,t1,_,nt,t2⟩:=ht;unfold zZ;refine aK (tO hj.typeIs NQ (lT NQ hj.typeIs F.entry_tuple_iterator_next ?_ (F.args_tuple_iterator_next_1 _)));show aW _ _ (field (.ref j) 0>>=_) _ _ s;refine aK (kE g1 g3 (x:=.ref t) rfl ?_);have ne:¬ (fR t==fT)=af:=mB;rw[if_neg ne];refine aK (kE g1 g3 rfl ?_);refine aK (mS t1 t2 ?_);simp only[NO,hu];refine aK (MB g1 g3 (by simp) (aZ ⟨u,rfl,aZ (q _ ⟨_,zU _ g1 (Obj.isFreed_of_fields (MU g3 _)),(Obj.cls_mapFields ..).trans g2,?_⟩ (zV ..))⟩))
 rw[MU g3];simp[jP]
theorem Vy {j t:aD}{k:Nat}(hh:A.handled=ab)(hj:s.heap.IsTupleIter j t k)(ht:s.heap.IsTuple t us)(hu:us[k]?=ab)
  (q:∀ h' e,ES j s.heap h'->(∃ o,h'.get? e=aa o/\o.cls=.type "StopIteration")->E (.ref e) { s with heap:=h' }):aW (aY P w) A (zZ (.ref j)) Q E s:=by
 obtain⟨oj,g1,g2,g3⟩:=id hj;obtain⟨ot,t1,_,nt,t2⟩:=ht;unfold zZ;refine aK (tO hj.typeIs NQ (lT NQ hj.typeIs F.entry_tuple_iterator_next ?_ (F.args_tuple_iterator_next_1 _)));show aW _ _ (field (.ref j) 0>>=_) _ _ s;refine aK (kE g1 g3 (x:=.ref t) rfl ?_);have ne:¬ (fR t==fT)=af:=mB;rw[if_neg ne];refine aK (kE g1 g3 rfl ?_);refine aK (mS t1 t2 ?_);simp only[NO,hu];refine aK (vM (aK (MB g1 g3 (by simp) ?_)))
 refine aK ?_;simp only[newExc,newTuple];refine aK (pT ?_ (by size_fits))
 refine aK (wpAny_of_eq (by first|rfl|(simp only[firstArgMember];rfl)) ?_)
 refine pT ?_ (by size_fits)
 simp only[raiseNew];refine aK (wpAny_handled ?_)
 first|rw[show A.in1.handled=ab from hh]|rw[hh]
 refine aK (aZ (wpAny_throw (q _ _ (((zV ..).extBut.push _).push _) ⟨_,dM _ rfl,rfl⟩)))
theorem Pk (j t:aD)(us:Array aF)(ne:t≠j):Sub P w j [j,t] (λk h=>h.IsTupleIter j t k/\h.IsTuple t us) us where
 mem:=bO
 obj:=λk h ⟨⟨o,e,_⟩,⟨o',e',_⟩⟩ c hc=>by
  grind
 keep:=λk h h' ⟨⟨o,e,r⟩,⟨o',e',r'⟩⟩ kp=>⟨⟨o,kp j bO o e,r⟩,⟨o',kp t (by simp) o' e',r'⟩⟩
 item:=λA E s Q k x ⟨a,b⟩ hx q=>Xd a b hx λh' a' sb=>q h' ⟨a',b.extBut sb.extBut ne⟩ sb
 done:=λA E s Q k hh ⟨a,b⟩ hx q=>Vy hh a b hx q
theorem Xa (j t:aD)(us:Array aF)(ne:t≠j):Sub P w j [j,t] (λk h=>h.IsListIter j t k/\h.IsList t us) us where
 mem:=bO
 obj:=λk h ⟨⟨o,e,_⟩,⟨o',e',_⟩⟩ c hc=>by
  grind
 keep:=λk h h' ⟨⟨o,e,r⟩,⟨o',e',r'⟩⟩ kp=>⟨⟨o,kp j bO o e,r⟩,⟨o',kp t (by simp) o' e',r'⟩⟩
 item:=λA E s Q k x ⟨a,b⟩ hx q=>wpAny_nextOf_list_item a b hx λh' a' sb=>q h' ⟨a',b.extBut sb.extBut ne⟩ sb
 done:=λA E s Q k hh ⟨a,b⟩ hx q=>wpAny_nextOf_list_end hh a b hx q
structure ZApart (z TI TO i1 i2:aD)(o1 o2:List aD):Prop where
 TIz:TI≠z
 TOz:TO≠z
 TITO:TI≠TO
 TI1:TI≠i1
 TI2:TI≠i2
 i12:i1≠i2
 z1:z∉o1
 z2:z∉o2
 TO1:TO∉o1
 TO2:TO∉o2
 x12:i1∉o2
 x21:i2∉o1
variable {TI TO:aD}{xs ys:Array aF}{k:Nat}
def kz (z TI TO i1 i2:aD)(S1 S2:Nat->aU->Prop)(f0:aF)(k:Nat)(h:aU):Prop:=
 IsZip h z TI TO f0/\rL h TI (.ref i1) (.ref i2)/\(∃ a b,rL h TO a b)/\S1 k h/\S2 k h
theorem Sub.but {c:aD}{own:List aD}{St:Nat->aU->Prop}(U:Sub P w it own St us)(st:St k h)(hc:c∉own)(e:ES c h h'):St k h':=
 U.keep k h h' st λb hb o g=>e b o (λq=>hc (q ▸ hb)) g
theorem Vv {x y:aF}(D:ZApart z TI TO i1 i2 o1 o2)(U:Sub P w i1 o1 S1 xs)(V:Sub P w i2 o2 S2 ys)(st:kz z TI TO i1 i2 S1 S2 .none k s.heap)(hx:xs[k]?=aa x)(hy:ys[k]?=aa y)
  (q:∀ h',kz z TI TO i1 i2 S1 S2 (jP s.heap.objs.size) (k+1) h'->rL h' s.heap.objs.size x y->h'.objs.size=s.heap.objs.size+1 ->
   (∀ c o,c≠z->c≠TO->c≠i1->c≠i2->s.heap.get? c=aa o->h'.get? c=aa o)->Q (.ref s.heap.objs.size) { s with heap:=h' }) :
  aW (aY P w) A (Builtin.«zip.__next__» ⟨[.ref z],[]⟩) (λfin s'=>∃ v,fin=.done (.ret v)/\Q v s') E s:=by
 obtain⟨gz,gI,⟨a,b,gO⟩,lg,j1⟩:=st;have z1:i1≠z:=λe=>D.z1 (e ▸ U.mem)
 have z2:i2≠z:=λe=>D.z2 (e ▸ V.mem)
 have t1:TO≠i1:=λe=>D.TO1 (e ▸ U.mem)
 have t2:TO≠i2:=λe=>D.TO2 (e ▸ V.mem)
 show aW _ _ (field (.ref z) 2>>=_) _ E s;refine aK (kE gz rfl rfl ?_);refine aK (kE gz rfl rfl (aK (mS gI rfl ?_)));refine aK ?_;unfold d8;refine aK (kE gz rfl rfl (aZ ?_));simp only[if_true];refine aK (vM (aK (kE gz rfl rfl ?_)));refine aK (yZ gz (by simp) λha ng sa=>?_)
 replace ng:IsZip ha z TI TO .ellipsis:=ng;refine aK ?_;simp only[List.zipIdx_cons,List.zipIdx_nil,Ej,List.forIn_nil];refine aK (aK (MC ?_));refine aK (U.item _ _ _ _ k x (U.but lg D.z1 sa.extBut) hx λhb r6 sb=>aZ ?_)
 have r9:=sb.extBut _ _ t1 (sa.extBut _ _ D.TOz gO);refine aK (mS r9 rfl (aK (Di r9 λhc ur sc=>?_)))
 replace ur:rL hc TO x b:=ur;refine aK (ME (aZ (aK (aK (MC ?_)))));refine aK (V.item _ _ _ _ k y (V.but (V.but (V.but j1 D.z2 sa.extBut) D.x12 sb.extBut) D.TO2 sc.extBut) hy λhd we sd=>aZ ?_)
 have yg:=sd.extBut _ _ t2 ur;refine aK (mS yg rfl (aK (Di yg λhe ut se=>?_)))
 replace ut:rL he TO x y:=ut;refine aK (ME (aZ (aZ ?_)));refine aK (mS ut rfl (aK (wpAny_newTuple ?_)));have size:he.objs.size=s.heap.objs.size:=by rw[se.1,sd.1,sc.1,sb.1,sa.1]
 have yh:=se.extBut _ _ D.TOz.symm (sd.extBut _ _ z2.symm (sc.extBut _ _ D.TOz.symm (sb.extBut _ _ z1.symm ng)));have kr:∀ c o,c≠z->c≠TO->c≠i1->c≠i2->s.heap.get? c=aa o->he.get? c=aa o:=λc o n1 n2 n3 n4 g=>se.extBut _ _ n2 (sd.extBut _ _ n4 (sc.extBut _ _ n2 (sb.extBut _ _ n3 (sa.extBut _ _ n1 g))))
 have wf:=U.but (U.but (U.but r6 D.TO1 sc.extBut) D.x21 sd.extBut) D.TO1 se.extBut;have wg:=V.but we D.TO2 se.extBut;have yi:=bZ yh;refine aK ?_;unfold Builtin.SmallTypes.ownedTupleHandOut;have A2:IsZip (he.push { cls:=.type "tuple",data:=.seq #[x,y] }) z TI TO .ellipsis:=cD _ yh;refine aK (yZ A2 (by simp) λhg wj sg=>?_)
 replace wj:IsZip hg z TI TO (jP he.objs.size):=wj;refine yZ wj (by simp) λhi uu si=>?_
 replace uu:IsZip hi z TI TO (jP he.objs.size):=uu;have up:∀ c o,c≠z->he.get? c=aa o->hi.get? c=aa o:=λc o n1 g=>si.extBut _ _ n1 (sg.extBut _ _ n1 (cD _ g))
 have gT:=si.extBut _ _ (rD yi) (sg.extBut _ _ (rD yi) (dM _ rfl));have sz:hi.objs.size=he.objs.size+1:=by rw[si.1,sg.1,rM]
 have wk:=U.keep _ _ _ wf λc hc o g=>up c o (λe=>D.z1 (e ▸ hc)) g
 have wm:=V.keep _ _ _ wg λc hc o g=>up c o (λe=>D.z2 (e ▸ hc)) g
 rw[size] at uu gT sz;refine aZ ⟨_,rfl,?_⟩;rw[size];exact q hi ⟨uu,up _ _ D.TIz (kr _ _ D.TIz D.TITO D.TI1 D.TI2 gI),⟨x,y,up _ _ D.TOz ut⟩,wk,wm⟩ gT sz λc o n1 n2 n3 n4 g=>up c o n1 (kr c o n1 n2 n3 n4 g)
theorem Wz {Q:Fin->aI->Prop}(hh:A.handled=ab)(D:ZApart z TI TO i1 i2 o1 o2)(U:Sub P w i1 o1 S1 xs)(V:Sub P w i2 o2 S2 ys)(st:kz z TI TO i1 i2 S1 S2 .none k s.heap)(on:xs[k]?=ab\/ys[k]?=ab)
  (q:∀ h' e,(∀ c o,c≠z->c≠TO->c≠i1->c≠i2->s.heap.get? c=aa o->h'.get? c=aa o)->(∃ o,h'.get? e=aa o/\o.cls=.type "StopIteration")->E (.ref e) { s with heap:=h' }) :
  aW (aY P w) A (Builtin.«zip.__next__» ⟨[.ref z],[]⟩) Q E s:=by
 obtain⟨gz,gI,⟨a,b,gO⟩,lg,j1⟩:=st;have z1:i1≠z:=λe=>D.z1 (e ▸ U.mem)
 have z2:i2≠z:=λe=>D.z2 (e ▸ V.mem)
 have t1:TO≠i1:=λe=>D.TO1 (e ▸ U.mem)
 show aW _ _ (field (.ref z) 2>>=_) _ E s;refine aK (kE gz rfl rfl ?_);refine aK (kE gz rfl rfl (aK (mS gI rfl ?_)));refine aK ?_;unfold d8;refine aK (kE gz rfl rfl (aZ ?_));simp only[if_true];refine aK (vM (aK (kE gz rfl rfl ?_)));refine aK (yZ gz (by simp) λha ng sa=>?_)
 replace ng:IsZip ha z TI TO .ellipsis:=ng;refine aK ?_;simp only[List.zipIdx_cons,List.zipIdx_nil,Ej,List.forIn_nil];refine aK (aK (MC ?_));have yj:∀ {h':aU} {e:aD},IsZip h' z TI TO .ellipsis->(∃ o,h'.get? e=aa o/\o.cls=.type "StopIteration")->e≠z:=λg ⟨o,g1,g2⟩ n=>by
  subst n;rw[g] at g1;cases g1;simp at g2
 cases hx:xs[k]? with
 |none=>
  refine aK (U.done _ _ _ _ k hh (U.but lg D.z1 sa.extBut) hx λhb e sb he=>?_)
  have yk:=sb _ _ z1.symm ng;have ne:=yj yk he;obtain⟨o,g1,g2⟩:=he;exact yZ yk (by simp) λhc _ sc=>q hc e (λc o n1 _ n3 _ g=>sc.extBut _ _ n1 (sb _ _ n3 (sa.extBut _ _ n1 g))) ⟨o,sc.extBut _ _ ne g1,g2⟩
 |some x=>
  have hy:=on.resolve_left λh=>by rw[hx] at h;cases h
  refine aK (U.item _ _ _ _ k x (U.but lg D.z1 sa.extBut) hx λhb r6 sb=>aZ ?_)
  have r9:=sb.extBut _ _ t1 (sa.extBut _ _ D.TOz gO);refine aK (mS r9 rfl (aK (Di r9 λhc ur sc=>?_)))
  refine aK (ME (aZ (aK (aK (MC ?_)))));refine aK (V.done _ _ _ _ k hh (V.but (V.but (V.but j1 D.z2 sa.extBut) D.x12 sb.extBut) D.TO2 sc.extBut) hy λhd e sd he=>?_)
  have yl:=sd _ _ z2.symm (sc.extBut _ _ D.TOz.symm (sb.extBut _ _ z1.symm ng));have ne:=yj yl he;obtain⟨o,g1,g2⟩:=he;exact yZ yl (by simp) λhf _ sf=>q hf e (λc o n1 n2 n3 n4 g=>sf.extBut _ _ n1 (sd _ _ n4 (sc.extBut _ _ n2 (sb.extBut _ _ n3 (sa.extBut _ _ n1 g))))) ⟨o,sf.extBut _ _ ne g1,g2⟩
theorem Vx {x y:aF}{Q:Option aF->aI->Prop}(D:ZApart z TI TO i1 i2 o1 o2)(U:Sub P w i1 o1 S1 xs)(V:Sub P w i2 o2 S2 ys)(st:kz z TI TO i1 i2 S1 S2 .none k s.heap)(hx:xs[k]?=aa x)(hy:ys[k]?=aa y)
  (q:∀ h',kz z TI TO i1 i2 S1 S2 (jP s.heap.objs.size) (k+1) h'->rL h' s.heap.objs.size x y->h'.objs.size=s.heap.objs.size+1 ->
   (∀ c o,c≠z->c≠TO->c≠i1->c≠i2->s.heap.get? c=aa o->h'.get? c=aa o)->Q (aa (.ref s.heap.objs.size)) { s with heap:=h' }):aW (aY P w) A (oI (.ref z)) Q E s:=by
 have ty:s.TypeIs (.ref z) "zip":=⟨_,st.1,rfl⟩;unfold oI;exact aK (MH (tO ty NP (lT NP ty F.entry_zip_next (Vv D U V st hx hy λh' a1 a2 a3 a4=>aZ (q h' a1 a2 a3 a4)) (F.args_zip_next_1 _))))
theorem Wj {Q:Option aF->aI->Prop}(hh:A.handled=ab)(D:ZApart z TI TO i1 i2 o1 o2)(U:Sub P w i1 o1 S1 xs)(V:Sub P w i2 o2 S2 ys)(st:kz z TI TO i1 i2 S1 S2 .none k s.heap)(on:xs[k]?=ab\/ys[k]?=ab)
  (q:∀ h',(∀ c o,c≠z->c≠TO->c≠i1->c≠i2->s.heap.get? c=aa o->h'.get? c=aa o)->Q ab { s with heap:=h' }):aW (aY P w) A (oI (.ref z)) Q E s:=by
 have ty:s.TypeIs (.ref z) "zip":=⟨_,st.1,rfl⟩;unfold oI;refine aK (MH (tO ty NP (lT NP ty F.entry_zip_next (Wz hh D U V st on λh' e kp ⟨o,g1,g2⟩=>?_) (F.args_zip_next_1 _))))
 exact aK (MF ⟨o,g1,g2⟩ isSubtype_stop (aZ (q _ kp)))
end
def SqB (b:Bool)(h:aU)(l:aD)(us:Array aF):Prop:=match b with
 |true=>h.IsList l us
 |false=>h.IsTuple l us
def pj (b:Bool)(l:aD):bK:={ cls:=.type (match b with|true=>"list_iterator" | false=>"tuple_iterator"),data:=.fields #[.ref l,.int 0 0] }
def StB (b:Bool)(j l:aD)(us:Array aF)(k:Nat)(h:aU):Prop:=match b with
 |true=>h.IsListIter j l k/\h.IsList l us
 |false=>h.IsTupleIter j l k/\h.IsTuple l us
theorem DL {P:bP}(b:Bool)(j l:aD)(us:Array aF)(ne:l≠j):Sub P w j [j,l] (StB b j l us) us:=by
 cases b with
 |true=>exact Xa j l us ne
 |false=>exact Pk j l us ne
theorem SqB.keep(q:SqB b h l us)(k:∀ o,h.get? l=aa o->h'.get? l=aa o):SqB b h' l us:=by
 cases b with
 |true=>
  obtain⟨o,e,r⟩:=q;exact⟨o,k o e,r⟩
 |false=>
  obtain⟨o,e,r⟩:=q;exact⟨o,k o e,r⟩
theorem StB.new{j:aD}(q:SqB b h l us)(e:h.get? j=aa (pj b l)):StB b j l us 0 h:=by
 cases b with
 |true=>exact⟨⟨_,e,rfl,rfl⟩,q⟩
 |false=>exact⟨⟨_,e,rfl,rfl⟩,q⟩
section
variable {P:bP}{b1 b2:Bool}{l1 l2:aD}{xs ys:Array aF}
theorem Aq(h:SqB b s.heap l us)(q:Q (.ref s.heap.objs.size) { s with heap:=s.heap.push (pj b l) }):aW (aY P w) A (tQ (.ref l)) Q E s:=by
 cases b with
 |true=>exact zF h q
 |false=>exact wpAny_pyIter_tuple h q
abbrev zA (b1:Bool)(h:aU)(l1:aD):aU:=h.push (pj b1 l1)
abbrev zB (b1 b2:Bool)(h:aU)(l1 l2:aD):aU:=(zA b1 h l1).push (pj b2 l2)
abbrev zC (b1 b2:Bool)(h:aU)(l1 l2:aD):aU:=(zB b1 b2 h l1 l2).push { cls:=.type "tuple",data:=.seq #[.ref h.objs.size,.ref (zA b1 h l1).objs.size] }
abbrev zD (b1 b2:Bool)(h:aU)(l1 l2:aD):aU:=(zC b1 b2 h l1 l2).push { cls:=.type "tuple",data:=.seq #[.none,.none] }
abbrev zE (b1 b2:Bool)(h:aU)(l1 l2:aD):aU:=(zD b1 b2 h l1 l2).push { cls:=.type "zip",data:=.fields #[.none,.bool ag,.bool ag,.ref (zB b1 b2 h l1 l2).objs.size,.ref (zC b1 b2 h l1 l2).objs.size] }
theorem Xy (b1 b2:Bool)(l1 l2:aD)(xs ys:Array aF) :
  Meets (Builtin.«zip.__new__» ⟨[.type "zip",.ref l1,.ref l2],[]⟩) (λ_ R s=>SqB b1 s.heap l1 xs/\SqB b2 s.heap l2 ys /\
   R (.ok (.ret (.ref (zD b1 b2 s.heap l1 l2).objs.size))) { s with heap:=zE b1 b2 s.heap l1 l2 }):=
 .of_wp λprog w A R s h=>by
  obtain⟨hp,g,d,tk,os⟩:=s;obtain⟨q1,q2,q⟩:=h;have sz:=sub_zip;have u1:SqB b1 (Shared.heap ⟨hp,g,d,tk,os⟩) l1 xs:=q1;have u2:SqB b2 (Shared.heap ⟨hp.push (pj b1 l1),g,d,tk,os⟩) l2 ys:=q2.keep λo e=>cD _ e
  wp_walk using Aq u1,Aq u2
  exact⟨_,rfl,q⟩
theorem Ql {l1 l2:Nat}(h1:l1<n)(h2:l2<n):ZApart (n+4) (n+2) (n+3) n (n+1) [n,l1] [n+1,l2]:=by
 have two:∀ {a b c:Nat},a≠b->a≠c->a∉[b,c]:=λh h' m=>by
  grind
 have ne:∀ {a b:Nat},a<b->a≠b:=eD;have en:∀ {a b:Nat},b<a->a≠b:=rD;exact⟨ne (),ne (),ne (),en (),en (),ne (),two (en ()) (en ()),two (en ()) (en ()),two (en ()) (en ()),two (en ()) (en ()),two (ne ()) (en h2),two (en ()) (en ())⟩
theorem Vq(h1:SqB b1 s.heap l1 xs)(h2:SqB b2 s.heap l2 ys)
  (q:∀ (z TI TO i1 i2:aD) (h':aU),s.heap.objs.size<=z->s.heap.objs.size<=TI->s.heap.objs.size<=TO->s.heap.objs.size<=i1->s.heap.objs.size<=i2->ZApart z TI TO i1 i2 [i1,l1] [i2,l2]->kz z TI TO i1 i2 (StB b1 i1 l1 xs) (StB b2 i2 l2 ys) .none 0 h' ->
   (∀ c o,s.heap.get? c=aa o->h'.get? c=aa o)->Q (.ref z) { s with heap:=h' }):aW (aY P w) A (call (.type "zip") [.ref l1,.ref l2]) Q E s:=by
 refine callType_new F.called_zip nofun (F.typeCall_zip_2 _ _) (F.newCall_zip_2 _ _) (λobj=>F.args_object_init_3 obj _ _) F.entry_zip_new (Xy b1 b2 l1 l2 xs ys) ⟨h1,h2,?_⟩
 have za:(zA b1 s.heap l1).objs.size=s.heap.objs.size+1:=rM ..;have zb:(zB b1 b2 s.heap l1 l2).objs.size=s.heap.objs.size+2:=by rw[rM,za]
 have zc:(zC b1 b2 s.heap l1 l2).objs.size=s.heap.objs.size+3:=by rw[rM,zb]
 have zd:(zD b1 b2 s.heap l1 l2).objs.size=s.heap.objs.size+4:=by rw[rM,zc]
 have g5:(zE b1 b2 s.heap l1 l2).get? (zD b1 b2 s.heap l1 l2).objs.size=aa _:=dM _ rfl;have g4:(zE b1 b2 s.heap l1 l2).get? (zC b1 b2 s.heap l1 l2).objs.size=aa _:=cD _ (dM _ rfl);have g3:(zE b1 b2 s.heap l1 l2).get? (zB b1 b2 s.heap l1 l2).objs.size=aa _:=cD _ (cD _ (dM _ rfl));have g2:(zE b1 b2 s.heap l1 l2).get? (zA b1 s.heap l1).objs.size=aa (pj b2 l2):=cD _ (cD _ (cD _ (dM _ (by cases b2<;>rfl))))
 have g1:(zE b1 b2 s.heap l1 l2).get? s.heap.objs.size=aa (pj b1 l1):=cD _ (cD _ (cD _ (cD _ (dM _ (by cases b1<;>rfl)))))
 have all:∀ c o,s.heap.get? c=aa o->(zE b1 b2 s.heap l1 l2).get? c=aa o:=λc o x=>cD _ (cD _ (cD _ (cD _ (cD _ x))))
 have A3:l1<s.heap.objs.size:=by
  cases b1 with
  |true=>obtain⟨o,e,_⟩:=h1;exact bZ e
  |false=>obtain⟨o,e,_⟩:=h1;exact bZ e
 have A4:l2<s.heap.objs.size:=by
  cases b2 with
  |true=>obtain⟨o,e,_⟩:=h2;exact bZ e
  |false=>obtain⟨o,e,_⟩:=h2;exact bZ e
 refine⟨⟨_,g5,rfl⟩,q _ (zB b1 b2 s.heap l1 l2).objs.size (zC b1 b2 s.heap l1 l2).objs.size s.heap.objs.size (zA b1 s.heap l1).objs.size _ () () () () () ?_ ⟨g5,g3,⟨_,_,g4⟩,StB.new (h1.keep (all l1)) g1,StB.new (h2.keep (all l2)) g2⟩ all⟩
 have ap:=Ql A3 A4;rw[<-za,<-zb,<-zc,<-zd] at ap;exact ap
end
def ItB (b:Bool)(j l:aD)(k:Nat)(h:aU):Prop:=match b with
 |true=>h.IsListIter j l k
 |false=>h.IsTupleIter j l k
theorem Af8{j:aD}{k:Nat}:StB b j l us k h↔ItB b j l k h/\SqB b h l us:=by cases b<;>exact Iff.rfl
theorem ItB.get{j:aD}{k:Nat}(q:ItB b j l k h):∃ o,h.get? j=aa o/\∀ v,o.data ≠ .cell v:=by
 cases b with
 |true=>
  obtain⟨o,e,_,d⟩:=q
  grind
 |false=>
  obtain⟨o,e,_,d⟩:=q
  grind
theorem ItB.keep{j:aD}{k:Nat}(q:ItB b j l k h)(kp:∀ o,h.get? j=aa o->h'.get? j=aa o):ItB b j l k h':=by
 cases b with
 |true=>
  obtain⟨o,e,r⟩:=q;exact⟨o,kp o e,r⟩
 |false=>
  obtain⟨o,e,r⟩:=q;exact⟨o,kp o e,r⟩
def i7 (b:Bool)(K:aM)(H:Hp)(a:aD)(xs:List V):Prop:=match b with
 |true=>SqL K H a xs
 |false=>SqT K H a xs
section
variable {Z:St}
theorem Inv.sqB(I:Inv X ad Z H s)(h:i7 b X.K H a xs):∃ its:List aF,Vals xs its/\SqB b s.heap a its.toArray:=by
 cases b with
 |true=>
  obtain⟨its,rv,p,_⟩:=I.list h;exact⟨its,rv,p.isList⟩
 |false=>
  obtain⟨its,rv,p,_⟩:=I.tuple h;exact⟨its,rv,p⟩
theorem Inv.sqV_inj(I:Inv X ad Z H s)(h:i7 b X.K H a xs)(h':i7 b X.K H a ys):xs=ys:=by
 cases b with
 |true=>exact I.list_inj h h'
 |false=>exact I.tuple_inj h h'
theorem Inv.turnM {t':Nat}{fp:List aD}(I:Inv X ad Z H s)(hf:∀ b∈fp,iX X ad H b)(k:∀ b o,b∉fp->s.heap.get? b=aa o->h'.get? b=aa o):Inv X ad Z H { s with heap:=h',toks:=t' }:=by
 have out:∀ b u,H b=aa u->b∉fp:=λb u e m=>by
  rw[(hf b m).1] at e;cases e
 have loc:X.env.locals∉fp:=λm=>(hf _ m).2.1 rfl
 refine I.step (λb m=>⟨(hf b m).2.2.2.1,(hf b m).2.1,(hf b m).2.2.2.2.1,(hf b m).2.2.2.2.2⟩) (λb o _ _ n e _=>k b o n e) (λb o _ _ n e _=>⟨o.slots,k b o n e⟩) (λ_ _ _ _ n=>n)
  (λb o n e=>⟨o,k b o n e⟩) (λ_ _ e=>e) (λ_ _ _ e=>e) (λb ps e=>⟨#[],by rw[e];simp⟩) (λm hm=>?_) (λb u e=>?_) I.bare
 .obtain⟨o,es,ep,ho,r⟩:=hm;exact⟨o,es,ep,k _ o loc ho,r⟩
 .refine(I.hok b u e).stay (λc v hc q=>k c v ?_ q) (λ_ q=>q) λ_ _ q=>q
  grind
end
def FA (K:aM)(b1 b2:Bool)(a1 a2:aD):It:=
  ⟨λi H=>∃ xs ys x y,i7 b1 K H a1 xs/\i7 b2 K H a2 ys/\xs[i]?=aa x/\ys[i]?=aa y,
   λi H v H'=>∃ T x y,H T=ab/\v=.ref T/\(∀ xs,i7 b1 K H a1 xs->xs[i]?=aa x)/\(∀ ys,i7 b2 K H a2 ys->ys[i]?=aa y)/\H'=upd H T (.tup [x,y]),
   λi H=>∃ xs ys,i7 b1 K H a1 xs/\i7 b2 K H a2 ys/\(xs.length<=i\/ys.length<=i)⟩
def G' (b1 b2:Bool)(a1 a2 z TI TO i1 i2:aD)(i:Nat)(h:aU):Prop:=IsZip h z TI TO .none/\rL h TI (.ref i1) (.ref i2)/\(∃ a b,rL h TO a b)/\ItB b1 i1 a1 i h/\ItB b2 i2 a2 i h
theorem Wg {P:bP}{cx}{pos:bL}{b1 b2:Bool}{a1 a2 z TI TO i1 i2:aD}(D:ZApart z TI TO i1 i2 [i1,a1] [i2,a2])(n1:a1≠i1)(n2:a2≠i2) :
  Turn P w K (.Tuple es cx pos) (FA K b1 b2 a1 a2) [z,TI,TO,i1,i2] z (G' b1 b2 a1 a2 z TI TO i1 i2) where
 mem:=by simp
 obj:=λi h ⟨g1,g2,⟨a,b,g3⟩,g4,g5⟩ c hc=>by
  simp only[cZ,ND,or_false] at hc;rcases hc with rfl|rfl|rfl|rfl|rfl
  .exact⟨_,g1,λv q=>by cases q⟩
  .exact⟨_,g2,λv q=>by cases q⟩
  .exact⟨_,g3,λv q=>by cases q⟩
  .exact g4.get
  .exact g5.get
 keep:=λi h h' ⟨g1,g2,⟨a,b,g3⟩,g4,g5⟩ k=>⟨k z (by simp) _ g1,k TI (by simp) _ g2,⟨a,b,k TO (by simp) _ g3⟩,g4.keep (k i1 (by simp)),g5.keep (k i2 (by simp))⟩
 item:=by
  rw[2];obtain⟨xs,ys,x,y,q1,q2,hx,hy⟩:=hg;obtain⟨us,r1,s1⟩:=I.sqB q1;obtain⟨vs,r2,s2⟩:=I.sqB q2;obtain⟨u,hu,ru⟩:=r1.get hx;obtain⟨v,hv,rv⟩:=r2.get hy;obtain⟨g1,g2,⟨pa,pb,g3⟩,g4,g5⟩:=st;have kw:kz z TI TO i1 i2 (StB b1 i1 a1 us.toArray) (StB b2 i2 a2 vs.toArray) .none i s.heap:=⟨g1,g2,⟨pa,pb,g3⟩,Af8.2 ⟨g4,s1⟩,Af8.2 ⟨g5,s2⟩⟩;have kc:∀ b∈[z,TI,TO,i1,i2],b<s.heap.objs.size:=λb m=>by
   simp only[cZ,ND,or_false] at m;rcases m with rfl|rfl|rfl|rfl|rfl
   .exact bZ g1
   .exact bZ g2
   .exact bZ g3
   .obtain⟨o,e,_⟩:=g4.get;exact bZ e
   .obtain⟨o,e,_⟩:=g5.get;exact bZ e
  refine Vx D (DL b1 i1 a1 us.toArray n1) (DL b2 i2 a2 vs.toArray n2) kw (by simpa using hu) (by simpa using hv) λh' zt pr sz kr=>?_
  have fr:=I.hok.fresh (bI _);have I0:Inv X ad Z (upd H s.heap.objs.size (.tup [x,y])) { s with heap:=s.heap.push { cls:=.type "tuple",data:=.seq #[u,v] } }:=
   I.laid (λb ob q=>cD _ q) (bI _) ⟨by show 2<=sizeLine;decide,[u,v],.cons ru (.cons rv .nil),A8s.new _ _⟩
  have oq:∀ b∈[z,TI,TO,i1,i2],iX X ad (upd H s.heap.objs.size (.tup [x,y])) b:=λb m=>⟨by rw[cO (eD (kc b m))];exact(hf b m).1,(hf b m).2⟩
  have I1:Inv X ad Z (upd H s.heap.objs.size (.tup [x,y])) { s with heap:=h' }:=I0.turnM oq λb o n e=>by
   simp only[cZ,ND,or_false,not_or] at n;by_cases hb:b=s.heap.objs.size
   .subst hb;have e':(s.heap.push { cls:=.type "tuple",data:=.seq #[u,v] }).get? s.heap.objs.size=aa { cls:=.type "tuple",data:=.seq #[u,v] }:=dM _ rfl
    grind
   .exact kr b o n.1 n.2.2.1 n.2.2.2.1 n.2.2.2.2 ((Heap.get?_push_ne _ _ _ hb).symm.trans e)
  obtain⟨w1,w2,⟨wa,wb,w3⟩,w4,w5⟩:=zt;have z1:i1≠z:=λe=>D.z1 (e ▸ bO)
  have z2:i2≠z:=λe=>D.z2 (e ▸ bO)
  refine⟨_,rfl,wpAny_letOwnedTupleGo_zip w1 λh2 gz sb=>?_⟩
  have I2:Inv X ad Z (upd H s.heap.objs.size (.tup [x,y])) { s with heap:=h2 }:=I1.turnM oq λb o n e=>sb.extBut b o (λq=>n (by simp[q])) e
  exact⟨.ref s.heap.objs.size,_,I2,rfl,⟨_,x,y,fr,rfl,λi3 h=>by rw[I.sqV_inj h q1];exact hx,λie h=>by rw[I.sqV_inj h q2];exact hy,rfl⟩,
   ⟨gz,sb.extBut _ _ D.TIz w2,⟨wa,wb,sb.extBut _ _ D.TOz w3⟩,(Af8.1 w4).1.keep λo e=>sb.extBut _ _ z1 e,(Af8.1 w5).1.keep λo e=>sb.extBut _ _ z2 e⟩,λb m=>(oq b m).1⟩
 done:=by
  rw[2];obtain⟨xs,ys,q1,q2,hl⟩:=hg;obtain⟨us,r1,s1⟩:=I.sqB q1;obtain⟨vs,r2,s2⟩:=I.sqB q2;obtain⟨g1,g2,g3,g4,g5⟩:=st;have kw:kz z TI TO i1 i2 (StB b1 i1 a1 us.toArray) (StB b2 i2 a2 vs.toArray) .none i s.heap:=⟨g1,g2,g3,Af8.2 ⟨g4,s1⟩,Af8.2 ⟨g5,s2⟩⟩;have l1:=r1.length;have l2:=r2.length;refine Wj (I.ok.hd hc) D (DL b1 i1 a1 us.toArray n1) (DL b2 i2 a2 vs.toArray n2) kw ?_ λh' kr=>⟨rfl,I.turnM hf λb o n e=>?_⟩
  all_goals grind
 self:=λ_ _ _ _ _ st h=>wpAny_pyIter_zip st.1 h
section
variable {a b:aR}{p:bL}{cx:Nat}
def Gi (K:aM)(ta:TA):TI:=λZ H R=>ta Z H λvs H1=>∃ a1 a2 b1 b2 xs ys,vs=[.ref a1,.ref a2]/\i7 b1 K H1 a1 xs/\i7 b2 K H1 a2 ys/\R (FA K b1 b2 a1 a2) H1
theorem Ka {ta:TA}(hg:Gl X "zip")(hm:X.mg "zip" = ab)(ha:PA X [a,b] ta)(hs:cA [a,b] X.env=[(ag,bW a X.env),(ag,bW b X.env)]:=by rfl)(gn:cA [b] X.env=[(ag,bW b X.env)]:=by rfl) :
  PI X (.Tuple es cx je) (.Call (.Name "zip" p) [a,b] [] pos) (Gi X.K ta):=by
 intro ad s Z H R I h;refine Call_ (wW I hg hm boot_zip (Dx (bf (ha pos ad s Z H _ I h) λus s1 ⟨vs,H1,I1,r1,q1⟩=>?_) (by rw[hs,gn]) (by rw[gn];rfl)))
 obtain⟨a1,a2,b1,b2,xs,ys,rfl,k1,k2,q⟩:=q1;cases r1 with
 |cons r rr=>
  cases rr with
  |cons r' rr=>
   cases rr;cases r;cases r';obtain⟨u1,_,w1⟩:=I1.sqB k1;obtain⟨u2,_,w2⟩:=I1.sqB k2;have m1:a1<s1.heap.objs.size:=by
    cases b1 with
    |true=>obtain⟨o,e,_⟩:=w1;exact bZ e
    |false=>obtain⟨o,e,_⟩:=w1;exact bZ e
   have m2:a2<s1.heap.objs.size:=by
    cases b2 with
    |true=>obtain⟨o,e,_⟩:=w2;exact bZ e
    |false=>obtain⟨o,e,_⟩:=w2;exact bZ e
   refine Vq w1 w2 λz TI TO i1 i2 h' y0 y1 y2 y3 y4 D kw all=>wpAny_pyIter_zip kw.1 ?_
   refine⟨z,[z,TI,TO,i1,i2],_,_,H1,rfl,I1.kept all,Wg D (λe=>?_) (λe=>?_),⟨kw.1,kw.2.1,kw.2.2.1,(Af8.1 kw.2.2.2.1).1,(Af8.1 kw.2.2.2.2).1⟩,λb m=>?_,q⟩
   .grind
   .grind
   .have le:s1.heap.objs.size<=b:=by
     grind
    exact I1.fpOk le (I1.hok.fresh le)
def sP:aA->Option (List aA)
 |.list ds=>aa ds
 |.tuple ds=>aa ds
 |_=>ab
def pairD (x y:aA):aA:=.tuple [x,y]
def iZ (fa:AF):AF:=λY=>(fa Y).bind λds=>match ds with
 |[x,y]=>(sP x).bind λxs=>(sP y).bind λys=>aa (wB pairD xs ys)
 |_=>ab
theorem XC{B:Hp}(e:sP d=aa ds)(r:Abr K B d v):∃ a b xs,v=.ref a/\(∀ H2,Ext B H2->i7 b K H2 a xs)/\Aao K B ds xs:=by
 cases d with
 |list es=>
  cases e;obtain⟨a,xs,rfl,h,rr⟩:=Abe.1 r;exact⟨a,af,xs,rfl,λH2 x2=>x2.sqL h,rr⟩
 |tuple es=>
  cases e;obtain⟨a,xs,rfl,h,rr⟩:=Aau.1 r;exact⟨a,ag,xs,rfl,λH2 x2=>SqT.of (x2 _ _ h),rr⟩
 |_=>cases e
theorem Oi{B:Hp}{b1 b2:Bool}{a1 a2:aD}{es:List aA}(h1:∀ H2,Ext B H2->i7 b1 K H2 a1 xs)(h2:∀ H2,Ext B H2->i7 b2 K H2 a2 ys)(r1:Aao K B ds xs)(r2:Aao K B es ys) :
  jw K B (FA K b1 b2 a1 a2) (wB pairD ds es):=λi H2 x2=>by
 refine⟨λd hd=>?_,λe=>⟨xs,ys,h1 H2 x2,h2 H2 x2,?_⟩⟩
 .rw[List.getElem?_zipWith] at hd;cases c1:ds[i]? with
  |none=>rw[c1] at hd;simp at hd
  |some d1=>
   cases c2:es[i]? with
   |none=>rw[c1,c2] at hd;simp at hd
   |some d2=>
    rw[c1,c2] at hd;have hd:pairD d1 d2=d:=by simpa using hd
    subst hd;obtain⟨v1,g1,g2⟩:=r1.get c1;obtain⟨v2,g3,g4⟩:=r2.get c2;refine⟨⟨xs,ys,v1,v2,h1 H2 x2,h2 H2 x2,g1,g3⟩,?_⟩;rintro x H3 ⟨T,x',y',fr,rfl,k1,k2,rfl⟩;obtain rfl:v1=x':=gQ (g1.symm.trans (k1 xs (h1 H2 x2)));obtain rfl:v2=y':=gQ (g3.symm.trans (k2 ys (h2 H2 x2)));have ext:Ext H2 (upd H2 T (.tup [v1,v2])):=λb u e=>by rw[cO (kC e fr)];exact e
    refine⟨ext,λP2 wn xb=>?_⟩
    have nT:¬ P2 T:=λq=>by
     rcases wn T q with⟨o,e⟩|⟨o,e⟩<;>rw[fr] at e<;>cases e
    have gT:hid (upd H2 T (.tup [v1,v2])) P2 T=aa (.tup [v1,v2]):=fL nT eI;have xx:=xb.trans (cK ext);exact Aau.2 ⟨T,_,rfl,gT,Aag.2 ⟨_,_,rfl,g2.ext xx,Aag.2 ⟨_,_,rfl,g4.ext xx,Aal.2 rfl⟩⟩⟩
 .rw[List.length_zipWith] at e;rw[r1.length,r2.length]
  lia
theorem wZ {fa:AF}(hg:Gl X "zip")(hm:X.mg "zip" = ab)(ha:DA X [a,b] fa)(hs:cA [a,b] X.env=[(ag,bW a X.env),(ag,bW b X.env)]:=by rfl)(gn:cA [b] X.env=[(ag,bW b X.env)]:=by rfl) :
  DI X (.Tuple es cx je) (.Call (.Name "zip" p) [a,b] [] pos) (iZ fa):=PI.imp (Ka hg hm ha hs gn) λZ H R gh=>by
 obtain⟨P,Y,ds,hP,rs,ef,k⟩:=gh;obtain⟨as,e1,bv⟩:=aj ef;clear ef
 match as,e1,bv with
 |[x,y],e1,bv=>
  obtain⟨xs,e2,bh⟩:=aj (show((sP x).bind λxs=>(sP y).bind λys=>aa (wB pairD xs ys))=aa ds from bv)
  obtain⟨ys,e3,bx⟩:=aj bh;cases bx;refine⟨P,Y,_,hP,rs,e1,λvs H1 x1 r1=>?_⟩
  obtain⟨v,t,rfl,q1,q2⟩:=Aag.1 r1;obtain⟨v',rfl,q3⟩:=fQ q2;obtain⟨a1,b1,us,rfl,k1,w1⟩:=XC e2 q1;obtain⟨a2,b2,A5,rfl,k2,w2⟩:=XC e3 q3;exact⟨a1,a2,b1,b2,us,A5,rfl,k1 _ Aaq,k2 _ Aaq,k _ H1 x1 (Oi k1 k2 w1 w2)⟩
 |[],_,h=>cases h
 |[_],_,h=>cases h
 |_::_::_::_,_,h=>cases h
end
theorem Qz:Adc X (.type "range") (λxs H Q=>∃ j:Int,xs=[.int j]/\∀ a,H a=ab->Q (.ref a) (upd H a (.rng 0 j))):=by
 rw[5];obtain⟨j,rfl,q⟩:=h;obtain⟨u,rfl,t,rfl⟩:=vals1 r;refine call_range_1 ?_;exact⟨.ref s.heap.objs.size,_,I.laid (o:=.rng 0 j) (λb ob g=>cD _ g) (bI _) ⟨_,_,_,dM _ rfl⟩,rfl,q _ I.fresh⟩
def upTo (n:Nat):List aA:=(cP n).map λ(k:Nat)=>bA k
def k7 (n:Nat):List V:=(cP n).map λ(k:Nat)=>V.int k
theorem Sj (hc:X.calm=af):Adc X (.type "list") (λxs H Q=>∃ a,∃ j:Int,xs=[.ref a]/\H a=aa (.rng 0 j) /\ -4096<=j/\j<=4096/\∀ l,H l=ab->Q (.ref l) (upd H l (.lst (k7 j.toNat)))):=by
 rw[5];obtain⟨a,j,rfl,ha,h1,h2,q⟩:=h;obtain⟨u,rfl,ru⟩:=vals1 r;cases ru;obtain⟨t,u,v,g⟩:=(show Acz X.prog X.w H s.heap a (.rng 0 j) from I.hok a _ ha)
 have hn:Builtin.Range.rangeSize 0 j 1=(j.toNat:Int):=by rw[rangeSize_one];split<;>lia
 refine call_list_range (I.ok.hd hc) g (small_one () () () ()) hn () λh' tk de c' hk hS fz=>?_
 have hv:Vals (k7 j.toNat) de.toList:=by
  refine LA (by simp[k7,fz.1]) λi x u h1 h2=>?_
  obtain⟨t',rfl⟩:=fz.2 i u (by simpa using h2)
  have hi:i<j.toNat:=by
   have:=(cW.1 h1).1;simpa [k7] using this
  have:(k7 j.toNat)[i]?=aa (V.int i):=by simp[k7,hi]
  rw[this] at h1;cases h1;exact⟨t',by simp⟩
 exact⟨.ref s.heap.objs.size,_,I.laid hk (bI _) (show Acz X.prog X.w _ h' _ (.lst (k7 j.toNat)) from⟨by simp[k7,zG];lia,de.toList,c',hv,by simpa using hS⟩),rfl,q _ I.fresh⟩
theorem Qw(n:Nat):Aao K H (upTo n) (k7 n):=by
 unfold upTo k7;generalize cP n=l;induction l with
 |nil=>exact Aal.2 rfl
 |cons a l ih=>exact Aag.2 ⟨_,_,rfl,Aai.2 rfl,ih⟩
def sN:List aA->Option aA
 |[.int j]=>if -4096<=j/\j<=4096 then aa (.list (upTo j.toNat)) else ab
 |_=>ab
theorem BS{fe:EF}{sh jh:bL}(hc:X.calm=af)(g1:Gl X "list")(m1:X.mg "list" = ab)(g2:Gl X "range")(m2:X.mg "range" = ab)(he:DE X e fe)
  (oh:cA [Expr.Call (.Name "range" p2) [e] [] jh] X.env=[(ag,bW (Expr.Call (.Name "range" p2) [e] [] jh) X.env)]:=by rfl) (gn:cA [e] X.env=[(ag,bW e X.env)]:=by rfl) :
  DF 1 X (.Call (.Name "list" p1) [.Call (.Name "range" p2) [e] [] jh] [] sh) (aJ sN (aC fe aG)):=by
 have h1:PE X (.Call (.Name "range" p2) [e] [] jh) _:=JV Qz g2 m2 rfl (eZ he iH gn) nofun nofun gn rfl
 have h2:PE X (.Call (.Name "list" p1) [.Call (.Name "range" p2) [e] [] jh] [] sh) _:=JV (Sj hc) g1 m1 rfl (eZ h1 iH oh) nofun nofun oh rfl
 refine PE.imp h2 λZ H Q gh=>?_
 rw[4];obtain⟨ju,e0,ef⟩:=aj ef;obtain⟨d1,e1,e0⟩:=aj e0;have e0:[d1]=ju:=by simpa [aG] using e0
 subst e0;cases d1 with
 |int j=>
  obtain⟨hl,rfl⟩:=cR (show(if -4096<=j/\j<=4096 then aa (vX (upTo j.toNat)) else ab)=aa d from ef)
  refine⟨P,Y,.int j,hP,rs,e1,dJ λv H1 x1 r1=>?_⟩
  obtain rfl:=Aai.1 r1;refine⟨j,rfl,λa hn=>⟨a,j,rfl,eI,hl.1,hl.2,λl v4=>?_⟩⟩
  have x2:Ext H (upd H1 a (.rng 0 j)):=x1.trans (Ext.new hn);exact(k.mono x2).lst (hP.ext x2) v4 (Qw _)
 |_=>cases ef
theorem Cr {P:bP}{k:aH}(h:(fG P w).is k u=af):RelV (kV k) u:=by
 rcases mM h with⟨i,tk,e1,e2⟩|⟨x,tk,e1,e2⟩
 .rw[e1,e2];exact⟨tk,rfl⟩
 .rw[e1,e2];exact⟨tk,rfl⟩
theorem GK:∀ {kvs:List (aH×V)} {vs:List (aH×aF)} {i:Nat} {kv:aH×V},KV kvs vs->kvs[i]?=aa kv->∃ u,vs[i]?=aa u/\kv.1=u.1/\RelV kv.2 u.2
 |_,_,0,_,.cons h _,e=>by
  cases e;exact⟨_,rfl,h.1,h.2⟩
 |_,_,i+1,_,.cons _ t,e=>by
  obtain⟨u,g⟩:=GK t (by simpa using e)
  exact⟨u,by simpa using g⟩
def FE (a:aD)(ep n:Nat):It:=
 ⟨λi H=>∃ kvs kv,H a=aa (.dK ep kvs)/\kvs.length=n/\kvs[i]?=aa kv,λi H x H'=>H'=H/\∀ kvs,H a=aa (.dK ep kvs)->∃ kv,kvs[i]?=aa kv/\x=kV kv.1,λi H=>∃ kvs,H a=aa (.dK ep kvs)/\kvs.length=n/\n<=i⟩
theorem Rj {P:bP}(a it:aD)(ep n:Nat):Turn P w K tg (FE a ep n) [it] it (λi h=>h.IsKeyIter it a i n ep) where
 mem:=cM.2 rfl
 obj:=λi h ⟨o,e,_,d⟩ b hb=>by
  rw[cM.1 hb];exact⟨o,e,λv z=>by rw[d] at z;cases z⟩
 keep:=λi h h' st k=>st.at λo e=>k it (cM.2 rfl) o e
 item:=by
  rw[2];obtain⟨kvs,kv,ha,hn,hk⟩:=hg;subst hn;obtain⟨z,nm,vs,r,d⟩:=sC I.hok (.inl ha);have hl:kvs.length=vs.length:=r.length;obtain⟨u,hu,r1,r2⟩:=GK r hk;obtain⟨uk,uv⟩:=u;rw[hl] at st;refine wpAny_pyNext_dict_item st d hu λkey h' ib gg sb=>?_
  have I1:Inv X ad Z H { s with heap:=h' }:=I.turnM (t':=s.toks) hf λb o nb e=>sb.extBut b o (λq=>nb (cM.2 q)) e
  obtain⟨o,e,c,dd⟩:=id gg;have ou:kv.1=uk:=r1;refine⟨key,rfl,yW (s:={ s with heap:=h' }) e c dd nofun ⟨kV kv.1,H,I1,by rw[ou];exact Cr ib,⟨rfl,λwo h2=>?_⟩,by rw[hl];exact gg,λb hb=>(hf b hb).1⟩⟩
  rw[ha] at h2;cases h2;exact⟨kv,hk,rfl⟩
 done:=by
  rw[2];obtain⟨kvs,ha,hn,hi⟩:=hg;subst hn;obtain⟨z,nm,vs,r,d⟩:=sC I.hok (.inl ha);have hl:kvs.length=vs.length:=r.length;rw[hl] at st;exact wpAny_pyNext_dict_end (I.ok.hd hc) st d (by simp;lia) λh' eb=>⟨rfl,I.turnM (t':=s.toks) hf λb o nb e=>eb b o (λq=>nb (cM.2 q)) e⟩
 self:=λ_ _ _ _ _ st h=>wpAny_pyIter_keyiter st h
section
variable {l:aR}
def Gc (tl:TE):TI:=λZ H R=>tl Z H λx H1=>∃ a ep kvs,x=.ref a/\H1 a=aa (.dK ep kvs)/\R (FE a ep kvs.length) H1
theorem Nw {tl:TE}(hl:PE X l tl):PI X tg l (Gc tl):=by
 intro ad s Z H R I h;refine bf (hl ad s Z H _ I h) λv s1 gh=>?_
 obtain⟨x,H1,I1,r1,q1⟩:=gh;obtain⟨a,ep,kvs,rfl,ha,q⟩:=q1;cases r1;obtain⟨z,nm,vs,r,d⟩:=sC I1.hok (.inl ha);have hn:=r.length;refine wpAny_pyIter_dict nm d ?_;refine⟨s1.heap.objs.size,[s1.heap.objs.size],_,_,H1,rfl,I1.kept λb o e=>cD _ e,Rj a _ ep kvs.length,⟨_,dM _ rfl,rfl,by rw[hn];rfl⟩,λb hb=>?_,q⟩
 rw[cM.1 hb];exact I1.fpOk (bI _) (I1.hok.fresh (bI _))
def u5 (f:EF):AF:=λY=>(f Y).bind λd=>match d with
 |.dict kds=>if (cz kds&&kds.all λkd=>cI kd.1)=af then aa (kds.map (·.1)) else ab
 |_=>ab
theorem JF:∀ {kds:List (aA×aA)} {kvs:List (aH×V)} {i:Nat} {kd:aA×aA},Abu K H kds kvs->kds[i]?=aa kd->∃ kv,kvs[i]?=aa kv/\kd.1=kD kv.1/\Abr K H kd.2 kv.2
 |(k,d)::ds,kvs,0,kd,r,e=>by
  obtain⟨k',y,t,rfl,ek,h1,h2⟩:=Aa7.1 r;cases e;exact⟨(k',y),rfl,ek,h1⟩
 |(k,d)::ds,kvs,i+1,kd,r,e=>by
  obtain⟨k',y,t,rfl,ek,h1,h2⟩:=Aa7.1 r;obtain⟨kv,g1,g2⟩:=JF h2 (by simpa using e)
  exact⟨kv,by simpa using g1,g2⟩
theorem Cp{k:aH}(h:cI (kD k)=af):Abr K H (kD k) (kV k):=by
 cases k with
 |inl i=>exact Aai.2 rfl
 |inr x=>exact Aa6.2 ⟨rfl,h⟩
theorem Xq{B:Hp}(h:B a=aa (.dK ep kvs))(r:Abu K B kds kvs)(hl:(kds.all λkd=>cI kd.1)=af):jw K B (FE a ep kvs.length) (kds.map (·.1)):=λi H2 x2=>by
 have h2:=x2 _ _ h;refine⟨λd hd=>?_,λe=>⟨kvs,h2,rfl,by rw[<-e,bR,r.length];exact bI _⟩⟩
 rw[fN] at hd;obtain⟨kd,hk,rfl⟩:=jR.1 hd;obtain⟨kv,g1,g2,g3⟩:=JF r hk;refine⟨⟨kvs,kv,h2,rfl,g1⟩,?_⟩;rintro x H3 ⟨rfl,hx⟩;obtain⟨kx,q1,rfl⟩:=hx kvs h2;have:=gQ (q1.symm.trans g1);rw[10];refine⟨Ext.refl,λP2 _ xb=>?_⟩
 rw[g2];have:=gD.1 hl kd (eX hk);exact Cp (by rw[<-g2];exact this)
theorem Oe(h:DE X e f):DI X tg e (u5 f):=PI.imp (Nw h) λZ H R gh=>by
 obtain⟨P,Y,ds,hP,rs,ef,k⟩:=gh;obtain⟨d,e1,ef⟩:=aj ef;cases d with
 |dict kds=>
  obtain⟨hl,rfl⟩:=cR ef;refine⟨P,Y,_,hP,rs,e1,dJ λv H1 x1 r1=>?_⟩
  obtain⟨pk,hl⟩:=gE.1 hl;obtain⟨a,kvs,rfl,hq,rr⟩:=(nW pk).1 r1;exact⟨a,kvs.1,kvs.2,rfl,Aaq _ _ hq,k _ H1 x1 (Xq hq rr hl)⟩
 |_=>cases ef
end
theorem CT:entryFor table "dict.update.loop" = aa Builtin.«dict.update.loop»:=entryFor_of_tree (by kernel_rfl)
theorem tH:plainId "dict.update.loop" = af:=by rw[0]
theorem Uh:typeLookup (.type "list") "keys" = pure ab:=by rw[typeLookup_type,builtinLookup_eq_fast];kernel_rfl
set_option maxHeartbeats 4000000 in
theorem Qb{xs:Array aF}{k:Nat}{Q:Option aF->aI->Prop}(hx:s.heap.get? a=aa { cls:=.type "list",dict:=ab,data:=.seq xs k,slots:=sl })(hA:A.handled=ab)
  (h:∀ h' tk,(∀ b o,s.heap.get? b=aa o->h'.get? b=aa o)->Q ab { s with heap:=h',toks:=tk }):aW (aY prog w) A (getAttr? (.ref a) "keys") Q E s:=by
 obtain⟨hp,g,d,tk,os⟩:=s;have hT:∀ uw,(⟨hp,g,d,uw,os⟩:aI).TypeIs (.ref a) "list":=λ_=>⟨_,hx,rfl⟩
 have f1:=sub_AttributeError;have f3:=Es.lookup;have f4:=Es.bind (.ref a);have f5:=am_list_getattr_none;unfold getAttr? getAttrBy? getAttrBy
 repeat (any_goals (first|assumption|exact hT _|((with_reducible show aW _ _ (call (Value.builtin "list.__getattribute__") _ _) _ _ _);refine zJ Es (hT _) am_entry_list_getattribute (F.args_list_getattribute_2 _ _) (meets_getattribute_miss_list a xs k sl _ _ Uh (by rw[0])) ⟨hx,hA,λh' uw e ym=>?_⟩)|wp_step))
 obtain⟨t',u',he⟩:=ym.there;unfold getattributeRaised
 repeat (any_goals (first|assumption|wp_step))
 exact h _ _ ym.keeps
def Aom (h:aU)(D:aD)(wr:List aD)(ai:Array aF)(kvs:List (aH×aF)):Prop:=
 ∀ (j:Nat) v,ai[j]?=aa v->∃ b kv p,v=.ref b/\kvs[j]?=aa p/\h.IsTuple b #[kv,p.2]/\(fG prog w).is p.1 kv=af/\b≠D/\b∉wr
theorem Aom.keep{kvs:List (aH×aF)}(q:Aom (prog:=prog) (w:=w) h D wr ai kvs)(k:∀ b o,b≠D->b∉wr->h.get? b=aa o->h'.get? b=aa o):Aom (prog:=prog) (w:=w) h' D wr ai kvs:=λj v e=>by
 obtain⟨b,kv,p,rfl,e1,⟨o,e2,e3⟩,e4,e5,e6⟩:=q j v e;exact⟨b,kv,p,rfl,e1,⟨o,k b o e5 e6 e2,e3⟩,e4,e5,e6⟩
theorem XD:∀ (more kvs:List (aH×aF)),(oJ kvs more).length<=kvs.length+more.length
 |[],kvs=>bI _
 |p::r,kvs=>by
  have h1:=XD r (tP kvs p.1 p.2);have h2:(tP kvs p.1 p.2).length<=kvs.length+1:=by
   unfold tP;split<;>simp
  show(oJ (tP kvs p.1 p.2) r).length<=_;rw[fU]
  lia
theorem Qm{I:aD}{fp:List aD}{G:Array zW->Array zW->Prop}{St:Nat->aI->Prop}
  (W:WalksS prog w A.in1 I fp wr G n (λi v=>ai[i]?=aa v) St) (D:aD) (sj:D∉fp) (kvs:List (aH×aF)) (hn:n<=sizeLine) (f7:kvs.length=n) :
  ∀ (k i:Nat) (s:aI),n-i=k->i<=n->St i s->s.heap.DictOf (fG prog w) D (oJ [] (kvs.take i))->Aom (prog:=prog) (w:=w) s.heap D wr ai kvs ->
   (∀ s',Moved (D::wr) G s s'->s'.heap.DictOf (fG prog w) D (oJ [] kvs)->R (.ok (.ret .none)) s') ->
   oK (aY prog w) A (.builtin "dict.update.loop" ⟨[.ref D,.ref I,jP (i:Int),.none],[]⟩) R s:=by
 have sk:D∉wr:=λz=>sj (W.sub _ z)
 have more:∀ b∈wr,b∈D::wr:=λb z=>bN _ z
 intro k;induction k with
 |zero=>
  intro i s hk hi gw hS hT hR;obtain rfl:i=n:=()
  refine zI CT ?_;rw[AA tH _];refine aK (W.done s _ _ gw λs' hm=>?_)
  refine aK (aZ (aZ (hR s' (hm.mono more) ?_)));obtain⟨o,es,ep,ho,r⟩:=hS;rw[<-f7,rE] at r;exact⟨o,es,ep,hm.heap D o sk ho,r⟩
 |succ k ih=>
  intro i s hk hi gw hS hT hR;have cr:i<n:=()
  refine zI CT ?_;rw[AA tH _];refine aK (W.item i s _ _ cr gw λv s' wp ox hm=>?_)
  have oy:=hT.keep λb o _ h2 e=>hm.heap b o h2 e
  obtain⟨b,kv,p,rfl,e1,tb,e4,e5,e6⟩:=oy i v wp;have om:s'.heap.DictOf (fG prog w) D (oJ [] (kvs.take i)):=by
   obtain⟨o,es,ep,ho,r⟩:=hS;exact⟨o,es,ep,hm.heap D o sk ho,r⟩
  have ke:oJ [] (kvs.take (i+1))=tP (oJ [] (kvs.take i)) p.1 p.2:=by
   rw[NC,e1];simp[oJ,NI]
  have bj:(oJ [] (kvs.take i)).length<=sizeLine:=by
   have:=XD (kvs.take i) []
   grind
  refine aK (iA (aK (wpAny_tryCatch ?_)));unfold Builtin.Dict.pairItems;refine aK (tN tb.typeIs ?_);obtain⟨ob,g1,g2,nb,g3⟩:=tb;refine aK (mS g1 g3 (aZ ?_));refine iA (wpAny_dictSet_pairs e4 om (λh' d' sb=>?_) bj)
  refine aZ ⟨zH tH _,?_⟩;refine ih (i+1) _ () cr (W.frame _ s' _ _ ox (zP _) λc hc o e=>?_) (by rw[ke];exact d') (oy.keep λb o h1 _ e=>(sb.2 b h1).trans e) λn9 oz S4=>?_
  .exact(sb.2 c (λz=>sj (z ▸ hc))).trans e
  .exact hR n9 (Moved.trans W.gtrans ((hm.mono more).then_heap (zP _) λc o hc e=>(sb.2 c (λz=>hc (z ▸ bO))).trans e) oz) S4
theorem XJ{N:aU->Prop}(hh:A.handled=ab)(hl:s.heap.get? l=aa { cls:=.type "list",dict:=ab,data:=.seq ai nl,slots:=sl })
  (hp:∀ (A':cE) (R:Result->aI->Prop) (I:aD) (s1:aI),A'.units<=A.units+50->WalksS prog w A'.in1 I [I,l] [I] (λa b=>b=a) ai.size (λi v=>ai[i]?=aa v) (λi s=>s.heap.IsListIter I l i/\s.heap.IsList l ai)->s.heap.objs.size∉[I,l]->s.heap.objs.size<I->s1.heap.IsListIter I l 0/\s1.heap.IsList l ai ->
   (∀ b o,(s.heap.push { cls:=.type "dict",data:=.dict #[] }).get? b=aa o->s1.heap.get? b=aa o)->(∀ s',Moved [s.heap.objs.size,I] (λa b=>b=a) s1 s'->N s'.heap->R (.ok (.ret .none)) s')->oK (aY prog w) A' (.builtin "dict.update.loop" ⟨[.ref s.heap.objs.size,.ref I,jP ((0:Nat):Int),.none],[]⟩) R s1)
  (h:∀ h' tk,N h'->(∀ b o,s.heap.get? b=aa o->h'.get? b=aa o)->Q (.ref s.heap.objs.size) { s with heap:=h',toks:=tk }) :
  aW (aY prog w) A (call (.type "dict") [.ref l]) Q E s:=by
 refine callType_codes (Q₁:=λobj s₁=>obj=.ref s.heap.objs.size/\s₁={ s with heap:=s.heap.push { cls:=.type "dict",data:=.dict #[] } }) F.kt_called_dict (F.kt_typeCall_dict_1 _) F.entry_dict_init (kt_code_dict_new _ ⟨rfl,rfl⟩) ?_
 rintro obj s₁ ⟨rfl,rfl⟩;have ds:(s.heap.push { cls:=.type "dict",data:=.dict #[] }).get? s.heap.objs.size=aa { cls:=.type "dict",data:=.dict #[] }:=dM _ rfl;have dn:Shared.TypeIs { s with heap:=(s.heap.push { cls:=.type "dict",data:=.dict #[] }) } (.ref s.heap.objs.size) "dict":=⟨_,ds,rfl⟩;have l1:(s.heap.push { cls:=.type "dict",data:=.dict #[] }).get? l=aa { cls:=.type "list",dict:=ab,data:=.seq ai nl,slots:=sl }:=cD _ hl;refine⟨dn,F.args_dict_init_2 _ _,?_⟩;unfold Builtin.«dict.__init__»;refine aK ?_;unfold Builtin.Dict.selfAndRest;refine aK (wpAny_notOrdered_dict dn (aZ ?_));show aW _ _ (Builtin.Dict.updateFrom "dict.__init__" s.heap.objs.size (.ref l) [] .none) _ _ _;unfold Builtin.Dict.updateFrom;refine aK (tN (T:="list") ⟨_,l1,rfl⟩ ?_);rw[if_pos nofun]
 refine aK (Qb l1 (by simp[hh]) λh1 tk k1=>?_)
 show aW _ _ (rule _>>=λ_=>tQ (.ref l)>>=_) _ _ _
 have l2:h1.get? l=aa { cls:=.type "list",dict:=ab,data:=.seq ai nl,slots:=sl }:=k1 _ _ l1;have L2:h1.IsList l ai:=⟨_,l2,rfl,nl,rfl⟩;refine aK (vM (aK (zF L2 (aZ ⟨zH tH _,?_⟩))));have lS:l<s.heap.objs.size:=bZ hl;have sD:s.heap.objs.size<h1.objs.size:=bZ (k1 _ _ ds);have nI:l≠h1.objs.size:=eD (Nat.lt_trans lS sD);have nS:s.heap.objs.size∉[h1.objs.size,l]:=λz=>by
  grind
 refine hp _ _ _ _ (by simp<;>lia) ((Walks.list (by simp[hh]) _ l nI ai).toS) nS sD ⟨⟨_,dM _ rfl,rfl,rfl⟩,L2.push _⟩ (λb o e=>cD _ (k1 _ _ e)) λs' hm S'=>?_
 obtain⟨h',g',d',uw,vk⟩:=s';obtain rfl:g'=s.gens:=hm.gens;obtain rfl:d'=s.drawn:=hm.drawn;obtain rfl:vk=s.os:=hm.os;refine⟨rfl,h h' uw S' λb o e=>?_⟩
 have lb:b<s.heap.objs.size:=bZ e;refine hm.heap b o (λz=>?_) (cD _ (k1 _ _ (cD _ e)))
 rcases cZ.1 z with z|z
 .exact absurd z (eD lb)
 .grind
theorem So{kvs:List (aH×aF)}(hh:A.handled=ab)(hl:s.heap.get? l=aa { cls:=.type "list",dict:=ab,data:=.seq ai nl,slots:=sl })
  (f7:kvs.length=ai.size) (hz:ai.size<=sizeLine) (hp:∀ (j:Nat) v,ai[j]?=aa v->∃ b kv p,v=.ref b/\kvs[j]?=aa p/\s.heap.IsTuple b #[kv,p.2]/\(fG prog w).is p.1 kv=af)
  (h:∀ h' tk,h'.DictOf (fG prog w) s.heap.objs.size (oJ [] kvs)->(∀ b o,s.heap.get? b=aa o->h'.get? b=aa o)->Q (.ref s.heap.objs.size) { s with heap:=h',toks:=tk }) :
  aW (aY prog w) A (call (.type "dict") [.ref l]) Q E s:=by
 refine XJ hh hl (λA' R I s1 _ W nS sD st kp q=>Qm W s.heap.objs.size nS kvs hz f7 (ai.size-0) 0 _ rfl (eB _) st ?_ (λj v e=>?_) q) h
 .obtain⟨o,es,ep,ho,r⟩:=(Heap.DictOf.new s.heap:(s.heap.push { cls:=.type "dict",data:=.dict #[] }).DictOf (fG prog w) s.heap.objs.size []);exact⟨o,es,ep,kp _ _ ho,r⟩
 .obtain⟨b,kv,p,rfl,e1,⟨o,e2,e3⟩,e4⟩:=hp j v e;have lb:=bZ e2;exact⟨b,kv,p,rfl,e1,⟨o,kp b o (cD _ e2),e3⟩,e4,eD lb,λz=>absurd (cM.1 z) (eD (Nat.lt_trans lb sD))⟩
theorem Bv {α β:Type}{R R':α->β->Prop}(f:∀ a b,R a b->R' a b):∀ {as:List α} {bs:List β},eW R as bs->eW R' as bs:=by
 intro as bs h;induction h with
 |nil=>exact .nil
 |cons h _ ih=>exact .cons (f _ _ h) ih
abbrev LL (K:aM)(H:Hp)(ys:List V)(ps:List (aH×V)):Prop:=eW (λy (p:aH×V)=>∃ b,y=V.ref b/\SqT K H b [kV p.1,p.2]) ys ps
theorem Xx{Z:St}(I:Inv X ad Z H s):∀ {ys:List V} {ps:List (aH×V)} {its:List aF},LL X.K H ys ps->Vals ys its ->
  ∃ kvs:List (aH×aF),KV ps kvs/\kvs.length=its.length/\∀ (j:Nat) v,its[j]?=aa v->∃ b kv p,v=.ref b/\kvs[j]?=aa p/\s.heap.IsTuple b #[kv,p.2]/\(fG X.prog X.w).is p.1 kv=af:=by
 intro ys ps its hp;induction hp generalizing its with
 |nil=>
  intro r;cases r;exact⟨[],.nil,rfl,λj v e=>by simp at e⟩
 |@cons y p ys ps hq t ih=>
  intro r;obtain⟨b,e,q⟩:=hq;subst e;cases r with
  |cons r rr=>
   cases r;obtain⟨kvs,h1,h2,h3⟩:=ih rr;obtain⟨us,rv,tb,_⟩:=I.tuple q;cases rv with
   |cons ra rb=>
    cases rb with
    |cons rb rc=>
     cases rc;refine⟨(p.1,_)::kvs,.cons ⟨rfl,rb⟩ h1,by simp[h2],λj v e=>?_⟩
     cases j with
     |zero=>
      cases e;exact⟨b,_,(p.1,_),rfl,rfl,tb,sF ra⟩
     |succ j=>exact h3 j v (by simpa using e)
theorem KW (hc:X.calm=af):Adc X (.type "dict") (λxs H Q=>∃ p ys ps,xs=[.ref p]/\SqL X.K H p ys/\LL X.K H ys ps/\∀ q n,H q=ab->Q (.ref q) (upd H q (.dK n (nM [] ps)))):=by
 rw[5];obtain⟨p,ys,ps,rfl,hp,hv,q⟩:=h;obtain⟨u,rfl,ru⟩:=vals1 r;cases ru;obtain⟨its,rv,⟨o,n,ho,ld,ix,sn⟩,hz⟩:=I.list hp;obtain⟨kvs,h1,h2,h3⟩:=Xx I hv rv;have e1:=rv.length;obtain⟨c,A6,A7,sl⟩:=o;simp only at ld ix sn;subst ld ix sn;refine So (I.ok.hd hc) ho (by rw[dX];exact h2) (by rw[dX];lia) (λj v e=>h3 j v (by simpa using e)) λh' tk dd hk=>?_
 obtain⟨m,da⟩:=dd.dictAt;have lz:(nM [] ps).length<=sizeLine:=by
  have l1:=LD ps [];have l2:=oR h1;simp at l1
  lia
 exact⟨.ref s.heap.objs.size,_,I.laid hk (bI _) (xD lz (beq_eq_false_iff_ne.2 (kF (eD I.big))) (h1.merge .nil) da),rfl,q _ m I.fresh⟩
def oD:List aA->Option (List (aH×aA))
 |[]=>aa []
 |.tuple [k,d]::r=>(bM k).bind λk=>(oD r).bind λps=>aa ((k,d)::ps)
 |_::_=>ab
def jD (ps:List (aH×aA))(kds:List (aA×aA)):List (aA×aA):=ps.foldl (λar p=>putD ar p.1 p.2) kds
def qL:List aA->Option aA
 |[.list ds]=>(oD ds).bind λps=>aa (.dict (jD ps []))
 |_=>ab
theorem VB:∀ {ps:List (aH×aA)} {qs:List (aH×V)},eW (λ(p:aH×aA) (q:aH×V)=>p.1=q.1/\Abr K H p.2 q.2) ps qs->∀ {kds:List (aA×aA)} {kvs:List (aH×V)},Abu K H kds kvs->Abu K H (jD ps kds) (nM kvs qs):=by
 intro ps qs hp;induction hp with
 |nil=>exact λr=>r
 |@cons p q ps qs hq t ih=>
  intro kds kvs r;have:=ih (xQ (k:=p.1) r hq.2);show Abu K H (jD _ (putD kds p.1 p.2)) (nM (putK kvs q.1 q.2) _);rw[<-hq.1];exact this
theorem Vo:∀ {ds:List aA} {ps:List (aH×aA)} {ys:List V},oD ds=aa ps->Aao K H ds ys->∃ qs:List (aH×V),eW (λ(y:V) (q:aH×V)=>∃ b,y=V.ref b/\H b=aa (.tup [kV q.1,q.2])) ys qs/\eW (λ(p:aH×aA) (q:aH×V)=>p.1=q.1/\Abr K H p.2 q.2) ps qs:=by
 intro ds;induction ds with
 |nil=>
  intro ps ys e r;cases e;rw[Aal.1 r];exact⟨[],.nil,.nil⟩
 |cons z ds ih=>
  intro ps ys e r;cases z with
  |tuple zs=>
   cases zs with
   |nil=>cases e
   |cons k zs=>
    cases zs with
    |nil=>cases e
    |cons d zs=>
     cases zs with
     |cons _ _=>cases e
     |nil=>
      obtain⟨key,e1,e⟩:=aj (show((bM k).bind λk=>(oD ds).bind λps=>aa ((k,d)::ps))=aa ps from e)
      obtain⟨yn,e2,e⟩:=aj e;cases e;obtain⟨v,t,rfl,r1,r2⟩:=Aag.1 r;obtain⟨qs,h1,h2⟩:=ih e2 r2;obtain⟨b,xs,rfl,hb,rx⟩:=Aau.1 r1;obtain⟨u1,t1,rfl,a1,a2⟩:=Aag.1 rx;obtain⟨u2,rfl,a3⟩:=fQ a2;rw[kB e1 a1] at hb;exact⟨(key,u2)::qs,.cons ⟨b,rfl,hb⟩ h1,.cons ⟨rfl,a3⟩ h2⟩
  |_=>cases e
theorem KZ:CallD K 1 (λxs H Q=>∃ p ys ps,xs=[.ref p]/\SqL K H p ys/\LL K H ys ps/\∀ q n,H q=ab->Q (.ref q) (upd H q (.dK n (nM [] ps)))) qL:=λP H xs ds d Q hP r e k=>by
 unfold qL at e;split at e
 .obtain⟨ps,e1,e2⟩:=aj e;cases e2;rw[8];obtain⟨q,ys,rfl,hq,rr⟩:=Abe.1 r';obtain⟨qs,h1,h2⟩:=Vo e1 rr;refine⟨q,ys,qs,rfl,Aaq.sqL hq,?_,λl n hn=>k.dic hP hn (VB h2 (Abq.2 rfl))⟩
  exact Bv (λy p ⟨b,e,hb⟩=>⟨b,e,SqT.of (Aaq _ _ hb)⟩) h1
 .cases e
abbrev ig:=List aA×aD×aF
def jY (xs more:List ig):List ig:=more.foldl (λar p=>pU ar p.1 p.2.1 p.2.2) xs
theorem Ti {xs:List ig}{k:List aA}{v:aF}{x:ig}(m:x∈pU xs k a v):(x.1=k/\x.2.1=a)\/∃ y∈xs,x.1=y.1/\x.2.1=y.2.1:=by
 cases e:oM xs k with
 |none=>
  rw[storedH_new e] at m
  grind
 |some p=>
  rw[storedH_old e] at m;obtain⟨y,my,rfl⟩:=bU.1 m;refine .inr ⟨y,my,?_⟩;unfold putAt
  grind
theorem Tt (xs:List ig)(k:List aA)(a:aD)(v:aF):(pU xs k a v).length<=xs.length+1:=by
 cases e:oM xs k with
 |none=>rw[storedH_new e];simp
 |some p=>rw[storedH_old e];simp
theorem YM:∀ (more:List ig) {xs:List ig} {x:ig},x∈jY xs more->(∃ p∈more,x.1=p.1/\x.2.1=p.2.1)\/∃ y∈xs,x.1=y.1/\x.2.1=y.2.1
 |[],xs,x,m=>.inr ⟨x,m,rfl,rfl⟩
 |p::r,xs,x,m=>by
  rcases YM r (show x∈jY (pU xs p.1 p.2.1 p.2.2) r from m) with⟨q,mq,e⟩|⟨y,my,e1,e2⟩
  .grind
  .rcases Ti my with⟨a1,a2⟩|⟨z,mz,a1,a2⟩
   all_goals grind
theorem YD:∀ (more xs:List ig),(jY xs more).length<=xs.length+more.length
 |[],xs=>bI _
 |p::r,xs=>by
  have h1:=YD r (pU xs p.1 p.2.1 p.2.2);have h2:=Tt xs p.1 p.2.1 p.2.2;show(jY (pU xs p.1 p.2.1 p.2.2) r).length<=_;rw[fU]
  lia
theorem WJ {h0:aU}{xs:List ig}(e:∀ o,h.get? D=aa o->h'.get? D=aa o)(hs:∀ x∈xs,Afb h0 x.1 x.2.1)(hk:∀ b o,h0.get? b=aa o->h'.get? b=aa o)(d:h.DictOfH (kW prog w) D xs):h'.DictOfH (kW prog w) D xs:=by
 obtain⟨o,es,ep,ho,h1,h2,h3,_,h5⟩:=d;exact⟨o,es,ep,e o ho,h1,h2,h3,λx hx=>(hs x hx).keep λb o _ _ e _ _=>hk b o e,h5⟩
theorem Rq{I:aD}{fp:List aD}{G:Array zW->Array zW->Prop}{St:Nat->aI->Prop}
  (W:WalksS prog w A.in1 I fp wr G n (λi v=>ai[i]?=aa v) St) (D:aD) (sj:D∉fp) (kvs:List ig) (hn:n<=sizeLine) (f7:kvs.length=n) (hu:A.units+40<cLine) {h0:aU} (A8:h0.get? D=ab) (A9:∀ b∈wr,h0.get? b=ab)
  (hp:∀ (j:Nat) v,ai[j]?=aa v->∃ b p,v=.ref b/\kvs[j]?=aa p/\h0.IsTuple b #[.ref p.2.1,p.2.2]) (wq:∀ p∈kvs,Afb h0 p.1 p.2.1) :
  ∀ (k i:Nat) (s:aI),n-i=k->i<=n->St i s->s.heap.DictOfH (kW prog w) D (jY [] (kvs.take i))->(∀ b o,h0.get? b=aa o->s.heap.get? b=aa o) ->
   (∀ s',Moved (D::wr) G s s'->s'.heap.DictOfH (kW prog w) D (jY [] kvs)->R (.ok (.ret .none)) s') ->
   oK (aY prog w) A (.builtin "dict.update.loop" ⟨[.ref D,.ref I,jP (i:Int),.none],[]⟩) R s:=by
 have sk:D∉wr:=λz=>sj (W.sub _ z)
 have more:∀ b∈wr,b∈D::wr:=λb z=>bN _ z
 have nw:∀ b o,h0.get? b=aa o->b∉wr:=λb o e z=>by rw[A9 b z] at e;cases e
 have nD:∀ b o,h0.get? b=aa o->b≠D:=λb o e z=>by rw[z,A8] at e;cases e
 have kin:∀ i,∀ x∈jY [] (kvs.take i),Afb h0 x.1 x.2.1:=λi x m=>by
  rcases YM _ m with⟨p,mp,e1,e2⟩|⟨y,my,_⟩
  all_goals grind
 intro k;induction k with
 |zero=>
  intro i s hk hi gw hS hT hR;obtain rfl:i=n:=()
  refine zI CT ?_;rw[AA tH _];refine aK (W.done s _ _ gw λs' hm=>?_)
  refine aK (aZ (aZ (hR s' (hm.mono more) ?_)));have:=WJ (λo e=>hm.heap D o sk e) (kin i) (λb o e=>hm.heap b o (nw b o e) (hT b o e)) hS
  grind
 |succ k ih=>
  intro i s hk hi gw hS hT hR;have cr:i<n:=()
  refine zI CT ?_;rw[AA tH _];refine aK (W.item i s _ _ cr gw λv s' wp ox hm=>?_)
  have oy:∀ b o,h0.get? b=aa o->s'.heap.get? b=aa o:=λb o e=>hm.heap b o (nw b o e) (hT b o e)
  obtain⟨b,p,rfl,e1,BT⟩:=hp i v wp;have tb:s'.heap.IsTuple b #[.ref p.2.1,p.2.2]:=by
   obtain⟨o,a1,a2⟩:=BT;exact⟨o,oy b o a1,a2⟩
  have mp:=eX e1;have om:=WJ (λo e=>hm.heap D o sk e) (kin i) oy hS
  have ke:jY [] (kvs.take (i+1))=pU (jY [] (kvs.take i)) p.1 p.2.1 p.2.2:=by
   rw[NC,e1];simp[jY,NI]
  have bj:(jY [] (kvs.take i)).length<=sizeLine:=by
   have:=YD (kvs.take i) []
   grind
  have ib:=(wq p mp).keep λb o _ _ e _ _=>oy b o e
  refine aK (iA (aK (wpAny_tryCatch ?_)));unfold Builtin.Dict.pairItems;refine aK (tN tb.typeIs ?_);obtain⟨ob,g1,g2,nb,g3⟩:=tb;refine aK (mS g1 g3 (aZ ?_));refine iA (wpAny_dictSet_heap ?_ ib om (λh' d' sb=>?_) bj)
  .show _+20<cLine
   grind
  refine aZ ⟨zH tH _,?_⟩;refine ih (i+1) _ () cr (W.frame _ s' _ _ ox (Nat.le_add_right _ _) λc hc o e=>?_) (by rw[ke];exact d') (λb o e=>(sb.2 b (nD b o e)).trans (oy b o e)) λn9 oz S4=>?_
  .exact(sb.2 c (λz=>sj (z ▸ hc))).trans e
  .exact hR n9 (Moved.trans W.gtrans ((hm.mono more).then_heap (Nat.le_add_right _ _) λc o hc e=>(sb.2 c (λz=>hc (z ▸ bO))).trans e) oz) S4
theorem To{kvs:List ig}(hu:A.units+90<cLine)(hh:A.handled=ab)(hl:s.heap.get? l=aa { cls:=.type "list",dict:=ab,data:=.seq ai nl,slots:=sl })
  (f7:kvs.length=ai.size) (hz:ai.size<=sizeLine) (hp:∀ (j:Nat) v,ai[j]?=aa v->∃ b p,v=.ref b/\kvs[j]?=aa p/\s.heap.IsTuple b #[.ref p.2.1,p.2.2]) (wq:∀ p∈kvs,Afb s.heap p.1 p.2.1)
  (h:∀ h' tk,h'.DictOfH (kW prog w) s.heap.objs.size (jY [] kvs)->(∀ b o,s.heap.get? b=aa o->h'.get? b=aa o)->Q (.ref s.heap.objs.size) { s with heap:=h',toks:=tk }) :
  aW (aY prog w) A (call (.type "dict") [.ref l]) Q E s:=by
 have out:∀ b,s.heap.objs.size<=b->s.heap.get? b=ab:=λb hb=>by
  cases e:s.heap.get? b with
  |none=>rfl
  |some o=>exact absurd (bZ e) (Nat.not_lt.2 hb)
 refine XJ hh hl (λA' R I s1 ha W nS sD st kp q=>Rq W s.heap.objs.size nS kvs hz f7 () (h0:=s.heap) (out _ (bI _)) (λb z=>out b (by
  rw[cM.1 z];exact pY sD)) hp wq (ai.size-0) 0 _ rfl (eB _) st ?_ (λb o e=>kp b o (cD _ e)) q) h
 obtain⟨o,es,ep,ho,a1,a2,a3,_,a5⟩:=(Heap.DictOfH.new s.heap:(s.heap.push { cls:=.type "dict",data:=.dict #[] }).DictOfH (kW prog w) s.heap.objs.size []);exact⟨o,es,ep,kp _ _ ho,a1,a2,a3,λx hx=>absurd hx ND,a5⟩
abbrev FZ (K:aM)(H:Hp)(ys:List V)(ps:List (List aA×V)):Prop:=eW (λy (p:List aA×V)=>∃ b c,y=V.ref b/\SqT K H b [.ref c,p.2]/\Anx H p.1 c) ys ps
def nU (kvs more:List (List aA×V)):List (List aA×V):=more.foldl (λar kv=>putK ar kv.1 kv.2) kvs
theorem ZL:∀ (more kvs:List (List aA×V)),(nU kvs more).length<=kvs.length+more.length
 |[],kvs=>by show kvs.length<=kvs.length+0;lia
 |p::r,kvs=>by
  have h1:=ZL r (putK kvs p.1 p.2);have h2:=yN kvs p.1 p.2;show(nU (putK kvs p.1 p.2) r).length<=_;rw[fU];lia
theorem KT.merge:∀ {more:List (List aA×V)} {rs:List ig} {kvs:List (List aA×V)} {vs:List ig},KT H more rs->KT H kvs vs->KT H (nU kvs more) (jY vs rs):=by
 intro more rs kvs vs r;induction r generalizing kvs vs with
 |nil=>intro q;exact q
 |@cons p q ps qs h t ih=>
  intro z;obtain⟨h1,h2,h3⟩:=h;have:=z.put p.1 h2 h3;show KT H (nU (putK kvs p.1 p.2) ps) (jY (pU vs q.1 q.2.1 q.2.2) qs);rw[<-h1];exact ih this
theorem VJ{Z:St}(I:Inv X ad Z H s):∀ {ys:List V} {ps:List (List aA×V)} {its:List aF},FZ X.K H ys ps->Vals ys its ->
  ∃ kvs:List ig,KT H ps kvs/\kvs.length=its.length/\(∀ (j:Nat) v,its[j]?=aa v->∃ b p,v=.ref b/\kvs[j]?=aa p/\s.heap.IsTuple b #[.ref p.2.1,p.2.2])/\∀ p∈kvs,Afb s.heap p.1 p.2.1
 |_,_,_,.nil,.nil=>⟨[],.nil,rfl,λj v e=>by simp at e,λp m=>by simp at m⟩
 |_,_,_,.cons (b:=p) ⟨b,c,e,q,tk⟩ t,.cons r rr=>by
  subst e;cases r;obtain⟨kvs,h1,h2,h3,h4⟩:=VJ I t rr;obtain⟨us,rv,tb,_⟩:=I.tuple q;cases rv with
  |cons ra rb=>
   cases ra;cases rb with
   |cons rb rc=>
    cases rc;refine⟨(p.1,c,_)::kvs,.cons ⟨rfl,tk,rb⟩ h1,by simp[h2],λj v e=>?_,λz m=>?_⟩
    .cases j with
     |zero=>
      cases e;exact⟨b,(p.1,c,_),rfl,rfl,tb⟩
     |succ j=>exact h3 j v (by simpa using e)
    .rcases cZ.1 m with rfl|m
     .exact key_of I.hok tk
     .exact h4 z m
theorem Ue (hu:X.A.units+100<cLine)(hc:X.calm=af):Adc X (.type "dict") (λxs H Q=>∃ p ys ps,xs=[.ref p]/\SqL X.K H p ys/\FZ X.K H ys ps/\∀ q n,H q=ab->Q (.ref q) (upd H q (.dT n (nU [] ps)))):=by
 rw[5];obtain⟨p,ys,ps,rfl,hp,hv,q⟩:=h;obtain⟨u,rfl,ru⟩:=vals1 r;cases ru;obtain⟨its,rv,⟨o,n,ho,ld,ix,sn⟩,hz⟩:=I.list hp;obtain⟨kvs,h1,h2,h3,h4⟩:=VJ I hv rv;have e1:=rv.length;obtain⟨c,A6,A7,sl⟩:=o;simp only at ld ix sn;subst ld ix sn;refine To () (I.ok.hd hc) ho (by rw[dX];exact h2) (by rw[dX];lia) (λj v e=>h3 j v (by simpa using e)) h4 λh' tk dd hk=>?_
 have lz:(nU [] ps).length<=sizeLine:=by
  have l1:=ZL ps [];have l2:=oR h1;simp at l1
  lia
 obtain⟨qo,es,ep,a1,a2,a3,a4,_,a5⟩:=dd;have fr:=I.hok.fresh (bI _);exact⟨.ref s.heap.objs.size,_,I.laid (o:=.dT ep (nU [] ps)) hk (bI _) ⟨lz,beq_eq_false_iff_ne.2 (kF (eD I.big)),_,(h1.merge .nil).keeps λb zs e=>by rw[cO (kC e fr)];exact e,qo,es,a1,a2,a3,a4,a5⟩,rfl,q _ ep I.fresh⟩
def rT:List aA->Option (List (List aA×aA))
 |[]=>aa []
 |.tuple [.tuple k,d]::r=>if (bY k&&decide (cY k<=6))=af then(rT r).bind λps=>aa ((k,d)::ps) else ab
 |_::_=>ab
def qY (kds:List (aA×aA))(k:List aA)(d:aA):List (aA×aA):=if (Ahz kds k).isSome=af then kds.map λkd=>if bX kd.1 (.tuple k)=af then(kd.1,d) else kd else kds++[(.tuple k,d)]
def lH (ps:List (List aA×aA))(kds:List (aA×aA)):List (aA×aA):=ps.foldl (λar p=>qY ar p.1 p.2) kds
def HB:List aA->Option aA
 |[.list ds]=>(rT ds).bind λps=>aa (.dict ((.none,.none)::lH ps []))
 |_=>ab
theorem JW{k:List aA}(hk:bY k=af)(rv:Abr K H d v):∀ {kds:List (aA×aA)} {kvs:List (List aA×V)},Acj K H kds kvs ->
  Acj K H (kds.map λkd=>if bX kd.1 (.tuple k)=af then(kd.1,d) else kd) (kvs.map λkv=>if kv.1=k then(kv.1,v) else kv)
 |[],kvs,h=>by rw[Adm.1 h];exact Adm.2 rfl
 |(k0,d0)::r,kvs,h=>by
  obtain⟨k',x,rr,rfl,⟨rfl,gf⟩,h1,h2⟩:=Ab6.1 h;have e:bX (.tuple k') (.tuple k)=decide (k'=k):=by rw[Cy,yG _ _ gf hk]
  rw[cT,cT];by_cases q:k'=k
  .rw[if_pos q,if_pos (by rw[e];exact decide_eq_true q)]
   exact Ab6.2 ⟨k',v,_,rfl,⟨rfl,gf⟩,rv,JW hk rv h2⟩
  .rw[if_neg q,if_neg (by rw[e,decide_eq_false q];simp)]
   exact Ab6.2 ⟨k',x,_,rfl,⟨rfl,gf⟩,h1,JW hk rv h2⟩
theorem Acj.snoc{k:List aA}(hk:bY k=af)(rv:Abr K H d v):∀ {kds:List (aA×aA)} {kvs:List (List aA×V)},Acj K H kds kvs->Acj K H (kds++[(.tuple k,d)]) (kvs++[(k,v)])
 |[],kvs,h=>by rw[Adm.1 h];exact Ab6.2 ⟨k,v,[],rfl,⟨rfl,hk⟩,rv,Adm.2 rfl⟩
 |(k0,d0)::r,kvs,h=>by
  obtain⟨k',x,rr,rfl,e,h1,h2⟩:=Ab6.1 h;exact Ab6.2 ⟨k',x,_,rfl,e,h1,Acj.snoc hk rv h2⟩
theorem Ws{k:List aA}{kvs:List (List aA×V)}(hk:bY k=af)(h:Acj K H kds kvs)(rv:Abr K H d v):Acj K H (qY kds k d) (putK kvs k v):=by
 unfold qY putK;rw[vE];rcases KA hk h with⟨n1,n2⟩|⟨d',v',s1,s2,_⟩
 .rw[n1,n2,if_neg (by simp),if_neg (by simp)]
  exact Acj.snoc hk rv h
 .rw[s1,s2,if_pos (show(aa d').isSome=af from rfl),if_pos (show(aa v').isSome=af from rfl)]
  exact JW hk rv h
theorem WX:∀ {ps:List (List aA×aA)} {qs:List (List aA×V)},eW (λ(p:List aA×aA) (q:List aA×V)=>p.1=q.1/\bY p.1=af/\Abr K H p.2 q.2) ps qs->∀ {kds:List (aA×aA)} {kvs:List (List aA×V)},Acj K H kds kvs->Acj K H (lH ps kds) (nU kvs qs)
 |_,_,.nil,_,_,r=>r
 |_,_,.cons (a:=p) (b:=q) ⟨e,hk,h⟩ t,kds,kvs,r=>by
  have:=Ws hk r h;have:=WX t this;show Acj K H (lH _ (qY kds p.1 p.2)) (nU (putK kvs q.1 q.2) _);rw[<-e];exact this
theorem SS:∀ {ds:List aA} {ps:List (List aA×aA)} {ys:List V},rT ds=aa ps->Aao K H ds ys->∃ qs:List (List aA×V),eW (λ(y:V) (q:List aA×V)=>∃ b c,y=V.ref b/\H b=aa (.tup [.ref c,q.2])/\Anx H q.1 c) ys qs/\eW (λ(p:List aA×aA) (q:List aA×V)=>p.1=q.1/\bY p.1=af/\Abr K H p.2 q.2) ps qs
 |[],ps,ys,e,r=>by
  cases e;rw[Aal.1 r];exact⟨[],.nil,.nil⟩
 |d0::ds,ps,ys,e,r=>by
  unfold rT at e;split at e
  .rename_i e0;cases e0
  .rename_i k d r0 e0;cases e0;obtain⟨hc,e⟩:=xN e;have dr:bY k=af/\cY k<=6:=by simpa using hc
   obtain⟨yn,e2,e⟩:=aj e;cases e;obtain⟨v,t,rfl,r1,r2⟩:=Aag.1 r;obtain⟨qs,h1,h2⟩:=SS e2 r2;obtain⟨b,xs,rfl,hb,rx⟩:=Aau.1 r1;obtain⟨u1,t1,rfl,a1,a2⟩:=Aag.1 rx;obtain⟨u2,rfl,a3⟩:=fQ a2;obtain⟨c,zs,rfl,hz,rz⟩:=Aau.1 a1;exact⟨(k,u2)::qs,.cons ⟨b,c,rfl,hb,dr.1,dr.2,zs,hz,Aao.keys k dr.1 rz⟩ h1,.cons ⟨rfl,dr.1,a3⟩ h2⟩
  .cases e
theorem Anx.ext(x:Ext H H'){k:List aA}{c:aD}(t:Anx H k c):Anx H' k c:=t.keep λb xs e=>x _ _ e
theorem Uj:CallD K 0 (λxs H Q=>∃ p ys ps,xs=[.ref p]/\SqL K H p ys/\FZ K H ys ps/\∀ q n,H q=ab->Q (.ref q) (upd H q (.dT n (nU [] ps)))) HB:=λP H xs ds d Q hP r e k=>by
 unfold HB at e;split at e
 .obtain⟨ps,e1,e2⟩:=aj e;cases e2;rw[8];obtain⟨q,ys,rfl,hq,rr⟩:=Abe.1 r';obtain⟨qs,h1,h2⟩:=SS e1 rr;refine⟨q,ys,qs,rfl,Aaq.sqL hq,?_,λl n hn=>?_⟩
  .exact Bv (λy p ⟨b,c,e,hb,tk⟩=>⟨b,c,e,SqT.of (Aaq _ _ hb),tk.ext Aaq⟩) h1
  .refine k.zero (Ext.new hn) ((JS).2 ⟨l,(n,_),rfl,fL (hP.new hn) eI,?_⟩);refine Acj.ext (λb o e=>?_) (WX h2 (Adm.2 rfl))
   obtain⟨nb,e⟩:=Ab3.1 e;exact fL nb (Ext.new hn _ _ e)
 .cases e
def keyed (kds:List (aA×aA)):Prop:=∀ kd∈kds,∃ k,kd.1=.tuple k/\bY k=af
theorem KG {k:List aA}(hk:bY k=af):∀ {kds:List (aA×aA)},keyed kds->((Ahz kds k).isSome=af↔dG k∈kds.map (·.1))
 |[],_=>by simp[Ahz]
 |(k0,d)::r,h=>by
  obtain⟨k',e,gf⟩:=h (k0,d) bO;have e:=e;subst e;rw[XE gf hk];by_cases q:k'=k
  .rw[if_pos q,q];simp
  .rw[if_neg q,KG hk λkd m=>h kd (bN _ m)]
   grind
theorem Sa(h:keyed kds){k:List aA}(hk:bY k=af)(d:aA):keyed (qY kds k d)/\∀ x,x∈(qY kds k d).map (·.1)↔x∈kds.map (·.1)\/x=.tuple k:=by
 unfold qY;by_cases q:(Ahz kds k).isSome=af
 .rw[if_pos q];have e:(kds.map λkd=>if bX kd.1 (.tuple k)=af then(kd.1,d) else kd).map (·.1)=kds.map (·.1):=by
   rw[eE];refine mV λkd _=>?_
   grind
  refine⟨λkd m=>?_,λx=>?_⟩
  .obtain⟨y,my,e2⟩:=bU.1 (show kd.1∈kds.map (·.1) from e ▸ bU.2 ⟨kd,m,rfl⟩)
   rw[<-e2];exact h y my
  .rw[e];exact⟨.inl,λz=>z.elim id λz=>z ▸ (KG hk h).1 q⟩
 .rw[if_neg q];refine⟨λkd m=>?_,λx=>by simp⟩
  rcases dH.1 m with m|m
  .exact h kd m
  all_goals grind
theorem YB:∀ {ps:List (List aA×aA)} {kds:List (aA×aA)},keyed kds->(∀ p∈ps,bY p.1=af)->keyed (lH ps kds)/\∀ x,x∈(lH ps kds).map (·.1)↔x∈kds.map (·.1)\/∃ p∈ps,x=.tuple p.1
 |[],kds,h,_=>⟨h,λx=>by simp[lH]⟩
 |p::r,kds,h,hp=>by
  obtain⟨h1,h2⟩:=Sa h (hp p bO) p.2;obtain⟨h3,h4⟩:=YB h1 λq m=>hp q (bN _ m)
  refine⟨h3,λx=>?_⟩
  show x∈(lH r (qY kds p.1 p.2)).map (·.1)↔_;rw[h4,h2];simp[or_assoc]
theorem Tx {ps:List (List aA×aA)}{k:List aA}(hp:∀ p∈ps,bY p.1=af)(hk:bY k=af):(Ahz (lH ps []) k).isSome=decide (k∈ps.map (·.1)):=by
 obtain⟨h1,h2⟩:=YB (kds:=[]) (λkd m=>by simp at m) hp
 have:=KG hk h1
 grind
section
variable {P:bP}
theorem Bs {j:aD}(ne:l≠j):∀ (n i:Nat) (s:aI) (Q:List aF->aI->Prop),s.heap.IsListIter j l i->s.heap.IsList l us->i+n<=us.size ->
  (∀ h',h'.IsListIter j l (i+n)->wJ j s.heap h'->Q ((us.toList.drop i).take n) { s with heap:=h' })->aW (aY P w) A (draw (.ref j) n) Q E s
 |0,i,s,Q,a,_,_,q=>by
  show aW _ _ (pure []) Q E s;refine aZ ?_;have:=q s.heap a (Heap.SameBut.refl ..)
  rwa [List.take_zero] at this
 |n+1,i,s,Q,a,b,le,q=>by
  have lt:i<us.size:=()
  refine aK (wpAny_pyNext_list_item a b (x:=us[i]) (by simp[lt]) λh1 a1 sb=>?_)
  refine aK (iA (Bs ne n (i+1) _ _ a1 (b.extBut sb.extBut ne) () λh2 a2 B2=>aZ ?_))
  have e:us.toList.drop i=us[i]::us.toList.drop (i+1):=by simp[NM,lt]
  have:=q h2 (by rw[show i+(n+1)=i+1+n by lia];exact a2) (sb.trans B2)
  rwa [e,List.take_succ_cons] at this
theorem Vr{fq:List (Bool×(aF->Sem Unit))}{Q:Unit->aI->Prop}(hh:A.handled=ab)(hl:s.heap.IsList l us)(hn:fq.length=us.size)(hs:fq.findIdx? (·.1)=ab)
  (h:∀ h',ES s.heap.objs.size s.heap h'->aW (aY P w) A (assignInOrder (fq.map (·.2)) us.toList) Q E { s with heap:=h' }):aW (aY P w) A (unpack (.ref l) fq) Q E s:=by
 have ne:l≠s.heap.objs.size:=by
  obtain⟨o,ho,_⟩:=hl;exact eD (bZ ho)
 unfold unpack;rw[hn,hs];refine aK (iA ?_);unfold unpackItems;refine aK ?_;unfold notIterableAtAll;refine aK (yY hl.typeIs slot_list_iter.lookup (aZ ?_));simp only[qC,if_false];refine aK (iA (zF hl (aK (iA (Bs ne us.size 0 _ _ ⟨_,dM _ rfl,rfl,rfl⟩ (hl.push _) () λh1 a1 sb=>?_)))))
 have all:List.take us.size (List.drop 0 us.toList)=us.toList:=by
  rw[List.drop_zero];exact List.take_of_length_le (by simp)
 rw[all,if_neg (by simp)]
 refine aK (iA (wpAny_pyNext_list_end hh a1 ((hl.push _).extBut sb.extBut ne) (by simp) λh2 x2=>?_))
 simp only[Option.isSome_none,qC,if_false];exact aZ (h h2 λb o hb e=>x2 b o hb (sb.extBut b o hb (cD _ e)))
end
def G3 (K:aM)(n:Nat)(t:l4):TG:=λv Z H Q=>∃ a xs,v=.ref a/\SqL K H a xs/\xs.length=n/\t xs Z H Q
theorem Kc{k:Nat}{t:l4}(hc:X.calm=af)(h:t5 X es t)
  (hn:(eQ es X.env).length=n:=by rfl) (gw:(eQ es X.env).findIdx? (·.1)=ab:=by rfl):PG X (.Tuple es k pos) (G3 X.K n t):=by
 intro ad s Z H v u Q I r hw;obtain⟨a,xs,e1,hq,hl,hw⟩:=hw;subst e1;cases r;obtain⟨its,rv,pl,hz⟩:=I.list hq;rw[assign_Tuple];refine aK (MA (Vr (I.ok.hd hc) pl.isList (by simp[hn,<-hl,rv.length]) gw λh' hx=>?_))
 have I1:Inv X ad Z H { s with heap:=h' }:=I.kept (t':=s.toks) λb o e=>hx b o (eD (bZ e)) e
 exact h ad _ Z H xs _ Q I1 (by simpa using rv) hw
def BB (i j:Nat):aA->aP->Option aP:=λd Y=>match d with
 |.list [a,b]=>(dq i a Y).bind λY'=>dq j b Y'
 |_=>ab
theorem TY{k}(hc:X.calm=af)(hN:X.N.Nodup)(hi:X.N[i]?=aa x)(hj:X.N[j]?=aa y)(hx:iU X.env.scope x)(hy:iU X.env.scope y)
  (hf:X.fn x=af\/X.env.scope.names.lookup x=aa .local:=by first|exact .inl rfl|exact .inr rfl|assumption) (rp:X.fn y=af\/X.env.scope.names.lookup y=aa .local:=by first|exact .inl rfl|exact .inr rfl|assumption)
  (hn:(eQ [.Name x p1,.Name y p2] X.env).length=2:=by rfl) (gw:(eQ [.Name x p1,.Name y p2] X.env).findIdx? (·.1)=ab:=by rfl)
  (h1:(eQ [.Name x p1,.Name y p2] X.env).map (·.2)=iI (.Name x p1) X.env::(eQ [.Name y p2] X.env).map (·.2):=by rfl) (h2:(eQ [.Name y p2] X.env).map (·.2)=iI (.Name y p2) X.env::(eQ [] X.env).map (·.2):=by rfl):DG X H0 P0 (.Tuple [.Name x p1,.Name y p2] k pos) (BB i j):=
 PG.imp (Kc hc (vC (qQ hN hi hx hf) (vC (qQ hN hj hy rp) HI h2) h1) hn gw) λv Z H Q gh=>by
  obtain⟨B0,Y,fp,d,Y',S,r,ef,k⟩:=gh;unfold BB at ef;split at ef
  .rename_i a b;obtain⟨Y1,e1,e2⟩:=aj ef;obtain⟨l1,rfl⟩:=cR e1;obtain⟨l2,rfl⟩:=cR e2;obtain⟨p,xs,rfl,hp,rr⟩:=Abe.1 r;obtain⟨v1,t1,rfl,r1,rr⟩:=Aag.1 rr;obtain⟨v2,rfl,r2⟩:=fQ rr;refine⟨p,_,rfl,Aaq.sqL hp,rfl,v1,_,rfl,v2,_,rfl,rfl,?_⟩;have Sb:=S.rebase Ext.refl;obtain⟨j9,S1⟩:=Sb.A8b r1 l1;obtain⟨cc,S2⟩:=S1.A8b (r2.ext S1.base) l2;exact k _ cc (S2.rebase (S.base.trans S2.base))
  .cases ef
def yV (m:Md)(f:EF)(T:aA->aP->Option aP):SF:=λY=>(eV 0 m f Y).bind λd=>(T d Y).bind λY'=>aa (.nx Y')
theorem PU{T:aA->aP->Option aP}(m:Md)(he:DE X e f)(hg:DG X H0 P0 tg T)(hs:DY [tg] e pos.line X.env=pure ag:=by rfl)(hw:DZ [tg] e X.env=pure ab:=by rfl)
  (h1:(eQ [tg] X.env).map (·.2)=[iI tg X.env]:=by rfl):DS X H0 P0 n0 (.Assign [tg] e pos) (yV m f T):=PS.imp (AS (ev m he) hg hs hw h1) λD Z H gh=>by
 rw[6];obtain⟨d,e1,ef⟩:=aj ef;obtain⟨Y',e2,ef⟩:=aj ef;cases ef;refine⟨B0,Y,fp,d,S,e1,λv H' gh=>?_⟩
 obtain⟨bw,S',r⟩:=gh;exact⟨B0,Y,bw,d,Y',S',r.2,e2,λZ' cc S2=>k _ _ cc S2⟩
open PySem PySem.W PyProof.Rows
def bc {α:Type}(lt:Nat->Nat->Bool):KasT α->α
 |.ret a=>a
 |.ask i j k=>bc lt (k (lt i j))
theorem uY {α β:Type}(lt:Nat->Nat->Bool)(f:α->KasT β):∀ t:KasT α,bc lt (t.bind f)=bc lt (f (bc lt t))
 |.ret _=>rfl
 |.ask i j k=>uY lt f (k (lt i j))
structure Ord (lt:Nat->Nat->Bool):Prop where
 asym:∀ a b,lt a b=af->lt b a=ag
 tr:∀ a b c,lt b a=ag->lt c b=ag->lt c a=ag
section
variable {lt:Nat->Nat->Bool}(O:Ord lt)
abbrev at' (p:Array Nat)(i:Nat):Nat:=p.getD i 0
def gK (lt:Nat->Nat->Bool)(p:Array Nat)(m:Nat):Prop:=∀ i j,i<=j->j<m->lt (at' p j) (at' p i)=ag
def rO (lt:Nat->Nat->Bool)(p:Array Nat)(m:Nat):Prop:=∀ i j,i<=j->j<m->lt (at' p i) (at' p j)=ag
include O
theorem Ord.refl (a:Nat):lt a a=ag:=by
 cases h:lt a a with
 |false=>rfl
 |true=>exact absurd (O.asym a a h) (by rw[h];decide)
theorem Qd(h1:1<=n)(h:gK lt p n)(hl:lt (at' p n) (at' p (n-1))=ag):gK lt p (n+1):=λi j gp hj=>by
 by_cases c:j<n
 .exact h i j gp c
 .obtain rfl:j=n:=()
  by_cases d:i=j
  .subst d;exact O.refl _
  .exact O.tr _ _ _ (h i (j-1) () ()) hl
theorem xX(h1:1<=n)(h:rO lt p n)(hl:lt (at' p (n-1)) (at' p n)=ag):rO lt p (n+1):=λi j gp hj=>by
 by_cases c:j<n
 .exact h i j gp c
 .obtain rfl:j=n:=()
  by_cases d:i=j
  .subst d;exact O.refl _
  .exact O.tr _ _ _ hl (h i (j-1) () ())
theorem Pi (p:Array Nat):gK lt p 1:=λi j gp hj=>by
 obtain rfl:j=0:=()
 obtain rfl:i=0:=()
 exact O.refl _
theorem HW:∀ (f n:Nat),1<=n->gK lt p n->n<=bc lt (kas_asc p f n)/\bc lt (kas_asc p f n)<=n+f/\gK lt p (bc lt (kas_asc p f n))/\(bc lt (kas_asc p f n)<n+f->lt (at' p (bc lt (kas_asc p f n))) (at' p (bc lt (kas_asc p f n)-1))=af)
 |0,n,h1,h=>⟨bI _,bI _,h,λz=>absurd z (by show ¬ n<n+0;lia)⟩
 |f+1,n,h1,h=>by
  have e:bc lt (kas_asc p (f+1) n)=bc lt (if lt (at' p n) (at' p (n-1))=af then KasT.ret n else kas_asc p f (n+1)):=rfl
  rw[e];by_cases c:lt (at' p n) (at' p (n-1))=af
  .rw[if_pos c];exact⟨bI _,by show n<=n+(f+1);lia,h,λ_=>c⟩
  .rw[if_neg c];obtain⟨a1,a2,a3,a4⟩:=HW f (n+1) () (Qd O h1 h (by simpa using c))
   exact⟨(),(),a3,λz=>a4 ()⟩
theorem JP{k:Nat}(h:gK lt p k):∀ (f l r:Nat),l<=r->r<=k->r-l<=f->(∀ i<l,lt (at' p k) (at' p i)=ag)->(∀ i,r<=i->i<k->lt (at' p i) (at' p k)=ag) ->
  bc lt (kas_place p k f l r)<=k/\(∀ i<bc lt (kas_place p k f l r),lt (at' p k) (at' p i)=ag)/\∀ i,bc lt (kas_place p k f l r)<=i->i<k->lt (at' p i) (at' p k)=ag
 |0,l,r,h1,h2,h3,hl,hr=>by
  have e:bc lt (kas_place p k 0 l r)=l:=rfl;obtain rfl:l=r:=()
  rw[e];exact⟨h2,hl,hr⟩
 |f+1,l,r,h1,h2,h3,hl,hr=>by
  unfold kas_place;by_cases c:l ≥ r
  .rw[if_pos c];obtain rfl:l=r:=()
   exact⟨h2,hl,hr⟩
  .rw[if_neg c];show bc lt (if lt (at' p k) (at' p ((l+r)/2))=af then kas_place p k f l ((l+r)/2) else kas_place p k f ((l+r)/2+1) r)<=k/\_
   by_cases d:lt (at' p k) (at' p ((l+r)/2))=af
   .have e:bc lt (KasT.ask (p.getD k 0) (p.getD ((l+r)/2) 0) λc=>if c=af then kas_place p k f l ((l+r)/2) else kas_place p k f ((l+r)/2+1) r)=bc lt (kas_place p k f l ((l+r)/2)):=by
     show bc lt (if lt (at' p k) (at' p ((l+r)/2))=af then _ else _)=_
     rw[if_pos d]
    rw[e,if_pos d];exact JP h f l ((l+r)/2) () () () hl λi a b=>O.tr _ _ _ (O.asym _ _ d) (h _ i a b)
   .have d':lt (at' p k) (at' p ((l+r)/2))=ag:=by simpa using d
    have e:bc lt (KasT.ask (p.getD k 0) (p.getD ((l+r)/2) 0) λc=>if c=af then kas_place p k f l ((l+r)/2) else kas_place p k f ((l+r)/2+1) r)=bc lt (kas_place p k f ((l+r)/2+1) r):=by
     show bc lt (if lt (at' p k) (at' p ((l+r)/2))=af then _ else _)=_
     rw[if_neg d]
    rw[e,if_neg d];refine JP h f ((l+r)/2+1) r () h2 () (λi hi=>?_) hr
    exact O.tr _ _ _ (h i ((l+r)/2) () ()) d'
end
theorem at_of(i:Nat):at' p i=(p[i]?).getD 0:=d9
theorem Ah{k l:Nat}(hk:k<p.size)(hl:l<=k)(i:Nat):at' (bubble p k (k-l)) i=if i=l then at' p k else if l<i/\i<=k then at' p (i-1) else at' p i:=by
 have e:k-(k-l)=l:=()
 have q:=getElem?_bubble hk (k-l) () i
 rw[e] at q;simp only[at_of,q];split
 .rfl
 .split<;>rfl
theorem lL(hj:j<=p.size)(k:Nat):at' (kas_rev p i j) k=if i<=k/\k<j then at' p (i+j-1-k) else at' p k:=by
 have q:=getElem?_mirror_all (i:=i) hj k;simp only[at_of];unfold kas_rev;rw[q];split<;>rfl
theorem JE (p:Array Nat)(i j:Nat):(kas_rev p i j).size=p.size:=mirror_size _ _ _ _
theorem qU (p:Array Nat)(i j:Nat):(kas_rev p i j).Perm p:=mirror_perm _ _ _ _
section
variable {lt:Nat->Nat->Bool}(O:Ord lt)
include O
theorem QW:∀ (f:Nat) (p:Array Nat) (k:Nat),gK lt p k->k+f<=p.size->(bc lt (kas_bin f p k)).Perm p/\gK lt (bc lt (kas_bin f p k)) (k+f)
 |0,p,k,h,_=>⟨EZ _,h⟩
 |f+1,p,k,h,hz=>by
  have e:bc lt (kas_bin (f+1) p k)=bc lt (kas_bin f (bubble p k (k-bc lt (kas_place p k k 0 k))) (k+1)):=by
   show bc lt ((kas_place p k k 0 k).bind λl=>kas_bin f (bubble p k (k-l)) (k+1))=_
   rw[uY]
  obtain⟨h1,h2,h3⟩:=JP O h k 0 k (eB _) (bI _) () (λi hi=>absurd hi ()) (λi a b=>absurd b ())
  rw[e];generalize bc lt (kas_place p k k 0 k)=l at h1 h2 h3;have hk:k<p.size:=()
  have A':gK lt (bubble p k (k-l)) (k+1):=λi j gp hj=>by
   rw[Ah hk h1,Ah hk h1];by_cases ci:i=l
   .rw[if_pos ci];by_cases cj:j=l
    .rw[if_pos cj];exact O.refl _
    .rw[if_neg cj,if_pos ⟨(),()⟩]
     exact h3 (j-1) () ()
   .rw[if_neg ci];by_cases cj:j=l
    .rw[if_pos cj,if_neg ()]
     exact h2 i ()
    .rw[if_neg cj];by_cases di:l<i/\i<=k
     .rw[if_pos di,if_pos ⟨(),()⟩]
      exact h (i-1) (j-1) () ()
     .rw[if_neg di];by_cases dj:l<j/\j<=k
      .rw[if_pos dj];exact h i (j-1) () ()
      .rw[if_neg dj];exact h i j gp ()
  obtain⟨a1,a2⟩:=QW f (bubble p k (k-l)) (k+1) A' (by rw[bubble_size];lia)
  exact⟨a1.trans (bubble_perm _ _ _),by rw[show k+(f+1)=k+1+f by lia];exact a2⟩
structure Fall (lt:Nat->Nat->Bool)(p:Array Nat)(n q:Nat):Prop where
 pos:q+1<=n
 dsc:rO lt p n
 eq:∀ i j,n-(q+1)<=i->i<n->n-(q+1)<=j->j<n->lt (at' p i) (at' p j)=ag
theorem Fall.rev{q:Nat}(F:Fall lt p n q)(hz:n<=p.size):Fall lt (kas_rev p (n-(q+1)) n) n q:=by
 have hp:=F.pos;refine⟨hp,λi j gp hj=>?_,λi j a b c d=>?_⟩
 .rw[lL hz,lL hz];by_cases ci:n-(q+1)<=i/\i<n
  .rw[if_pos ci,if_pos ⟨(),hj⟩]
   exact F.eq _ _ () () () ()
  .rw[if_neg ci];by_cases cj:n-(q+1)<=j/\j<n
   .rw[if_pos cj];exact F.dsc _ _ () ()
   .rw[if_neg cj];exact F.dsc i j gp hj
 .rw[lL hz,lL hz,if_pos ⟨a,b⟩,if_pos ⟨c,d⟩];exact F.eq _ _ () () () ()
theorem BQ:∀ (f:Nat) (p:Array Nat) (n q:Nat),Fall lt p n q->n+f<=p.size->(bc lt (kas_desc f p n q)).1.Perm p/\n<=(bc lt (kas_desc f p n q)).2.1/\(bc lt (kas_desc f p n q)).2.1<=n+f/\Fall lt (bc lt (kas_desc f p n q)).1 (bc lt (kas_desc f p n q)).2.1 (bc lt (kas_desc f p n q)).2.2
 |0,p,n,q,F,_=>⟨EZ _,bI _,bI _,F⟩
 |f+1,p,n,q,F,hz=>by
  have hp:=F.pos;have e:bc lt (kas_desc (f+1) p n q)=bc lt (if lt (at' p n) (at' p (n-1))=af then(if q > 0 then kas_desc f (kas_rev p (n-(q+1)) n) (n+1) 0 else kas_desc f p (n+1) 0) else KasT.ask (p.getD (n-1) 0) (p.getD n 0) λd=>if d=af then .ret (p,n,q) else kas_desc f p (n+1) (q+1)):=rfl
  rw[e];by_cases c:lt (at' p n) (at' p (n-1))=af
  .rw[if_pos c];by_cases hq:q > 0
   .rw[if_pos hq];have F':=F.rev O ()
    have hn:at' (kas_rev p (n-(q+1)) n) n=at' p n:=by rw[lL (),if_neg ()]
    have F2:Fall lt (kas_rev p (n-(q+1)) n) (n+1) 0:=by
     refine⟨(),xX O () F'.dsc ?_,λi j a b c' d=>?_⟩
     .rw[hn,lL (),if_pos ⟨(),()⟩]
      exact O.tr _ _ _ (O.asym _ _ c) (F.eq _ _ () () () ())
     .obtain rfl:i=n:=()
      obtain rfl:j=i:=()
      exact O.refl _
    obtain⟨a1,a2,a3,a4⟩:=BQ f _ (n+1) 0 F2 (by rw[JE];lia)
    exact⟨a1.trans (qU _ _ _),(),(),a4⟩
   .rw[if_neg hq];have F2:Fall lt p (n+1) 0:=by
     refine⟨(),xX O () F.dsc (O.asym _ _ c),λi j a b c' d=>?_⟩
     obtain rfl:i=n:=()
     obtain rfl:j=i:=()
     exact O.refl _
    obtain⟨a1,a2,a3,a4⟩:=BQ f _ (n+1) 0 F2 ()
    exact⟨a1,(),(),a4⟩
  .rw[if_neg c];have c':lt (at' p n) (at' p (n-1))=ag:=by simpa using c
   have e2:bc lt (KasT.ask (p.getD (n-1) 0) (p.getD n 0) λd=>if d=af then .ret (p,n,q) else kas_desc f p (n+1) (q+1))=bc lt (if lt (at' p (n-1)) (at' p n)=af then .ret (p,n,q) else kas_desc f p (n+1) (q+1)):=rfl
   rw[e2];by_cases d:lt (at' p (n-1)) (at' p n)=af
   .rw[if_pos d];exact⟨EZ _,bI _,by show n<=n+(f+1);lia,F⟩
   .rw[if_neg d];have d':lt (at' p (n-1)) (at' p n)=ag:=by simpa using d
    have F2:Fall lt p (n+1) (q+1):=by
     refine⟨(),xX O () F.dsc d',λi j a b a' b'=>?_⟩
     by_cases ci:i=n
     .by_cases cj:j=n
      .rw[ci,cj];exact O.refl _
      .rw[ci];exact O.tr _ _ _ (F.eq (n-1) j () () () ()) c'
     .by_cases cj:j=n
      .rw[cj];exact O.tr _ _ _ d' (F.eq i (n-1) () () () ())
      .exact F.eq i j () () () ()
    obtain⟨a1,a2,a3,a4⟩:=BQ f _ (n+1) (q+1) F2 ()
    exact⟨a1,(),(),a4⟩
end
section
variable {lt:Nat->Nat->Bool}(O:Ord lt)
include O
theorem Nh(h:rO lt p n)(hz:n<=p.size):gK lt (kas_rev p 0 n) n:=λi j gp hj=>by
 rw[lL hz,lL hz,if_pos ⟨eB _,hj⟩,if_pos ⟨eB _,()⟩]
 exact h _ _ () ()
theorem TF(h1:1<=n)(hn:n<=m)(hz:m<=p.size)(h:rO lt p n):(bc lt (kas_tail3 n m p)).2.Perm p/\(bc lt (kas_tail3 n m p)).1<=m/\1<=(bc lt (kas_tail3 n m p)).1/\gK lt (bc lt (kas_tail3 n m p)).2 (bc lt (kas_tail3 n m p)).1:=by
 unfold kas_tail3;rw[uY];obtain⟨a1,a2,a3,_⟩:=HW O (m-n) n h1 (Nh O h ())
 exact⟨qU _ _ _,by show bc lt (kas_asc (kas_rev p 0 n) (m-n) n)<=m;lia,by show 1<=bc lt (kas_asc (kas_rev p 0 n) (m-n) n);lia,a3⟩
theorem SO(h1:1<=n)(hn:n+1<=m)(hz:m<=p.size)(h:rO lt p (n+1)):(bc lt (kas_descPart n m p)).2.Perm p/\(bc lt (kas_descPart n m p)).1<=m/\1<=(bc lt (kas_descPart n m p)).1/\gK lt (bc lt (kas_descPart n m p)).2 (bc lt (kas_descPart n m p)).1:=by
 have F0:Fall lt p (n+1) 0:=⟨(),h,λi j a b c d=>by
  obtain rfl:i=n:=()
  obtain rfl:j=i:=()
  exact O.refl _⟩
 obtain⟨a1,a2,a3,a4⟩:=BQ O (m-(n+1)) p (n+1) 0 F0 ()
 unfold kas_descPart;rw[uY];generalize bc lt (kas_desc (m-(n+1)) p (n+1) 0)=r at a1 a2 a3 a4;have hs:=a1.size_eq;split
 .have F':=a4.rev O ()
  obtain⟨b1,b2,b3,b4⟩:=TF O () () (by rw[JE];lia) F'.dsc (m:=m)
  exact⟨b1.trans ((qU _ _ _).trans a1),b2,b3,b4⟩
 .obtain⟨b1,b2,b3,b4⟩:=TF O () () () a4.dsc (m:=m)
  exact⟨b1.trans a1,b2,b3,b4⟩
theorem VM(h1:1<=m)(hz:m<=p.size):(bc lt (kas_count m p)).2.Perm p/\(bc lt (kas_count m p)).1<=m/\1<=(bc lt (kas_count m p)).1/\gK lt (bc lt (kas_count m p)).2 (bc lt (kas_count m p)).1:=by
 obtain⟨a1,a2,a3,a4⟩:=HW O (m-1) 1 (bI _) (Pi O p);unfold kas_count;rw[uY];generalize bc lt (kas_asc p (m-1) 1)=n at a1 a2 a3 a4;by_cases c:(n==m)=af
 .rw[if_pos c];exact⟨EZ _,by show n<=m;lia,a1,a3⟩
 .rw[if_neg c];have hnm:n≠m:=by simpa using c
  have hl:=a4 ()
  by_cases d:n > 1
  .rw[if_pos d];show(bc lt (if lt (at' p 0) (at' p (n-1))=af then KasT.ret (n,p) else kas_descPart n m (kas_rev p 0 n))).2.Perm p/\(bc lt (if lt (at' p 0) (at' p (n-1))=af then KasT.ret (n,p) else kas_descPart n m (kas_rev p 0 n))).1<=m/\1<=(bc lt (if lt (at' p 0) (at' p (n-1))=af then KasT.ret (n,p) else kas_descPart n m (kas_rev p 0 n))).1/\gK lt (bc lt (if lt (at' p 0) (at' p (n-1))=af then KasT.ret (n,p) else kas_descPart n m (kas_rev p 0 n))).2 (bc lt (if lt (at' p 0) (at' p (n-1))=af then KasT.ret (n,p) else kas_descPart n m (kas_rev p 0 n))).1
   by_cases e:lt (at' p 0) (at' p (n-1))=af
   .rw[if_pos e];exact⟨EZ _,by show n<=m;lia,a1,a3⟩
   .rw[if_neg e];have e':lt (at' p 0) (at' p (n-1))=ag:=by simpa using e
    have same:∀ i j,i<n->j<n->lt (at' p i) (at' p j)=ag:=λi j hi hj=>
     O.tr _ (at' p 0) _ (O.tr _ _ _ (a3 j (n-1) () ()) e') (a3 0 i (eB _) hi)
    have D:rO lt (kas_rev p 0 n) (n+1):=by
     refine xX O a1 (λi j gp hj=>?_) ?_
     .rw[lL (),lL (),if_pos ⟨eB _,()⟩,if_pos ⟨eB _,hj⟩]
      exact same _ _ () ()
     .rw[lL (),lL (),if_pos ⟨eB _,()⟩,if_neg ()]
      exact O.tr _ _ _ (O.asym _ _ hl) (same _ _ () ())
    obtain⟨b1,b2,b3,b4⟩:=SO O a1 () (by rw[JE];exact hz) D (m:=m)
    exact⟨b1.trans (qU _ _ _),b2,b3,b4⟩
  .rw[if_neg d];obtain rfl:n=1:=()
   exact SO O (bI _) () hz (xX O (bI _) (λi j gp hj=>by
    obtain rfl:j=0:=()
    obtain rfl:i=0:=()
    exact O.refl _) (O.asym _ _ hl))
theorem RJ(h1:1<=n):(bc lt (kas_sort n)).Perm (iE (cP n))/\gK lt (bc lt (kas_sort n)) n:=by
 have hs:(iE (cP n)).size=n:=by simp
 obtain⟨a1,a2,a3,a4⟩:=VM O h1 (by rw[hs];exact bI _)
 unfold kas_sort;rw[uY];generalize bc lt (kas_count n (iE (cP n)))=r at a1 a2 a3 a4;have hz:=a1.size_eq.trans hs;split
 .have em:max r.1 1=r.1:=()
  rw[em];obtain⟨b1,b2⟩:=QW O (n-r.1) r.2 r.1 a4 ()
  exact⟨b1.trans a1,by rw[show r.1+(n-r.1)=n by lia] at b2;exact b2⟩
 .have:r.1=n:=()
  exact⟨a1,by rw[this] at a4;exact a4⟩
end
def gR {α:Type}(lt:Nat->Nat->Bool)(N:Nat):KasT α->Prop
 |.ret _=>True
 |.ask i j k=>(i<N/\j<N)/\gR lt N (k (lt i j))
theorem uX {α β:Type}{lt:Nat->Nat->Bool}{f:α->KasT β}:∀ {t:KasT α},gR lt N t->gR lt N (f (bc lt t))->gR lt N (t.bind f)
 |.ret _,_,h=>h
 |.ask i j k,h,h2=>⟨h.1,uX h.2 h2⟩
theorem PK {α:Type}{lt:Nat->Nat->Bool}{so:Nat->Nat->(Bool->aI->Prop)->aI->Prop}(hc:∀ i j (C:Bool->aI->Prop),i<N->j<N->C (lt i j) s->so i j C s){Q:α->aI->Prop}:∀ {t:KasT α},gR lt N t->Q (bc lt t) s->t.kasWp so Q s
 |.ret _,_,h=>h
 |.ask i j k,h,q=>hc i j _ h.1.1 h.1.2 (PK hc h.2 q)
abbrev El (N:Nat)(p:Array Nat):Prop:=∀ x∈p,x<N
theorem El.at(h:El N p)(h0:0<N)(i:Nat):at' p i<N:=by
 rw[at_of];cases e:p[i]? with
 |none=>exact h0
 |some v=>exact h v (Array.mem_of_getElem? e)
theorem El.perm{q:Array Nat}(h:El N p)(x:q.Perm p):El N q:=λv m=>h v (x.mem_iff.1 m)
section
variable {lt:Nat->Nat->Bool}(h0:0<N)
include h0
theorem LN(h:El N p):∀ f n,gR lt N (kas_asc p f n)
 |0,_=>trivial
 |f+1,n=>by
  refine⟨⟨h.at h0 _,h.at h0 _⟩,?_⟩;show gR lt N (if lt (at' p n) (at' p (n-1))=af then KasT.ret n else kas_asc p f (n+1))
  by_cases c:lt (at' p n) (at' p (n-1))=af
  .rw[if_pos c];trivial
  .rw[if_neg c];exact LN h f (n+1)
theorem IR{k:Nat}(h:El N p):∀ f l r,gR lt N (kas_place p k f l r)
 |0,_,_=>trivial
 |f+1,l,r=>by
  unfold kas_place;by_cases c:l ≥ r
  .rw[if_pos c];trivial
  .rw[if_neg c];refine⟨⟨h.at h0 _,h.at h0 _⟩,?_⟩;show gR lt N (if lt (at' p k) (at' p ((l+r)/2))=af then kas_place p k f l ((l+r)/2) else kas_place p k f ((l+r)/2+1) r)
   by_cases d:lt (at' p k) (at' p ((l+r)/2))=af
   .rw[if_pos d];exact IR h f _ _
   .rw[if_neg d];exact IR h f _ _
theorem ZW:∀ (f:Nat) (p:Array Nat) (k:Nat),El N p->gR lt N (kas_bin f p k)
 |0,_,_,_=>trivial
 |f+1,p,k,h=>uX (IR h0 h k 0 k) (ZW f _ _ (h.perm (bubble_perm _ _ _)))
theorem BG:∀ (f:Nat) (p:Array Nat) (n q:Nat),El N p->gR lt N (kas_desc f p n q)/\El N (bc lt (kas_desc f p n q)).1
 |0,_,_,_,h=>⟨trivial,h⟩
 |f+1,p,n,q,h=>by
  have e:bc lt (kas_desc (f+1) p n q)=bc lt (if lt (at' p n) (at' p (n-1))=af then(if q > 0 then kas_desc f (kas_rev p (n-(q+1)) n) (n+1) 0 else kas_desc f p (n+1) 0) else KasT.ask (p.getD (n-1) 0) (p.getD n 0) λd=>if d=af then .ret (p,n,q) else kas_desc f p (n+1) (q+1)):=rfl
  have g:gR lt N (kas_desc (f+1) p n q)↔(at' p n<N/\at' p (n-1)<N)/\gR lt N (if lt (at' p n) (at' p (n-1))=af then(if q > 0 then kas_desc f (kas_rev p (n-(q+1)) n) (n+1) 0 else kas_desc f p (n+1) 0) else KasT.ask (p.getD (n-1) 0) (p.getD n 0) λd=>if d=af then .ret (p,n,q) else kas_desc f p (n+1) (q+1)):=Iff.rfl
  rw[g,e];by_cases c:lt (at' p n) (at' p (n-1))=af
  .rw[if_pos c];by_cases hq:q > 0
   .rw[if_pos hq];obtain⟨a,b⟩:=BG f _ (n+1) 0 (h.perm (qU p (n-(q+1)) n));exact⟨⟨⟨h.at h0 _,h.at h0 _⟩,a⟩,b⟩
   .rw[if_neg hq];obtain⟨a,b⟩:=BG f _ (n+1) 0 h;exact⟨⟨⟨h.at h0 _,h.at h0 _⟩,a⟩,b⟩
  .rw[if_neg c];have e2:bc lt (KasT.ask (p.getD (n-1) 0) (p.getD n 0) λd=>if d=af then .ret (p,n,q) else kas_desc f p (n+1) (q+1))=bc lt (if lt (at' p (n-1)) (at' p n)=af then .ret (p,n,q) else kas_desc f p (n+1) (q+1)):=rfl
   have g2:gR lt N (KasT.ask (p.getD (n-1) 0) (p.getD n 0) λd=>if d=af then .ret (p,n,q) else kas_desc f p (n+1) (q+1))↔(at' p (n-1)<N/\at' p n<N)/\gR lt N (if lt (at' p (n-1)) (at' p n)=af then .ret (p,n,q) else kas_desc f p (n+1) (q+1)):=Iff.rfl
   rw[g2,e2];by_cases d:lt (at' p (n-1)) (at' p n)=af
   .rw[if_pos d];exact⟨⟨⟨h.at h0 _,h.at h0 _⟩,⟨h.at h0 _,h.at h0 _⟩,trivial⟩,h⟩
   .rw[if_neg d];obtain⟨a,b⟩:=BG f _ (n+1) (q+1) h;exact⟨⟨⟨h.at h0 _,h.at h0 _⟩,⟨h.at h0 _,h.at h0 _⟩,a⟩,b⟩
theorem Df(n m:Nat)(h:El N p):gR lt N (kas_tail3 n m p):=uX (LN h0 (h.perm (qU _ _ _)) _ _) trivial
theorem PP(n m:Nat)(h:El N p):gR lt N (kas_descPart n m p):=by
 obtain⟨a,b⟩:=BG h0 (m-(n+1)) p (n+1) 0 h;refine uX a ?_;split
 .exact Df h0 _ _ (b.perm (qU _ _ _))
 .exact Df h0 _ _ b
theorem Xe(m:Nat)(h:El N p):gR lt N (kas_count m p):=by
 refine uX (LN h0 h _ _) ?_;generalize bc lt (kas_asc p (m-1) 1)=n;by_cases c:(n==m)=af
 .rw[if_pos c];trivial
 .rw[if_neg c];by_cases d:n > 1
  .rw[if_pos d];refine⟨⟨h.at h0 _,h.at h0 _⟩,?_⟩;show gR lt N (if lt (at' p 0) (at' p (n-1))=af then KasT.ret (n,p) else kas_descPart n m (kas_rev p 0 n))
   by_cases e:lt (at' p 0) (at' p (n-1))=af
   .rw[if_pos e];trivial
   .rw[if_neg e];exact PP h0 _ _ (h.perm (qU _ _ _))
  .rw[if_neg d];exact PP h0 _ _ h
end
theorem Om {lt:Nat->Nat->Bool}(O:Ord lt)(h1:1<=n):gR lt n (kas_sort n):=by
 have hs:(iE (cP n)).size=n:=by simp
 have h:El n (iE (cP n)):=λx m=>by simpa using m
 refine uX (Xe () n h) ?_
 obtain⟨a1,_⟩:=VM O h1 (by rw[hs];exact bI _)
 generalize bc lt (kas_count n (iE (cP n)))=r at a1;split
 .exact ZW () _ _ _ (h.perm a1)
 .trivial
theorem My {lt:Nat->Nat->Bool}(O:Ord lt)(h1:1<=n){so:Nat->Nat->(Bool->aI->Prop)->aI->Prop}(hc:∀ i j (C:Bool->aI->Prop),i<n->j<n->C (lt i j) s->so i j C s){G:Array Nat->aI->Prop}
  (h:∀ p:Array Nat,p.Perm (iE (cP n))->gK lt p n->G p s):(kas_sort n).kasWp so G s:=
 PK hc (Om O h1) (h _ (RJ O h1).1 (RJ O h1).2)
abbrev Fc (a:aD)(h h':aU):Prop:=∀ b o,b≠a->h.get? b=aa o->h'.get? b=aa o
abbrev nV (h:aU)(a:aD)(vs:List aF):aU:=((h.update a (iD λ_=>#[])).push (iP "tuple" vs.toArray 0)).push (iP "list" #[] 0)
theorem Og:Fc a h (nV h a vs):=λb o hb e=>
 cD _ (cD _ (((zV h a (iD λ_=>(#[]:Array aF))).2 b hb).trans e))
theorem Me{κ:SortKind}{lt:Nat->Nat->Bool}{P:PySem.Fin->aI->Prop}(O:Ord lt)(ho:s.heap.get? a=aa (iP "list" vs.toArray n))(h2:2<=vs.length)(nh:vs.length<64)
  (hk:∀ (Q:SortKind->aI->Prop),Q κ { s with heap:=nV s.heap a vs }->aW (aY prog w) A (keyKind' vs.toArray) Q E { s with heap:=nV s.heap a vs })
  (hc:∀ i j (C:Bool->aI->Prop),i<vs.length->j<vs.length->C (lt i j) { s with heap:=nV s.heap a vs }->aW (aY prog w) A (keyLt' κ (vs.getD i fT) (vs.getD j fT)) C (λ_ _=>False) { s with heap:=nV s.heap a vs })
  (h:∀ p:Array Nat,p.Perm (iE (cP vs.length))->gK lt p vs.length->P (.done (.ret .none)) { s with heap:=sortedHeap s.heap a vs (iE (p.toList.map λi=>vs.getD i fT)) }) :
  aW (aY prog w) A (Builtin.«list.sort» ⟨[.ref a],[]⟩) P E s:=by
 have lz:vs.length<=sizeLine:=by rw[zG];lia
 have ha:=bZ ho;obtain⟨e1,sq⟩:∃ e,(s.heap.update a (iD λ_=>(#[]:Array aF))).get? a=aa (iP "list" #[] e):=⟨_,get?_update_seq ho λ_=>#[]⟩
 have sr:(nV s.heap a vs).get? a=aa (iP "list" #[] e1):=cD _ (cD _ sq);rw[list_sort_plain];refine aK (listItems_at ho rfl (aK (listUpdate_at ho rfl (aK (seqEpoch_at sq rfl (aK (wpAny_newTuple (aK (MD (iA ?_) (eB _))) (by simpa using lz))))) (by rw[dX];exact lz) (eB _))))
 dsimp only;have big:¬ vs.toArray.size<2:=by rw[dX];lia
 rw[if_neg big,if_neg big];refine aK (hk _ ?_);have eS:SortSt.mk' κ (vs.toArray.zip vs.toArray) #[] 7 ab=kas_st κ (pairsOf vs) (iE (cP vs.length)):=by
  have e:=kas_range (pairsOf vs);rw[pairsOf_size] at e;unfold kas_st;rw[e]
  rfl
 have run:=kas_runs (E:=E) (Q:=λ_ gg s'=>s'={ s with heap:=nV s.heap a vs }/\∃ p:Array Nat,p.Perm (iE (cP vs.length))/\gK lt p vs.length/\arrOf gg=p.map (kas_item (pairsOf vs))/\failedOf gg=ab)
  (G:=λp s'=>s'={ s with heap:=nV s.heap a vs }/\p.Perm (iE (cP vs.length))/\gK lt p vs.length) h2 nh (λp' gg s' a1 a2 a3 ⟨b1,b2,b3⟩=>⟨b1,p',b2,b3,a2,a3⟩)
  (My O () (λi j C hi hj q=>by
   unfold kas_cmp;rw[kas_item_eq,kas_item_eq];exact hc i j C hi hj q) λp b1 b2=>⟨rfl,b1,b2⟩)
 rw[<-eS] at run;refine aK (jO run ?_ λ_ _ e=>e)
 rintro⟨⟨⟩,gg⟩ s' ⟨rfl,p,b1,b2,B3,hf⟩;dsimp only;have o0:(arrOf gg).map (·.2)=iE (p.toList.map λi=>vs.getD i fT):=by
  apply Ez.1;rw[B3,Array.map_map,Array.toList_map];exact mV λi _=>congrArg Prod.snd (kas_item_eq vs i)
 have hps:p.size=vs.length:=by
  have:=b1.size_eq;simpa using this
 have hsz:(iE (p.toList.map λi=>vs.getD i fT)).size<=sizeLine:=by
  grind
 rw[o0];refine aK (seqEpoch_at sr rfl (aK (listUpdate_at sr rfl ?_ (eB _) (wA hsz))));rw[hf];simp only[bne_self_eq_false,qC,if_false];exact aZ (h p b1 b2)
theorem Yy{κ:SortKind}{lt:Nat->Nat->Bool}(O:Ord lt)(hl:s.heap.IsList l vs.toArray)(h2:2<=vs.length)(nh:vs.length<64)
  (hk:∀ h',(∀ b o,s.heap.get? b=aa o->h'.get? b=aa o)->∀ (A':cE) (E':aF->aI->Prop) (R:SortKind->aI->Prop),R κ { s with heap:=h' }->aW (aY prog w) A' (keyKind' vs.toArray) R E' { s with heap:=h' })
  (hc:∀ h',(∀ b o,s.heap.get? b=aa o->h'.get? b=aa o)->∀ (A':cE),A'.units<=A.units+4->∀ i j (C:Bool->aI->Prop),i<vs.length->j<vs.length->C (lt i j) { s with heap:=h' }->aW (aY prog w) A' (keyLt' κ (vs.getD i fT) (vs.getD j fT)) C (λ_ _=>False) { s with heap:=h' })
  (h:∀ p:Array Nat,p.Perm (iE (cP vs.length))->gK lt p vs.length->Q (.ref (s.heap.objs.size+1)) { s with heap:=sortedAll s.heap vs (iE (p.toList.map λi=>vs.getD i fT)) }) :
  aW (aY prog w) A (call (.builtin "sorted") [.ref l]) Q E s:=by
 refine Calls.call_function_entry kind_sorted plain_sorted entry_sorted (args_sorted1 _) ?_;unfold Builtin.«sorted»;refine aK (aZ (aK (collect_list hl (aK (MD ?_)))));have z:((s.heap.push (iP "list" #[] 0)).update s.heap.objs.size (iD (· ++ vs.toArray))).objs.size=s.heap.objs.size+1:=by rw[Heap.size_update,size_push']
 have n6:(((s.heap.push (iP "list" #[] 0)).update s.heap.objs.size (iD (· ++ vs.toArray))).push (iP "list" vs.toArray 0)).get? (s.heap.objs.size+1)=aa (iP "list" vs.toArray 0):=z ▸ dM _ rfl;have kept:∀ b o,s.heap.get? b=aa o->(nV (((s.heap.push (iP "list" #[] 0)).update s.heap.objs.size (iD (· ++ vs.toArray))).push (iP "list" vs.toArray 0)) (s.heap.objs.size+1) vs).get? b=aa o:=λb o e=>by
  have hb:=bZ e;refine Og b o (λq=>?_) (cD _ (((zV _ s.heap.objs.size _).2 b (λq=>?_)).trans (cD _ e)))
  all_goals grind
 rw[z];refine aK (iA (lT slot_list_sort ⟨_,n6,rfl⟩ entry_list_sort (Me O n6 h2 nh (λR q=>hk _ kept _ _ R q) (λi j C hi hj q=>hc _ kept _ ?_ i j C hi hj q) λp b1 b2=>⟨_,rfl,?_⟩) (args_list_sort _)))
 .grind
 .exact aZ ⟨_,rfl,h p b1 b2⟩
def gU:aA->List Int
 |.int i=>[0,i]
 |.str x=>1::x.cps.toList.map oZ
 |_=>[2]
def cX (ks:List aA):List (List Int):=ks.map gU
theorem UE (a b:List (List Int))(h:a<b):¬ b<a:=List.lt_asymm h
theorem VU (a b c:List (List Int))(h1:¬ b<a)(h2:¬ c<b):¬ c<a:=by
 have h1:=h1;have h2:=h2;exact List.le_trans h1 h2
theorem IV {e:aA}(h1:(∃ i,d=.int i)\/∃ x,d=.str x)(h2:(∃ i,e=.int i)\/∃ x,e=.str x)(h:gU d=gU e):d=e:=by
 rcases h1 with⟨i,rfl⟩|⟨x,rfl⟩<;>rcases h2 with⟨j,rfl⟩|⟨y,rfl⟩
 .simp[gU] at h;rw[h]
 .simp[gU] at h
 .simp[gU] at h
 .have h':x.cps.toList.map oZ=y.cps.toList.map oZ:=by simpa [gU] using h
  have:=(List.map_inj_right (λa b q=>Int.ofNat.inj q)).1 h'
  have:x=y:=by
   cases x;cases y;simp only at this;rw[Ez.1 this]
  rw[this]
def OH (kss:List (List aA))(i j:Nat):Bool:=decide (cX (kss.getD i [])<cX (kss.getD j []))
theorem Js (kss:List (List aA)):Ord (OH kss):=by
 refine⟨λa b h=>?_,λa b c h1 h2=>?_⟩
 .have:=UE _ _ (of_decide_eq_true h);exact decide_eq_false this
 .exact decide_eq_false (VU _ _ _ (of_decide_eq_false h1) (of_decide_eq_false h2))
theorem Abr.tupK{ks:List aA}(r:Abr K H (.tuple ks) v)(h1:bY ks=af)(h2:cY ks<=6):∃ a,v=.ref a/\Anx H ks a:=by
 obtain⟨a,xs,e,s,r⟩:=Aau.1 r;exact⟨a,e,h1,h2,xs,s,Aao.keys ks h1 r⟩
def oG:List aA->Option (List (List aA))
 |[]=>aa []
 |.tuple ks::r=>if bY ks=af/\cY ks<=6 then(oG r).bind λkss=>aa (ks::kss) else ab
 |_::_=>ab
theorem SR:∀ {ds:List aA} {kss:List (List aA)},oG ds=aa kss->ds=kss.map dG/\∀ ks∈kss,bY ks=af/\cY ks<=6
 |[],kss,h=>by cases h;exact⟨rfl,λ_ m=>by simp at m⟩
 |.tuple ks::r,kss,h=>by
  by_cases c:bY ks=af/\cY ks<=6
  .have h':((oG r).bind λkss=>aa (ks::kss))=aa kss:=by
    have:(if bY ks=af/\cY ks<=6 then(oG r).bind λkss=>aa (ks::kss) else ab)=aa kss:=h
    grind
   obtain⟨k2,e1,e2⟩:=aj h';cases e2;obtain⟨q1,q2⟩:=SR e1
   grind
  .have:(if bY ks=af/\cY ks<=6 then(oG r).bind λkss=>aa (ks::kss) else ab)=aa kss:=h
   grind
 |.none::_,_,h=>by cases h
 |.bool _::_,_,h=>by cases h
 |.int _::_,_,h=>by cases h
 |.str _::_,_,h=>by cases h
 |.list _::_,_,h=>by cases h
 |.dict _::_,_,h=>by cases h
open PySem PySem.Spec PySem.W PyProof.Rows
def hW:List aA->List aA->Bool
 |[],[]=>af
 |.int _::r,.int _::r'=>hW r r'
 |.str _::r,.str _::r'=>hW r r'
 |_,_=>ag
theorem QU (i j:Int)(r r':List aA):(cX (.int i::r)<cX (.int j::r'))↔i<j\/i=j/\cX r<cX r':=by
 show(gU (.int i)::cX r<gU (.int j)::cX r')↔_;rw[zS];simp[gU,zS]
theorem map_lt (xs ys:List Nat):(xs.map oZ<ys.map oZ)↔xs<ys:=by
 induction xs generalizing ys with
 |nil=>cases ys<;>simp
 |cons x r ih=>
  cases ys with
  |nil=>simp
  |cons y r'=>
   rw[cT,cT,zS,zS,ih];have h1:(oZ x<oZ y)↔x<y:=Int.ofNat_lt;have h2:(oZ x=oZ y)↔x=y:=⟨λe=>Int.ofNat.inj e,λe=>by rw[e]⟩
   rw[h1,h2]
theorem RE (x y:aE)(r r':List aA):(cX (.str x::r)<cX (.str y::r'))↔x.cps.toList<y.cps.toList\/x=y/\cX r<cX r':=by
 show(gU (.str x)::cX r<gU (.str y)::cX r')↔_;rw[zS];have h1:(gU (.str x)<gU (.str y))↔x.cps.toList<y.cps.toList:=by
  show((1:Int)::x.cps.toList.map oZ<(1:Int)::y.cps.toList.map oZ)↔_;rw[zS,map_lt];simp
 have h2:(gU (.str x)=gU (.str y))↔x=y:=⟨λe=>by
  have:=IV (.inr ⟨x,rfl⟩) (.inr ⟨y,rfl⟩) e;injection this,λe=>by rw[e]⟩
 rw[h1,h2]
section
variable {Q:Bool->aI->Prop}
theorem LU:∀ (ks f8:List aA) {vs su:List aF} {as sv:List aD} (i:Nat),hW ks f8=af->pW s.heap vs ks as->pW s.heap su f8 sv->Q (decide (cX ks<cX f8)) s->KatLex prog w A b ag Q (vs.zip su) i s
 |[],[],vs,su,as,sv,i,_,r,r',h=>by
  cases r;cases r';exact kat_nil h
 |.int x::ks,.int y::f8,vs,su,as,sv,i,hs,r,r',h=>by
  cases r with
  |cons r1 r2=>
   cases r' with
   |cons ou wt=>
    cases r1 with
    |int _ t=>
     cases ou with
     |int _ u=>
      rw[NB];refine kat_cons ((fG prog w).eqBool (KQ _ _ x t) (KQ _ _ y u) ?_);refine kat_go (λe=>kat_yes ?_) λe=>kat_no ?_
      .have e':x=y:=by simpa using e
       subst e';refine LU ks f8 (i+1) (by simpa [hW] using hs) r2 wt ?_
       have:decide (cX (.int x::ks)<cX (.int x::f8))=decide (cX ks<cX f8):=decide_eq_decide.2 (by rw[QU];simp)
       rw[<-this];exact h
      .have e':x≠y:=by simpa using e
       have:decide (cX (.int x::ks)<cX (.int y::f8))=decide (x<y):=decide_eq_decide.2 (by rw[QU];simp[e'])
       rw[this] at h;cases(b&&i==0) with
       |true=>exact oneLt_int h
       |false=>exact kat_one _ _ (lt_int h)
 |.str x::ks,.str y::f8,vs,su,as,sv,i,hs,r,r',h=>by
  cases r with
  |cons r1 r2=>
   cases r' with
   |cons ou wt=>
    cases r1 with
    |str _ t=>
     cases ou with
     |str _ u=>
      rw[NB];refine kat_cons ((fG prog w).eqBool (KU _ _ x t) (KU _ _ y u) ?_);refine kat_go (λe=>kat_yes ?_) λe=>kat_no ?_
      .have e':x=y:=by simpa using e
       subst e';refine LU ks f8 (i+1) (by simpa [hW] using hs) r2 wt ?_
       have:decide (cX (.str x::ks)<cX (.str x::f8))=decide (cX ks<cX f8):=decide_eq_decide.2 (by rw[RE];simp[List.lt_irrefl])
       rw[<-this];exact h
      .have e':x≠y:=by simpa using e
       have:decide (cX (.str x::ks)<cX (.str y::f8))=decide (x.cps.toList<y.cps.toList):=decide_eq_decide.2 (by rw[RE];simp[e'])
       rw[this] at h;cases(b&&i==0) with
       |true=>exact oneLt_str h
       |false=>exact kat_one _ _ (lt_str h)
end
def mH:List aA->Option String
 |.int _::_=>aa "int"
 |.str _::_=>aa "str"
 |_=>ab
theorem Xn {M:Model}{k:List aA}{b:aD}(hd:Afb h k b)(hk:mH k=aa T) :
  ∃ o xs n f,h.get? b=aa o/\o.cls=.type "tuple" /\ o.data=.seq xs n/\xs[0]?=aa f/\Looks M h (typeOf f) (.type T):=by
 obtain⟨_,_,as,r⟩:=hd;obtain⟨a,o,xs,n,e,ho,hc,hd,hi⟩:=vH r;cases e
 match k,hk,hi with
 |.int i::r,hk,hi=>
  cases hk;generalize hx:xs.toList=l at hi;cases hi with
  |cons h1 _=>
   cases h1 with
   |int _ t=>exact⟨o,xs,n,.int i t,ho,hc,hd,by rw[<-EW,hx];rfl,Looks.of_pure rfl⟩
 |.str x::r,hk,hi=>
  cases hk;generalize hx:xs.toList=l at hi;cases hi with
  |cons h1 _=>
   cases h1 with
   |str _ t=>exact⟨o,xs,n,.str x t,ho,hc,hd,by rw[<-EW,hx];rfl,Looks.of_pure rfl⟩
abbrev Agh (h:aU)(vs:List aF)(kss:List (List aA)):Prop:=eW (λv k=>∃ b,v=fR b/\Afb h k b) vs kss
theorem WL {M:Model}{h:aU}{T:String}:∀ {vs:List aF} {kss:List (List aA)},Agh h vs kss->(∀ k∈kss,mH k=aa T)->∃ fs,KatTups h vs fs/\fs.length=vs.length/\∀ f∈fs,Looks M h (typeOf f) (.type T)
 |_,_,.nil,_=>⟨[],KatTups.nil,rfl,λ_ m=>by simp at m⟩
 |_,_,.cons ⟨b,e,hd⟩ t,hk=>by
  obtain⟨fs,h1,h2,h3⟩:=WL (M:=M) t λk m=>hk k (bN _ m)
  obtain⟨o,xs,n,f,q1,q2,q3,q4,q5⟩:=Xn (M:=M) hd (hk _ bO);subst e;refine⟨f::fs,KatTups.cons q1 q2 q3 q4 h1,by rw[fU,fU,h2],λg m=>?_⟩
  rcases cZ.1 m with rfl|m
  .exact q5
  .exact h3 g m
theorem Agh.get:∀ {vs:List aF} {kss:List (List aA)},Agh h vs kss->∀ i,i<vs.length->∃ b,vs.getD i fT=.ref b/\Afb h (kss.getD i []) b/\kss.getD i []∈kss
 |_,_,.nil,i,hi=>absurd hi (by simp)
 |_,_,.cons ⟨b,e,hd⟩ t,0,_=>⟨b,e,hd,bO⟩
 |_,_,.cons _ t,i+1,hi=>by
  obtain⟨b,q1,q2,q3⟩:=Agh.get t i (by simpa using hi)
  exact⟨b,by simpa using q1,by simpa using q2,by simpa using bN _ q3⟩
theorem Agh.keep(k:∀ b o,h.get? b=aa o->h'.get? b=aa o):∀ {vs:List aF} {kss:List (List aA)},Agh h vs kss->Agh h' vs kss
 |_,_,.nil=>.nil
 |_,_,.cons ⟨b,e,hd⟩ t=>.cons ⟨b,e,hd.keep λb o _ _ q _ _=>k b o q⟩ (Agh.keep k t)
theorem JR:∀ {k k':List aA},hW k k'=af->k.length=k'.length
 |[],[],_=>rfl
 |.int _::r,.int _::r',h=>by rw[fU,fU,JR (by simpa [hW] using h)]
 |.str _::r,.str _::r',h=>by rw[fU,fU,JR (by simpa [hW] using h)]
theorem JO:∀ {vs:List aF} {ks:List aA} {as:List aD},pW h vs ks as->vs.length=ks.length
 |_,_,_,.nil=>rfl
 |_,_,_,.cons _ t=>by rw[fU,fU,JO t]
theorem Td(hl:s.heap.IsList l vs.toArray)(ht:Agh s.heap vs kss)(hT:T = "int" \/ T = "str")(hk:∀ k∈kss,mH k=aa T)(hs:∀ k∈kss,∀ k'∈kss,hW k k'=af)(h2:2<=vs.length)(nh:vs.length<64)
  (h:∀ p:Array Nat,p.Perm (iE (cP vs.length))->gK (OH kss) p vs.length->Q (.ref (s.heap.objs.size+1)) { s with heap:=sortedAll s.heap vs (iE (p.toList.map λi=>vs.getD i fT)) }) :
  aW (aY prog w) A (call (.builtin "sorted") [.ref l]) Q E s:=by
 refine Yy (κ:=tuples' (oO T != oO "tuple")) (Js kss) hl h2 nh (λh' kp A' E' R q=>?_) (λh' kp A' _ i j C hi hj q=>?_) h
 .obtain⟨fs,f1,f2,f3⟩:=WL (M:=aY prog w) (ht.keep kp) hk;exact kat_kind (s:={ s with heap:=h' }) f1 () f3 (by rcases hT with rfl|rfl<;>decide) q
 .have sw:=ht.keep kp;obtain⟨b,e1,⟨_,_,as,r1⟩,m1⟩:=sw.get i hi;obtain⟨b',e2,⟨_,_,sv,r2⟩,m2⟩:=sw.get j hj;rw[e1,e2];obtain⟨_,o,xs,n,z,ho,_,hd,hr⟩:=vH r1;cases z;obtain⟨_,o',i3,n',z,ko,_,km,yo⟩:=vH r2;cases z;have yp:=hs _ m1 _ m2;have l1:=JO hr;have l2:=JO yo;have ll:=JR yp;have:decide (xs.size<i3.size)=ag:=decide_eq_false (by simp only[EV] at l1 l2;lia)
  refine kat_lt (s:={ s with heap:=h' }) ho hd ko km ?_;rw[this];exact LU _ _ 0 yp hr yo q
theorem Wp{P:PySem.Fin->aI->Prop}(ho:s.heap.get? a=aa (iP "list" vs.toArray n))(h2:vs.length<2)(h:P (.done (.ret .none)) { s with heap:=sortedHeap s.heap a vs vs.toArray }) :
  aW (aY prog w) A (Builtin.«list.sort» ⟨[.ref a],[]⟩) P E s:=by
 have lz:vs.length<=sizeLine:=by rw[zG];lia
 obtain⟨e1,sq⟩:∃ e,(s.heap.update a (iD λ_=>(#[]:Array aF))).get? a=aa (iP "list" #[] e):=⟨_,get?_update_seq ho λ_=>#[]⟩
 have sr:(nV s.heap a vs).get? a=aa (iP "list" #[] e1):=cD _ (cD _ sq);rw[list_sort_plain];refine aK (listItems_at ho rfl (aK (listUpdate_at ho rfl (aK (seqEpoch_at sq rfl (aK (wpAny_newTuple (aK (MD (iA ?_) (eB _))) (by simpa using lz))))) (by rw[dX];exact lz) (eB _))))
 dsimp only;have few:vs.toArray.size<2:=by rw[dX];exact h2
 rw[if_pos few,if_pos few];refine aK (aZ ?_);rw[StateT.run_pure];refine aK (aZ ?_);dsimp only;have o0:(arrOf (SortSt.mk' general' (vs.toArray.zip vs.toArray) #[] 7 ab)).map (·.2)=vs.toArray:=by
  apply Ez.1;have:∀ l:List aF,List.map (λx=>x.snd) (l.zip l)=l:=λl=>by
   induction l with
   |nil=>rfl
   |cons a l ih=>rw[NB,cT,ih]
  simpa using this vs
 rw[o0];refine aK (seqEpoch_at sr rfl (aK (listUpdate_at sr rfl ?_ (eB _) (wA (by rw[dX];exact lz)))))
 simp only[bne_self_eq_false,qC,if_false];exact aZ h
theorem Sl(hl:s.heap.IsList l vs.toArray)(h2:vs.length<2)(h:Q (.ref (s.heap.objs.size+1)) { s with heap:=sortedAll s.heap vs vs.toArray }) :
  aW (aY prog w) A (call (.builtin "sorted") [.ref l]) Q E s:=by
 refine Calls.call_function_entry kind_sorted plain_sorted entry_sorted (args_sorted1 _) ?_;unfold Builtin.«sorted»;refine aK (aZ (aK (collect_list hl (aK (MD ?_)))));have z:((s.heap.push (iP "list" #[] 0)).update s.heap.objs.size (iD (· ++ vs.toArray))).objs.size=s.heap.objs.size+1:=by rw[Heap.size_update,size_push']
 have n6:(((s.heap.push (iP "list" #[] 0)).update s.heap.objs.size (iD (· ++ vs.toArray))).push (iP "list" vs.toArray 0)).get? (s.heap.objs.size+1)=aa (iP "list" vs.toArray 0):=z ▸ dM _ rfl;rw[z];refine aK (iA (lT slot_list_sort ⟨_,n6,rfl⟩ entry_list_sort (Wp n6 h2 ⟨_,rfl,?_⟩) (args_list_sort _)));exact aZ ⟨_,rfl,h⟩
theorem HF:∀ {a b:List aA},hW a b=af->cX a=cX b->a=b
 |[],[],_,_=>rfl
 |.int i::r,.int j::r',h,e=>by
  have h':hW r r'=af:=by simpa [hW] using h
  have e':gU (.int i)=gU (.int j)/\cX r=cX r':=by simpa [cX] using e
  rw[IV (.inl ⟨i,rfl⟩) (.inl ⟨j,rfl⟩) e'.1,HF h' e'.2]
 |.str x::r,.str y::r',h,e=>by
  have h':hW r r'=af:=by simpa [hW] using h
  have e':gU (.str x)=gU (.str y)/\cX r=cX r':=by simpa [cX] using e
  rw[IV (.inr ⟨x,rfl⟩) (.inr ⟨y,rfl⟩) e'.1,HF h' e'.2]
def leT (a b:List aA):Bool:=!decide (cX b<cX a)
theorem Ai1 {a b:List aA}:leT a b=af ↔ ¬ cX b<cX a:=by simp[leT]
theorem Yx (a b c:List aA)(h1:leT a b=af)(h2:leT b c=af):leT a c=af:=Ai1.2 (VU _ _ _ (Ai1.1 h1) (Ai1.1 h2))
theorem Zb (a b:List aA):(leT a b||leT b a)=af:=by
 by_cases h:cX b<cX a
 .have:=UE _ _ h;simp[leT,h,this]
 .simp[leT,h]
theorem Wd {a b:List aA}(hs:hW a b=af)(h1:leT a b=af)(h2:leT b a=af):a=b:=by
 have h1:=Ai1.1 h1;have h2:=Ai1.1 h2;exact HF hs (List.le_antisymm h1 h2)
def pD (kss:List (List aA)):List (List aA):=kss.mergeSort leT
def sameAll (kss:List (List aA)):Bool:=kss.all λk=>kss.all λk'=>hW k k'
def k5 (kss:List (List aA)):Bool:=decide (kss.length<2)||(sameAll kss&&kss.all λk=>(mH k).isSome)
theorem CL (kss:List (List aA)):(pD kss).Perm kss:=List.mergeSort_perm kss leT
theorem Tu (kss:List (List aA)):(pD kss).Pairwise λa b=>leT a b=af:=List.pairwise_mergeSort Yx Zb kss
theorem VT {qs:List (List aA)}(hs:k5 kss=af)(hp:qs.Perm kss)(hr:qs.Pairwise λa b=>leT a b=af):qs=pD kss:=by
 have ga:=hp.trans (CL kss).symm;by_cases h2:kss.length<2
 .have l1:qs.length<2:=by rw[hp.length_eq];exact h2
  match qs,l1,ga with
  |[],_,ga=>exact(List.nil_perm.1 ga).symm
  |[q],_,ga=>exact List.singleton_perm.1 ga
 .have oe:sameAll kss=af:=by
   have:(sameAll kss&&kss.all λk=>(mH k).isSome)=af:=by simpa [k5,h2] using hs
   exact(gE.1 this).1
  refine List.Perm.eq_of_pairwise (λa b ma mb h1 h2=>Wd ?_ h1 h2) hr (Tu kss) ga
  have B4:=hp.mem_iff.1 ma;have B5:=(CL kss).mem_iff.1 mb;exact gD.1 (gD.1 oe a B4) b B5
theorem same_kind:∀ {k k':List aA},hW k k'=af->mH k=mH k'
 |[],[],_=>rfl
 |.int _::_,.int _::_,_=>rfl
 |.str _::_,.str _::_,_=>rfl
theorem Pr {k:List aA}(h:mH k=aa T):T = "int" \/ T = "str":=by
 unfold mH at h;split at h
 .cases h;exact .inl rfl
 .cases h;exact .inr rfl
 .cases h
theorem Si(hl:s.heap.IsList l vs.toArray)(ht:Agh s.heap vs kss)(ok:k5 kss=af)(nh:vs.length<64)
  (h:∀ p:List Nat,p.Perm (cP vs.length)->p.map (λi=>kss.getD i [])=pD kss->Q (.ref (s.heap.objs.size+1)) { s with heap:=sortedAll s.heap vs (iE (p.map λi=>vs.getD i fT)) }) :
  aW (aY prog w) A (call (.builtin "sorted") [.ref l]) Q E s:=by
 have ln:=oR ht;have wu:∀ {α:Type} (xs:List α) (d:α),(cP xs.length).map (λi=>xs.getD i d)=xs:=λxs d=>by
  apply En
  .simp
  .intro i h1 h2;simp at h1;simp[h1]
 by_cases h2:vs.length<2
 .refine Sl hl h2 ?_;have:=h (cP vs.length) (List.Perm.refl _) (by
   rw[ln,wu kss];refine VT ok (List.Perm.refl _) ?_
   match kss,ln with
   |[],_=>exact .nil
   |[k],_=>simp
   | _::_::_,ln=>simp at ln;lia)
  rw[wu vs] at this;exact this
 .have hs:sameAll kss=af/\(kss.all λk=>(mH k).isSome)=af:=by
   have nv:¬ kss.length<2:=()
   have:(sameAll kss&&kss.all λk=>(mH k).isSome)=af:=by simpa [k5,nv] using ok
   exact gE.1 this
  obtain⟨k0,m0⟩:∃ k0,k0∈kss:=by
   cases hk:kss with
   |nil=>rw[hk] at ln;exact absurd ln (by simp;intro e;rw[e] at h2;simp at h2)
   |cons k r=>exact⟨k,bO⟩
  obtain⟨T,hT⟩:=vY.1 (gD.1 hs.2 k0 m0);have sm:∀ k∈kss,∀ k'∈kss,hW k k'=af:=λk m k' m'=>gD.1 (gD.1 hs.1 k m) k' m'
  refine Td hl ht (Pr hT) (λk m=>(same_kind (sm k m k0 m0)).trans hT) sm () nh λp hp ha=>?_
  have ga:p.toList.Perm (cP vs.length):=by simpa using Array.perm_iff_toList_perm.1 hp
  have pl:p.toList.length=vs.length:=by rw[ga.length_eq,EL]
  refine h p.toList ga (VT ok ?_ ?_)
  .have:=ga.map (λi=>kss.getD i [])
   rw[ln,wu kss] at this;exact this
  .rw[List.pairwise_map,b8];intro i j hi hj gp;refine Ai1.2 ?_;have:=ha i j (pY gp) ()
   have e1:at' p i=p.toList[i]:=by simp at hi;simp[at',hi]
   have e2:at' p j=p.toList[j]:=by simp at hj;simp[at',hj]
   rw[e1,e2] at this;exact of_decide_eq_false this
abbrev uH (H:Hp)(ys:List V)(kss:List (List aA)):Prop:=eW (λy k=>∃ b,y=V.ref b/\Anx H k b) ys kss
theorem RU:∀ {kss:List (List aA)} {ys:List V},(∀ ks∈kss,bY ks=af/\cY ks<=6)->Aao K H (kss.map dG) ys->uH H ys kss
 |[],ys,_,r=>by rw[Aal.1 r];exact .nil
 |k::kss,ys,hk,r=>by
  obtain⟨v,t,rfl,r1,r2⟩:=Aag.1 r;obtain⟨b,rfl,tk⟩:=r1.tupK (hk k bO).1 (hk k bO).2;exact .cons ⟨b,rfl,tk⟩ (RU (λx m=>hk x (bN _ m)) r2)
theorem SN(x:∀ c zs,H c=aa (.tup zs)->H' c=aa (.tup zs)):∀ {ys:List V} {kss:List (List aA)},uH H ys kss->uH H' ys kss
 |_,_,.nil=>.nil
 |_,_,.cons ⟨b,e,tk⟩ t=>.cons ⟨b,e,tk.keep x⟩ (SN x t)
theorem QQ {P:bP}(ok:HOk P w H h):∀ {ys:List V} {kss:List (List aA)} {vs:List aF},uH H ys kss->Vals ys vs->Agh h vs kss
 |_,_,_,.nil,.nil=>.nil
 |_,_,_,.cons ⟨b,e,tk⟩ t,.cons r rr=>by
  subst e;cases r;exact .cons ⟨b,rfl,key_of ok tk⟩ (QQ ok t rr)
def rZ (p:List Nat)(ys:List V):List V:=p.map λi=>ys.getD i .non
theorem VZ:∀ {ys:List V} {vs:List aF} (i:Nat),Vals ys vs->i<ys.length->RelV (ys.getD i .non) (vs.getD i fT)
 |_,_,0,.cons r _,_=>r
 |_,_,i+1,.cons _ t,h=>VZ i t (by simpa using h)
theorem UQ(r:Vals ys vs):∀ p:List Nat,(∀ i∈p,i<ys.length)->Vals (rZ p ys) (p.map λi=>vs.getD i fT)
 |[],_=>.nil
 |i::p,h=>.cons (VZ i r (h i bO)) (UQ r p λj m=>h j (bN _ m))
theorem YU:Adc X (.builtin "sorted") (λxs H Q=>∃ p ys kss,xs=[.ref p]/\SqL X.K H p ys/\uH H ys kss/\k5 kss=af/\kss.length<64 /\
  ∀ l q,H l=ab->q.Perm (cP ys.length)->q.map (λi=>kss.getD i [])=pD kss->Q (.ref l) (upd H l (.lst (rZ q ys)))):=by
 rw[5];obtain⟨p,ys,kss,rfl,hp,rf,ok,hl,q⟩:=h;obtain⟨u,rfl,ru⟩:=vals1 r;cases ru;obtain⟨its,rv,pl,hz⟩:=I.list hp;have e1:=rv.length;have e2:=oR rf;refine Si pl.isList (QQ I.hok rf rv) ok () λq' ga hs=>?_
 have hq:∀ i∈q',i<ys.length:=λi m=>by
  have:=iS.1 (ga.mem_iff.1 m)
  lia
 obtain⟨e,he⟩:=sortedAll_at s.heap its (iE (q'.map λi=>its.getD i fT))
 have hn:=I.hok.fresh (zP _);have lz:(rZ q' ys).length<=sizeLine:=by
  unfold rZ;rw[bR,ga.length_eq,EL]
  lia
 exact⟨.ref (s.heap.objs.size+1),_,I.laid (t':=s.toks) (o:=.lst (rZ q' ys)) (λb ob g=>sortedAll_old g) (zP _) ⟨lz,_,e,UQ rv q' hq,he⟩,rfl,q _ q' hn (by rw[e1];exact ga) hs⟩
def uL:List aA->Option aA
 |[.list ds]=>(oG ds).bind λkss=>if k5 kss=af/\kss.length<64 then aa (.list ((pD kss).map dG)) else ab
 |_=>ab
theorem UZ:∀ {kss:List (List aA)} {ys:List V} (i:Nat),Aao K H (kss.map dG) ys->i<ys.length->Abr K H (.tuple (kss.getD i [])) (ys.getD i .non)
 |[],ys,i,r,h=>by rw[Aal.1 r] at h;simp at h
 |k::kss,ys,0,r,h=>by
  obtain⟨v,t,rfl,r1,r2⟩:=Aag.1 r;exact r1
 |k::kss,ys,i+1,r,h=>by
  obtain⟨v,t,rfl,r1,r2⟩:=Aag.1 r;exact UZ i r2 (by simpa using h)
theorem VD(r:Aao K H (kss.map dG) ys):∀ p:List Nat,(∀ i∈p,i<ys.length)->Aao K H ((p.map λi=>kss.getD i []).map dG) (rZ p ys)
 |[],_=>Aal.2 rfl
 |i::p,h=>Aag.2 ⟨_,_,rfl,UZ i r (h i bO),VD r p λj m=>h j (bN _ m)⟩
theorem XS:CallD K 1 (λxs H Q=>∃ p ys kss,xs=[.ref p]/\SqL K H p ys/\uH H ys kss/\k5 kss=af/\kss.length<64 /\
  ∀ l q,H l=ab->q.Perm (cP ys.length)->q.map (λi=>kss.getD i [])=pD kss->Q (.ref l) (upd H l (.lst (rZ q ys)))) uL:=λP H xs ds d Q hP r e k=>by
 unfold uL at e;split at e
 .obtain⟨kss,e1,e2⟩:=aj e;obtain⟨⟨ok,hl⟩,rfl⟩:=cR e2;obtain⟨rfl,hk⟩:=SR e1;rw[8];obtain⟨q,ys,rfl,hq,rr⟩:=Abe.1 r';refine⟨q,ys,kss,rfl,Aaq.sqL hq,?_,ok,hl,λl p hn hp hs=>?_⟩
  .exact SN (λc zs g=>Aaq _ _ g) (RU hk rr)
  .have hi:∀ i∈p,i<ys.length:=λi m=>iS.1 (hp.mem_iff.1 m)
   have:=VD rr p hi;rw[hs] at this;exact k.lst hP hn this
 .cases e
def zg:SF:=λ_=>ab
theorem Hc{s:eO}:DS X H0 P0 n0 s zg:=λad st Z H D I q=>by
 obtain⟨B0,Y,fp,o,S,ef,k⟩:=q;cases ef
open PySem PySem.SetTable
def mC (xs:Array Nat):Prop:=∀ a b u v:Nat,a<b->xs[a]?=aa u->xs[b]?=aa v->u<v
theorem JJ {xs:Array Nat}(hr:mC xs):∀ fuel lo hi,hi<=xs.size->lo<=hi->hi-lo<=fuel->(∀ k<lo,∀ v,xs[k]?=aa v->v<j)->(∀ k,hi<=k->∀ v,xs[k]?=aa v->j<=v) ->
  below.go xs j fuel lo hi<=xs.size/\(∀ k<below.go xs j fuel lo hi,∀ v,xs[k]?=aa v->v<j)/\∀ k,below.go xs j fuel lo hi<=k->∀ v,xs[k]?=aa v->j<=v
 |0,lo,hi,h1,h2,h3,hl,hh=>by
  have:lo=hi:=()
  rw[10];unfold below.go;exact⟨h1,hl,hh⟩
 |fuel+1,lo,hi,h1,h2,h3,hl,hh=>by
  unfold below.go;by_cases c:lo<hi
  .rw[if_pos c];have hm:(lo+hi)/2<xs.size:=()
   have em:=EY hm;have eg:xs.getD ((lo+hi)/2) j=xs[(lo+hi)/2]:=by simp[Array.getD,hm]
   simp only[eg];by_cases d:xs[(lo+hi)/2]<j
   .rw[if_pos d];refine JJ hr fuel _ _ h1 () () (λk hk v ev=>?_) hh
    by_cases q:k=(lo+hi)/2
    .subst q;rw[em] at ev;cases ev;exact d
    .have:=hr k ((lo+hi)/2) v _ () ev em
     lia
   .rw[if_neg d];refine JJ hr fuel _ _ () () () hl (λk hk v ev=>?_)
    by_cases q:k=(lo+hi)/2
    .subst q;rw[em] at ev;cases ev;lia
    .have:=hr ((lo+hi)/2) k _ v () em ev
     lia
  all_goals grind
theorem KL {xs:Array Nat}(hr:mC xs)(j:Nat):below xs j<=xs.size/\(∀ k<below xs j,∀ v,xs[k]?=aa v->v<j)/\∀ k,below xs j<=k->∀ v,xs[k]?=aa v->j<=v:=
 JJ hr xs.size 0 xs.size (bI _) (eB _) () (λk hk=>absurd hk ()) (λk hk v ev=>by
  have:=(EX.1 ev).1
  lia)
theorem below_at {xs:Array Nat}(hr:mC xs)(h:xs[i]?=aa j):below xs j=i:=by
 obtain⟨h1,h2,h3⟩:=KL hr j;rcases Ea (below xs j) i with q|q|q
 .have hi:=(EX.1 h).1;have e:xs[below xs j]?=aa (xs[below xs j]'()):=EY ()
  have a:=h3 _ (bI _) _ e;have b:=hr _ _ _ _ q e h
  lia
 all_goals grind
theorem Dd (j:Nat):has #[] j=ag:=by simp[has]
theorem JT {t:kY}(hd:t.dummies = #[])(hr:mC t.place):t.slot j=.live i↔t.place[i]?=aa j:=by
 unfold slot;rw[hd,Dd];dsimp only;constructor
 .grind
 .intro h;rw[below_at hr h,h];simp
theorem Sv {t:kY}(hd:t.dummies = #[])(hr:mC t.place)(h:∀ i:Nat,t.place[i]?≠aa j):t.slot j=.empty:=by
 unfold slot;rw[hd,Dd]
 grind
def ij (mask:Nat)(p:Probe):Probe:=if p.more > 0 then { p with j:=p.j+1,more:=p.more-1 } else
 { p with j:=(leap mask p.i p.perturb).1,more:=runEnd mask (leap mask p.i p.perturb).1-(leap mask p.i p.perturb).1,i:=(leap mask p.i p.perturb).1,perturb:=(leap mask p.i p.perturb).2 }
theorem KJ (t:kY)(p:Probe):t.advance p=ij t.mask p:=by
 unfold advance ij
 rfl
def pN (mask:Nat)(p:Probe):Nat->Probe
 |0=>p
 |n+1=>ij mask (pN mask p n)
theorem GP (mask:Nat)(p:Probe)(a:Nat):∀ b,pN mask (pN mask p a) b=pN mask p (a+b)
 |0=>rfl
 |b+1=>by
  show ij mask (pN mask (pN mask p a) b)=ij mask (pN mask p (a+b));rw[GP mask p a b]
def i8 (mask i bp:Nat):Probe:={ j:=i,more:=runEnd mask i-i,i,perturb:=bp,dummy:=ab }
theorem Kk (mask i:Nat):runEnd mask i-i<=9:=by
 unfold runEnd;split<;>lia
theorem IA (mask i bp:Nat):∀ k,k<=runEnd mask i-i->pN mask (i8 mask i bp) k={ j:=i+k,more:=runEnd mask i-i-k,i,perturb:=bp,dummy:=ab }
 |0,_=>rfl
 |k+1,h=>by
  show ij mask (pN mask (i8 mask i bp) k)=_;rw[IA mask i bp k ()]
  unfold ij
  grind
theorem UA (mask i bp:Nat):pN mask (i8 mask i bp) (runEnd mask i-i+1)=i8 mask (leap mask i bp).1 (leap mask i bp).2:=by
 show ij mask (pN mask (i8 mask i bp) (runEnd mask i-i))=_;rw[IA mask i bp _ (bI _)];unfold ij;rw[if_neg (by show ¬ (runEnd mask i-i-(runEnd mask i-i) > 0);lia)]
 rfl
def lp (mask:Nat)(s:Nat×Nat):Nat->Nat×Nat
 |0=>s
 |m+1=>leap mask (lp mask s m).1 (lp mask s m).2
theorem TM (mask i bp:Nat):∀ m,∃ n,n<=10*m/\pN mask (i8 mask i bp) n=i8 mask (lp mask (i,bp) m).1 (lp mask (i,bp) m).2
 |0=>⟨0,(),rfl⟩
 |m+1=>by
  obtain⟨n,hn,e⟩:=TM mask i bp m;have b:=Kk mask (lp mask (i,bp) m).1;refine⟨n+(runEnd mask (lp mask (i,bp) m).1-(lp mask (i,bp) m).1+1),(),?_⟩
  rw[<-GP,e,UA]
  rfl
theorem Ak (mask i bp:Nat):∀ m,(lp mask (i,bp) m).2=bp/32^m
 |0=>by simp[lp]
 |m+1=>by
  show(lp mask (i,bp) m).2/32=_;rw[Ak mask i bp m,Nat.div_div_eq_div_mul,vZ]
def pv (mask:Nat)(i:Nat):Nat->Nat
 |0=>i
 |m+1=>(pv mask i m*5+1)%(mask+1)
def yJ (mask:Nat):Prop:=mask=7\/mask=31\/mask=127\/mask=511\/mask=2047\/mask=8191
def gN (x:Nat):Nat->Nat
 |0=>x
 |m+1=>gN x m*5+1
theorem Bg (x a:Nat):∀ b,gN (gN x a) b=gN x (a+b)
 |0=>rfl
 |b+1=>by
  show gN (gN x a) b*5+1=gN x (a+b)*5+1;rw[Bg x a b]
theorem ZU (x:Nat):∀ m,4*gN x m+1=5^m*(4*x+1)
 |0=>by simp[gN]
 |m+1=>by
  show 4*(gN x m*5+1)+1=5^(m+1)*(4*x+1);have:=ZU x m
  grind
theorem TX:∀ k,∃ q,5^2^k=1+2^k*(4*(2*q+1))
 |0=>⟨0,rfl⟩
 |k+1=>by
  obtain⟨q,e⟩:=TX k;refine⟨q+2^k*((2*q+1)*(2*q+1)),?_⟩;rw[vZ 2 k,Nat.mul_comm (2^k) 2,Nat.two_mul,Nat.pow_add,e]
  grind
theorem Nf (x k:Nat):∃ q,gN x (2^k)=x+2^k*(2*q+1):=by
 obtain⟨q,e⟩:=TX k;have h:=ZU x (2^k);rw[e] at h;refine⟨q*(4*x+1)+2*x,?_⟩
 grind
theorem Ag:∀ (k x e:Nat),∃ m,m<2^k/\gN x m%2^k=e%2^k
 |0,x,e=>⟨0,by simp,by simp[Nat.mod_one]⟩
 |k+1,x,e=>by
  obtain⟨m,hm,h⟩:=Ag k x e;have hM:=Nat.two_pow_pos k;have sp:∀ y:Nat,y%2^(k+1)=y%2^k+2^k*(y/2^k%2):=λy=>by rw[vZ,Nat.mod_mul]
  have hp:2^(k+1)=2^k+2^k:=by rw[vZ];lia
  by_cases c:gN x m/2^k%2=e/2^k%2
  .grind
  .obtain⟨q,hq⟩:=Nf (gN x m) k;refine⟨m+2^k,(),?_⟩
   rw[<-Bg,hq,sp,sp,Nat.add_mul_mod_self_left,Nat.add_mul_div_left _ _ hM,h]
   congr 2
   lia
theorem Bo (mask i:Nat)(hi:i<=mask):∀ m,pv mask i m=gN i m%(mask+1)
 |0=>by
  show i=i%(mask+1);exact(Nat.mod_eq_of_lt ()).symm
 |m+1=>by
  show(pv mask i m*5+1)%(mask+1)=(gN i m*5+1)%(mask+1);rw[Bo mask i hi m];simp[Nat.add_mod,Nat.mul_mod]
theorem vB {k:Nat}(hk:mask+1=2^k){e:Nat}(hi:i<=mask)(he:e<=mask):∃ m,m<=mask/\pv mask i m=e:=by
 obtain⟨m,h1,h2⟩:=Ag k i e;refine⟨m,(),?_⟩
 rw[Bo mask i hi,hk,h2,<-hk];exact Nat.mod_eq_of_lt ()
theorem Mt(hm:yJ mask){e:Nat}(hi:i<=mask)(he:e<=mask):∃ m,m<=mask/\pv mask i m=e:=by
 rcases hm with rfl|rfl|rfl|rfl|rfl|rfl
 .exact vB (k:=3) rfl hi he
 .exact vB (k:=5) rfl hi he
 .exact vB (k:=7) rfl hi he
 .exact vB (k:=9) rfl hi he
 .exact vB (k:=11) rfl hi he
 .exact vB (k:=13) rfl hi he
theorem HU (h:Int):bits h<2^64:=by
 unfold bits
 grind
theorem Ar(hp:bp<2^64):∀ m,(lp mask (i,bp) (13+m)).1=pv mask (lp mask (i,bp) 13).1 m
 |0=>rfl
 |m+1=>by
  show((lp mask (i,bp) (13+m)).1*5+1+(lp mask (i,bp) (13+m)).2/32)%(mask+1)=(pv mask (lp mask (i,bp) 13).1 m*5+1)%(mask+1);rw[Ar hp m,Ak];have:bp/32^(13+m)=0:=by
   apply Nat.div_eq_of_lt
   grind
  rw[this]
theorem Gw:∀ m,0<m->(lp mask (i,bp) m).1<=mask
 |0,h=>absurd h ()
 |m+1,_=>by
  show((lp mask (i,bp) m).1*5+1+(lp mask (i,bp) m).2/32)%(mask+1)<=mask;have:=EI ((lp mask (i,bp) m).1*5+1+(lp mask (i,bp) m).2/32) (show 0<mask+1 by lia)
  lia
theorem TK(hm:yJ mask){e:Nat}(hp:bp<2^64)(he:e<=mask):∃ m,m<=13+mask/\(lp mask (i,bp) m).1=e:=by
 obtain⟨m,h1,h2⟩:=Mt hm (Gw 13 ()) he
 exact⟨13+m,(),by rw[Ar hp];exact h2⟩
def rd (mask:Nat)(h:Int)(n:Nat):Probe:=pN mask (i8 mask (bits h%(mask+1)) (bits h)) n
theorem Vz(hm:yJ mask)(h:Int){e:Nat}(he:e<=mask):∃ n,n<10*turns mask/\(rd mask h n).j=e:=by
 obtain⟨m,h1,h2⟩:=TK hm (HU h) he;obtain⟨n,h3,h4⟩:=TM mask (bits h%(mask+1)) (bits h) m;refine⟨n,by unfold turns;lia,?_⟩
 unfold rd;rw[h4];exact h2
theorem Ru (mask:Nat)(p:Probe):(ij mask p).dummy=p.dummy:=by
 unfold ij;split<;>rfl
theorem TJ (mask:Nat)(h:Int):∀ n,(rd mask h n).dummy=ab
 |0=>rfl
 |n+1=>by
  show(ij mask (rd mask h n)).dummy=ab;rw[Ru];exact TJ mask h n
def lC (t:kY)(j:Nat):Prop:=∃ i:Nat,t.place[i]?=aa j
structure Good (t:kY)(es:Array (Int×aF)):Prop where
 small:yJ t.mask
 nod:t.dummies = #[]
 ris:mC t.place
 len:t.place.size=es.size
 inb:∀ i j:Nat,t.place[i]?=aa j->j<=t.mask
 room:es.size<=t.mask
 reach:∀ (i j:Nat) (e:Int×aF),t.place[i]?=aa j->es[i]?=aa e->∃ n,(rd t.mask e.1 n).j=j/\∀ m<n,lC t (rd t.mask e.1 m).j
theorem rank {xs:Array Nat}(hr:mC xs):∀ e,(∀ v≤e,∃ i:Nat,xs[i]?=aa v)->∃ i:Nat,xs[i]?=aa e/\e<=i
 |0,h=>by
  grind
 |e+1,h=>by
  obtain⟨i,q,hi⟩:=rank hr e λv hv=>h v ()
  obtain⟨k,qk⟩:=h (e+1) (bI _);refine⟨k,qk,?_⟩;rcases Ea i k with c|c|c
  .lia
  .subst c;rw[q] at qk;simp at qk
  .have:=hr k i _ _ c qk q
   lia
theorem Good.empty {t:kY}{es:Array (Int×aF)}(G:Good t es):∃ e,e<=t.mask/\¬ lC t e:=by
 apply tY;intro hn;have dz:∀ v≤t.mask,∃ i:Nat,t.place[i]?=aa v:=λv hv=>tY λq=>hn ⟨v,hv,q⟩
 obtain⟨i,q,hi⟩:=rank G.ris t.mask dz;have h1:=(EX.1 q).1;have h2:=G.len;have h3:=G.room
 lia
theorem TH {t:kY}(h:¬ lC t j):∀ i:Nat,t.place[i]?≠aa j:=λi e=>h ⟨i,e⟩
section
variable {t:kY}{hashAt:Nat->Int}{h:Int}
theorem RW (hd:t.dummies = #[])(hr:mC t.place):∀ k n fuel,k<fuel->(∀ m,n<=m->m<n+k->∃ i:Nat,t.place[i]?=aa (rd t.mask h m).j/\hashAt i≠h)->¬ lC t (rd t.mask h (n+k)).j ->
  probe.go t hashAt h fuel (rd t.mask h n)=aa (.empty (rd t.mask h (n+k)).j ab)
 |_,_,0,hf,_,_=>absurd hf ()
 |0,n,fuel+1,_,_,he=>by
  rw[Nat.add_zero] at he ⊢;unfold probe.go;rw[Sv hd hr (TH he),TJ]
  rfl
 |k+1,n,fuel+1,hf,hm,he=>by
  obtain⟨i,e,dk⟩:=hm n (bI _) ()
  unfold probe.go;rw[(JT hd hr).2 e];dsimp only;rw[if_neg (by simpa using dk),KJ]
  have:=RW hd hr k (n+1) fuel () (λm a b=>hm m () ()) (by rw[show n+1+k=n+(k+1) by lia];exact he)
  rw[show n+1+k=n+(k+1) by lia] at this
  exact this
theorem PV (hd:t.dummies = #[])(hr:mC t.place){i0:Nat}(h0:hashAt i0=h):∀ k n fuel,k<fuel->(∀ m,n<=m->m<n+k->∃ i:Nat,t.place[i]?=aa (rd t.mask h m).j/\hashAt i≠h)->t.place[i0]?=aa (rd t.mask h (n+k)).j ->
  probe.go t hashAt h fuel (rd t.mask h n)=aa (.candidate (rd t.mask h (n+k)).j i0 (rd t.mask h (n+k+1)))
 |_,_,0,hf,_,_=>absurd hf ()
 |0,n,fuel+1,_,_,he=>by
  rw[Nat.add_zero] at he ⊢;unfold probe.go;rw[(JT hd hr).2 he];dsimp only;rw[if_pos (by simpa using h0),KJ]
  rfl
 |k+1,n,fuel+1,hf,hm,he=>by
  obtain⟨i,e,dk⟩:=hm n (bI _) ()
  unfold probe.go;rw[(JT hd hr).2 e];dsimp only;rw[if_neg (by simpa using dk),KJ]
  have:=PV hd hr h0 k (n+1) fuel () (λm a b=>hm m () ()) (by rw[show n+1+k=n+(k+1) by lia];exact he)
  rw[show n+1+k=n+(k+1) by lia] at this
  exact this
theorem XF (S:Nat->Prop):∀ d n,S (n+d)->∃ k,k<=d/\(∀ m,n<=m->m<n+k->¬ S m)/\S (n+k)
 |0,n,h=>⟨0,bI _,λm a b=>absurd b (),h⟩
 |d+1,n,h=>by
  by_cases c:S n
  .exact⟨0,eB _,λm a b=>absurd b (),c⟩
  .obtain⟨k,h1,h2,h3⟩:=XF S d (n+1) (by rw[show n+1+d=n+(d+1) by lia];exact h)
   refine⟨k+1,(),λm a b=>?_,by rw[show n+(k+1)=n+1+k by lia];exact h3⟩
   grind
theorem Good.next {es:Array (Int×aF)}(G:Good t es)(h:Int)(hv:∀ m<n,lC t (rd t.mask h m).j):∃ k,n+k<10*turns t.mask/\(∀ m,n<=m->m<n+k->∃ i:Nat,t.place[i]?=aa (rd t.mask h m).j/\hashAt i≠h) /\
  ((¬ lC t (rd t.mask h (n+k)).j/\t.probe hashAt h (rd t.mask h n)=aa (.empty (rd t.mask h (n+k)).j ab)) \/
   ∃ i:Nat,t.place[i]?=aa (rd t.mask h (n+k)).j/\hashAt i=h/\t.probe hashAt h (rd t.mask h n)=aa (.candidate (rd t.mask h (n+k)).j i (rd t.mask h (n+k+1)))):=by
 obtain⟨e,he,dk⟩:=G.empty;obtain⟨N,hN,eN⟩:=Vz G.small h he;have B6:n<=N:=by
  grind
 obtain⟨d,rfl⟩:=Nat.exists_eq_add_of_le B6;obtain⟨k,hk,h1,h2⟩:=XF (λm=>¬ lC t (rd t.mask h m).j\/∃ i:Nat,t.place[i]?=aa (rd t.mask h m).j/\hashAt i=h) d n (.inl (by rw[eN];exact dk))
 have hm:∀ m,n<=m->m<n+k->∃ i:Nat,t.place[i]?=aa (rd t.mask h m).j/\hashAt i≠h:=λm a b=>by
  have q:=h1 m a b;obtain⟨i,ei⟩:=tY λz=>q (.inl z)
  grind
 refine⟨k,(),hm,?_⟩
 rcases h2 with h2|⟨i,ei,hi⟩
 .exact .inl ⟨h2,RW G.nod G.ris k n _ () hm h2⟩
 .exact .inr ⟨i,ei,hi,PV G.nod G.ris hi k n _ () hm ei⟩
end
theorem OW (mask:Nat)(h:Int):∀ n,(rd mask h n).j+(rd mask h n).more<=mask
 |0=>by
  show bits h%(mask+1)+(runEnd mask (bits h%(mask+1))-bits h%(mask+1))<=mask;have:=EI (bits h) (show 0<mask+1 by lia)
  unfold runEnd;split<;>lia
 |n+1=>by
  have ih:=OW mask h n;show(ij mask (rd mask h n)).j+(ij mask (rd mask h n)).more<=mask;unfold ij;split
  .grind
  .show(leap mask (rd mask h n).i (rd mask h n).perturb).1+(runEnd mask (leap mask (rd mask h n).i (rd mask h n).perturb).1-(leap mask (rd mask h n).i (rd mask h n).perturb).1)<=mask;have:(leap mask (rd mask h n).i (rd mask h n).perturb).1<mask+1:=EI _ ()
   unfold runEnd;split<;>lia
theorem Ho (mask:Nat)(h:Int)(n:Nat):(rd mask h n).j<=mask:=by
 have:=OW mask h n
 lia
theorem vI {α:Type}(xs:Array α){p:Nat}(hp:p<=xs.size)(x:α)(k:Nat):(insertAt xs p x)[k]?=if k<p then xs[k]? else if k=p then aa x else xs[k-1]?:=by
 rw[<-EW,toList_insertAt]
 grind
theorem Mb {xs:Array Nat}(hr:mC xs)(hj:∀ i:Nat,xs[i]?≠aa j):mC (insertAt xs (below xs j) j):=by
 obtain⟨h1,h2,h3⟩:=KL hr j;intro a b u v yq ea eb;rw[vI xs h1] at ea eb;have lt_of:∀ k w,below xs j<=k->xs[k]?=aa w->j<w:=λk w hk e=>by
  grind
 split at ea
 .split at eb
  .exact hr a b u v yq ea eb
  all_goals grind
 .split at ea
  .grind
  .rw[if_neg (),if_neg ()] at eb
   exact hr (a-1) (b-1) u v () ea eb
theorem IU {α:Type}(xs:Array α)(p:Nat)(x:α):(insertAt xs p x).size=xs.size+1:=by
 rw[<-EV,(insertAt_perm xs p x).length_eq,EV,Array.size_push]
theorem Good.put {t:kY}{es:Array (Int×aF)}(G:Good t es){h:Int}{x:aF}(hv:∀ m<n,lC t (rd t.mask h m).j)(hn:¬ lC t (rd t.mask h n).j)  (sx:es.size<t.mask)(pl:Bool) :
  Good { t with place:=insertAt t.place (below t.place (rd t.mask h n).j) (rd t.mask h n).j,plain:=pl } (insertAt es (below t.place (rd t.mask h n).j) (h,x)):=by
 have hb:=(KL G.ris (rd t.mask h n).j).1;have vc:below t.place (rd t.mask h n).j<=es.size:=by rw[<-G.len];exact hb
 have mono:∀ j,lC t j->∃ i:Nat,(insertAt t.place (below t.place (rd t.mask h n).j) (rd t.mask h n).j)[i]?=aa j:=λj gh=>by
  obtain⟨i,e⟩:=gh;by_cases c:i<below t.place (rd t.mask h n).j
  .exact⟨i,by rw[vI _ hb,if_pos c];exact e⟩
  .exact⟨i+1,by rw[vI _ hb,if_neg (),if_neg ()];exact e⟩
 refine⟨G.small,G.nod,Mb G.ris (TH hn),?_,λi j e=>?_,?_,λi j e ei ee=>?_⟩
 .rw[IU,IU,G.len]
 .have e':=e;rw[vI _ hb] at e';split at e'
  .exact G.inb i j e'
  .split at e'
   .cases e';exact Ho _ _ _
   .exact G.inb _ j e'
 .rw[IU];exact sx
 .have kf:=ei;rw[vI _ hb] at kf;rw[vI _ vc] at ee;by_cases c:i<below t.place (rd t.mask h n).j
  .rw[if_pos c] at kf ee;obtain⟨m,h1,h2⟩:=G.reach i j e kf ee;exact⟨m,h1,λq hq=>mono _ (h2 q hq)⟩
  .rw[if_neg c] at kf ee;by_cases d:i=below t.place (rd t.mask h n).j
   .rw[if_pos d] at kf ee;cases kf;cases ee;exact⟨n,rfl,λq hq=>mono _ (hv q hq)⟩
   .rw[if_neg d] at kf ee;obtain⟨m,h1,h2⟩:=G.reach _ j e kf ee;exact⟨m,h1,λq hq=>mono _ (h2 q hq)⟩
structure Own (mask:Nat)(hs:List Int)(ow:Array (Option Nat)):Prop where
 size:ow.size=mask+1
 lt:∀ j i:Nat,ow[j]?=aa (aa i)->i<hs.length
 inj:∀ j j' i:Nat,ow[j]?=aa (aa i)->ow[j']?=aa (aa i)->j=j'
 all:∀ i<hs.length,∃ j:Nat,ow[j]?=aa (aa i)
 reach:∀ (j i:Nat) (h:Int),ow[j]?=aa (aa i)->hs[i]?=aa h->∃ n,(rd mask h n).j=j/\∀ m<n,∃ i':Nat,ow[(rd mask h m).j]?=aa (aa i')
theorem BP(hj:j<ow.size):ow[j]?=aa ab\/∃ i,ow[j]?=aa (aa i):=by
 rw[EY hj];cases ow[j] with
 |none=>exact .inl rfl
 |some i=>exact .inr ⟨i,rfl⟩
theorem Own.free{hs:List Int}(O:Own mask hs ow)(hl:hs.length<=mask):∃ e,e<=mask/\ow[e]?=aa ab:=by
 apply tY;intro hn;have dz:∀ j≤mask,∃ i:Nat,ow[j]?=aa (aa i):=λj hj=>by
  rcases BP (j:=j) (by rw[O.size];lia) with c|c
  .exact absurd ⟨j,hj,c⟩ hn
  .exact c
 have wv:((cP (mask+1)).map λj=>((ow[j]?).join).getD 0).Nodup:=by
  unfold List.Nodup;rw[List.pairwise_map];refine List.Pairwise.imp_of_mem ?_ List.pairwise_lt_range;intro a b ha hb yq e;obtain⟨i,ei⟩:=dz a (by have:=iS.1 ha;lia)
  obtain⟨i',kf⟩:=dz b (by have:=iS.1 hb;lia)
  rw[ei,kf] at e;have:i=i':=by simpa using e
  rw[10];have:=O.inj a b i ei kf
  lia
 have:=c9 wv (λv m=>by
  obtain⟨j,hj,rfl⟩:=bU.1 m;obtain⟨i,ei⟩:=dz j (by have:=iS.1 hj;lia)
  rw[ei];exact iS.2 (O.lt j i ei))
 simp at this
 lia
theorem TU (mask i bp:Nat):∀ m,lp mask (i,bp) (m+1)=lp mask (leap mask i bp) m
 |0=>rfl
 |m+1=>by
  show leap mask (lp mask (i,bp) (m+1)).1 (lp mask (i,bp) (m+1)).2=_;rw[TU mask i bp m]
  rfl
theorem WG(hz:ow.size=mask+1):∀ (fuel i bp m:Nat),i<=mask->m<fuel->ow[(lp mask (i,bp) m).1]?=aa ab ->
  ∃ n,layClean.free mask ow fuel i bp=aa (pN mask (i8 mask i bp) n).j/\ow[(pN mask (i8 mask i bp) n).j]?=aa ab/\∀ q<n,∃ i':Nat,ow[(pN mask (i8 mask i bp) q).j]?=aa (aa i')
 |0,_,_,_,_,h,_=>absurd h ()
 |fuel+1,i,bp,m,hi,hm,he=>by
  have B7:runEnd mask i<=mask/\i<=runEnd mask i:=by unfold runEnd;split<;>lia
  have uy:∀ k,k<=runEnd mask i-i->(pN mask (i8 mask i bp) k).j=i+k:=λk hk=>by rw[IA mask i bp k hk]
  have hg:∀ k,k<=runEnd mask i-i->((ow.getD (i+k) (aa 0)).isNone=af↔ow[i+k]?=aa ab):=λk hk=>by
   rw[d9];rcases BP (ow:=ow) (j:=i+k) () with c|⟨x,c⟩<;>rw[c]<;>simp
  unfold layClean.free;cases ef:(cP (runEnd mask i+1-i)).find? λk=>(ow.getD (i+k) (aa 0)).isNone with
  |some k=>
   obtain⟨h1,h2,h3⟩:=List.find?_range_eq_some.1 ef;have hk:k<=runEnd mask i-i:=by have:=iS.1 h2;lia
   refine⟨k,by rw[uy k hk],by rw[uy k hk];exact(hg k hk).1 h1,λq hq=>?_⟩
   rw[uy q ()]
   rcases BP (ow:=ow) (j:=i+q) () with c|c
   .have:=h3 q hq;rw[(hg q ()).2 c] at this
    exact absurd this nofun
   .exact c
  |none=>
   have h3:=List.find?_range_eq_none.1 ef;have dz:∀ k,k<=runEnd mask i-i->∃ i':Nat,ow[i+k]?=aa (aa i'):=λk hk=>by
    rcases BP (ow:=ow) (j:=i+k) () with c|c
    .have:=h3 k ()
     rw[(hg k hk).2 c] at this;exact absurd this nofun
    .exact c
   cases m with
   |zero=>
    obtain⟨i',e'⟩:=dz 0 ()
    have B8:ow[i]?=aa ab:=he;rw[Nat.add_zero,B8] at e';cases e'
   |succ m=>
    rw[TU] at he;have o4:(leap mask i bp).1<=mask:=by
     have:(leap mask i bp).1<mask+1:=EI _ ()
     lia
    obtain⟨n,e1,e2,e3⟩:=WG hz fuel (leap mask i bp).1 (leap mask i bp).2 m o4 () he
    have hp:∀ q,pN mask (i8 mask i bp) (runEnd mask i-i+1+q)=pN mask (i8 mask (leap mask i bp).1 (leap mask i bp).2) q:=λq=>by
     rw[<-GP,UA]
    refine⟨runEnd mask i-i+1+n,?_,by rw[hp];exact e2,λq hq=>?_⟩
    .rw[hp];exact e1
    .by_cases c:q<=runEnd mask i-i
     .rw[uy q c];exact dz q c
     .obtain⟨r,rfl⟩:∃ r,q=runEnd mask i-i+1+r:=⟨q-(runEnd mask i-i+1),()⟩
      rw[hp];exact e3 r ()
theorem Own.add(hm:yJ mask){hs:List Int}(O:Own mask hs ow)(hl:hs.length<=mask)(h:Int) :
  ∃ j,layClean.free mask ow (turns mask) (bits h%(mask+1)) (bits h)=aa j/\Own mask (hs++[h]) (ow.setIfInBounds j (aa hs.length)):=by
 obtain⟨e,he,dk⟩:=O.free hl;obtain⟨m,h1,h2⟩:=TK hm (HU h) he;have hi:bits h%(mask+1)<=mask:=by
  have:=EI (bits h) (show 0<mask+1 by lia)
  lia
 obtain⟨n,e1,e2,e3⟩:=WG O.size (turns mask) (bits h%(mask+1)) (bits h) m hi (by unfold turns;lia) (by rw[h2];exact dk)
 have j5:ow[(rd mask h n).j]?=aa ab:=e2;have B9:=(EX.1 j5).1;have get:∀ k:Nat,(ow.setIfInBounds (rd mask h n).j (aa hs.length))[k]?=if (rd mask h n).j=k then aa (aa hs.length) else ow[k]?:=λk=>by
  rw[Array.getElem?_setIfInBounds];by_cases c:(rd mask h n).j=k
  .subst c;simp[B9]
  .rw[if_neg c,if_neg c]
 have mono:∀ k i:Nat,ow[k]?=aa (aa i)->(ow.setIfInBounds (rd mask h n).j (aa hs.length))[k]?=aa (aa i):=λk i q=>by
  rw[get,if_neg (by rintro rfl;rw[j5] at q;cases q)]
  exact q
 refine⟨_,e1,by simpa using O.size,λj i q=>?_,λj j' i q q'=>?_,λi hi=>?_,λj i x q qx=>?_⟩
 .have q:(ow.setIfInBounds (rd mask h n).j (aa hs.length))[j]?=aa (aa i):=q;rw[get] at q;rw[jS,Ef];split at q
  .cases q;lia
  .have:=O.lt j i q;lia
 .have q:(ow.setIfInBounds (rd mask h n).j (aa hs.length))[j]?=aa (aa i):=q;have q':(ow.setIfInBounds (rd mask h n).j (aa hs.length))[j']?=aa (aa i):=q';rw[get] at q q';split at q
  .split at q'
   .lia
   .cases q;have:=O.lt j' _ q'
    lia
  .split at q'
   .cases q';have:=O.lt j _ q
    lia
   .exact O.inj j j' i q q'
 .rw[jS,Ef] at hi;by_cases c:i=hs.length
  .exact⟨(rd mask h n).j,by show(ow.setIfInBounds (rd mask h n).j (aa hs.length))[(rd mask h n).j]?=_;rw[get,if_pos rfl,c]⟩
  .obtain⟨j,q⟩:=O.all i ()
   exact⟨j,mono j i q⟩
 .have q:(ow.setIfInBounds (rd mask h n).j (aa hs.length))[j]?=aa (aa i):=q;rw[get] at q;split at q
  .rename_i hj;cases q;rw[NH (bI _)] at qx;have:h=x:=by simpa using qx
   rw[10];refine⟨n,hj,λq hq=>?_⟩
   obtain⟨i',w⟩:=e3 q hq;exact⟨i',mono _ i' w⟩
  .have cr:=O.lt j i q;rw[EN cr] at qx;obtain⟨n',a,b⟩:=O.reach j i x q qx;refine⟨n',a,λr hr=>?_⟩
   obtain⟨i',w⟩:=b r hr;exact⟨i',mono _ i' w⟩
structure Fine (t:kY)(es:Array (Int×aF)):Prop where
 good:Good t es
 few:es.size*5<t.mask*3/\es.size<=4914
theorem Fine.fits {t:kY}{es:Array (Int×aF)}(F:Fine t es):t.fits es.size=af:=by
 have h1:=F.good.len;have h2:=F.good.nod;have h3:=F.good.room;simp[SetTable.fits,SetTable.fill,h1,h2,h3]
open PySem PySem.Spec PyProof.Rows PySem.SetTable
def OX (w:bE):Bool:=w.params.followText "set-order"
abbrev A8b (led:Bool):bK:={ cls:=.type "set",dict:=ab,data:=.set #[] 0 (.fresh 0 0 led) }
theorem Good.met {t:kY}{es:Array (Int×aF)}{f:Nat->Int}{h:Int}{r:Option Met}(G:Good t es)(hv:∀ m<n,lC t (rd t.mask h m).j)(heq:t.probe f h (rd t.mask h n)=r)(hf:∀ (i:Nat) e,es[i]?=aa e->f i=e.1) :
  ∃ N,n<=N/\N<10*turns t.mask/\(∀ m,n<=m->m<N->∃ (i:Nat) (e:Int×aF),t.place[i]?=aa (rd t.mask h m).j/\es[i]?=aa e/\e.1≠h) /\
   ((¬ lC t (rd t.mask h N).j/\r=aa (.empty (rd t.mask h N).j ab))\/∃ (i:Nat) (e:Int×aF),t.place[i]?=aa (rd t.mask h N).j/\es[i]?=aa e/\e.1=h/\r=aa (.candidate (rd t.mask h N).j i (rd t.mask h (N+1)))):=by
 obtain⟨k,h1,h2,h3⟩:=G.next h hv;have el:∀ i j:Nat,t.place[i]?=aa j->∃ e,es[i]?=aa e:=λi j q=>by
  have:=(EX.1 q).1;rw[G.len] at this;exact⟨es[i],EY this⟩
 refine⟨n+k,(),h1,λm a b=>?_,?_⟩
 .obtain⟨i,e1,e2⟩:=h2 m a b;obtain⟨e,ee⟩:=el i _ e1;exact⟨i,e,e1,ee,by rw[<-hf i e ee];exact e2⟩
 .grind
section
variable {B:List aA->aD->Prop}
def G0 (w:bE)(B:List aA->aD->Prop)(h:aU)(e:Int×aF)(k:List aA):Prop:=∃ b,e.2=.ref b/\e.1=qH w (.tuple k)/\Afb h k b/\B k b
structure SetAt (w:bE)(B:List aA->aD->Prop)(h:aU)(a:aD)(o:bK)(es:Array (Int×aF))(ep:Nat)(t:kY)(ks:List (List aA)):Prop where
 get:h.get? a=aa o
 exact:o.ExactSet
 data:o.data=.set es ep t
 fine:Fine t es
 led:t.led=!OX w
 plain:t.plain=af
 els:eW (G0 w B h) es.toList ks
 nod:ks.Nodup
end
section
variable {B:List aA->aD->Prop}
theorem LS {α β:Type}{R R':α->β->Prop}(f:∀ a b,R a b->R' a b):∀ {as:List α} {bs:List β},eW R as bs->eW R' as bs
 |_,_,.nil=>.nil
 |_,_,.cons h t=>.cons (f _ _ h) (LS f t)
def SetT (w:bE)(B:List aA->aD->Prop)(h:aU)(a:aD)(ks:List (List aA)):Prop:=∃ o es ep t f8,SetAt w B h a o es ep t f8/\f8.Perm ks
end
section
variable {B:List aA->aD->Prop}
theorem SetT.len{ks:List (List aA)}(S:SetT w B h a ks):∃ o es ep t,h.get? a=aa o/\o.ExactSet/\o.data=.set es ep t/\t.fits es.size=af/\es.size=ks.length:=by
 obtain⟨o,es,ep,t,f8,be,p⟩:=S;refine⟨o,es,ep,t,be.get,be.exact,be.data,be.fine.fits,?_⟩;have:=oR be.els;rw[EV] at this;rw[this,p.length_eq]
theorem SetT.keep{ks:List (List aA)}(S:SetT w B h a ks)(k1:∀ o,h.get? a=aa o->h'.get? a=aa o)(k2:∀ b o vs n,h.get? b=aa o->o.cls=.type "tuple" -> o.data=.seq vs n->h'.get? b=aa o):SetT w B h' a ks:=by
 obtain⟨o,es,ep,t,f8,be,p⟩:=S;exact⟨o,es,ep,t,f8,⟨k1 o be.get,be.exact,be.data,be.fine,be.led,be.plain,LS (λe k ⟨b,q1,q2,q3,q4⟩=>⟨b,q1,q2,q3.keep k2,q4⟩) be.els,be.nod⟩,p⟩
end
abbrev Refs (H:Hp)(ys:List V)(kss:List (List aA)):Prop:=eW (λy k=>∃ b,y=V.ref b/\Anx H k b) ys kss
theorem Refs.le(x:∀ c zs,H c=aa (.tup zs)->H' c=aa (.tup zs))(r:Refs H ys kss):Refs H' ys kss:=LS (λy k ⟨b,e,t⟩=>⟨b,e,t.keep x⟩) r
instance memK (k:aH)(ar:List aH):Decidable (k∈ar):=decidable_of_iff (ar.any (λx=>decide (x=k))=af) (by simp[iF])
def Bgw (prog:bP)(w:bE)(h:aU)(a:aD)(ks:List aH):Prop:=h.SetOf (fG prog w) a (λk=>decide (k∈ks)) ks.length
theorem Bgw.keep(S:Bgw prog w h a ks)(k:∀ o,h.get? a=aa o->h'.get? a=aa o):Bgw prog w h' a ks:=by
 obtain⟨o,es,ep,t,ho,rest⟩:=S;exact⟨o,es,ep,t,k o ho,rest⟩
theorem Bgw.congr{S:aH->Bool}(x:h.SetOf (fG prog w) a S n)(e1:∀ k,S k=decide (k∈ks))(e2:n=ks.length):Bgw prog w h a ks:=by
 have:S=λk=>decide (k∈ks):=funext e1
 rw[10];subst e2;exact x
def F9 (prog:bP)(w:bE)(e:Int×aF)(n:Int):Prop:=e.1=(intKind prog w).hash n/\∃ t,e.2=.int n t
structure IntsAt (prog:bP)(w:bE)(h:aU)(a:aD)(o:bK)(es:Array (Int×aF))(ep:Nat)(t:kY)(ns:List Int):Prop where
 get:h.get? a=aa o
 exact:o.ExactSet
 data:o.data=.set es ep t
 fine:Fine t es
 led:t.led=!OX w
 plain:t.plain=af
 els:eW (F9 prog w) es.toList ns
 nod:ns.Nodup
def Bhh (prog:bP)(w:bE)(h:aU)(a:aD)(ns:List Int):Prop:=∃ o es ep t uz,IntsAt prog w h a o es ep t uz/\uz.Perm ns
theorem Bhh.keep{ns:List Int}(S:Bhh prog w h a ns)(k:∀ o,h.get? a=aa o->h'.get? a=aa o):Bhh prog w h' a ns:=by
 obtain⟨o,es,ep,t,uz,S,p⟩:=S;exact⟨o,es,ep,t,uz,⟨k o S.get,S.exact,S.data,S.fine,S.led,S.plain,S.els,S.nod⟩,p⟩
theorem Qe {k k':aH}{v:aF}(r:RelV (kV k) u)(r':RelV (kV k') v):NA u v (decide (k=k')):=by
 intro prog w A E s Q q;cases k with
 |inl i=>
  obtain⟨t,rfl⟩:=(show ∃ t,u=tU i t from r)
  cases k' with
  |inl j=>
   obtain⟨t',rfl⟩:=(show ∃ t,v=tU j t from r')
   refine SeqAt.EqAt.int_int i t j t' prog w E Q ?_;have:(i==j)=decide ((vU i:aH)=vU j):=by
    rw[hJ];simp
   rw[this];exact q
  |inr y=>
   obtain⟨t',rfl⟩:=(show ∃ t,v=tT y t from r')
   exact SeqAt.EqAt.int_str i t y t' prog w E Q (by simpa using q)
 |inr x=>
  obtain⟨t,rfl⟩:=(show ∃ t,u=tT x t from r)
  cases k' with
  |inl j=>
   obtain⟨t',rfl⟩:=(show ∃ t,v=tU j t from r')
   exact SeqAt.EqAt.str_int x t j t' prog w E Q (by simpa using q)
  |inr y=>
   obtain⟨t',rfl⟩:=(show ∃ t,v=tT y t from r')
   refine SeqAt.EqAt.str_str x t y t' prog w E Q ?_;have:(x==y)=decide ((jJ x:aH)=jJ y):=by
    rw[hJ];simp
   rw[this];exact q
theorem Vs (l:aD)(us:Array aF)(n:Nat)(dd:Option aD)(sl:Array (Option aF))(x:aF)(e:aF->Bool)(he:∀ y,y∈us->NA y x (e y))(cy:Int)(j:Nat)(hj:j<us.size)(ht:(j:Int)<cy)(hit:e us[j]=af) :
  ∀ (k i:Nat),j-i=k->i<=j->(∀ m (hm:m<us.size),i<=m->m<j->e us[m]=ag)->Meets (Builtin.«list.index.loop» ⟨[.ref l,x,jP i,jP cy],[]⟩)
   (λ_ R s=>s.heap.get? l=aa { cls:=.type "list",dict:=dd,data:=.seq us n,slots:=sl }/\R (.ok (.ret (.int j s.toks))) { s with toks:=s.toks+1 }):=by
 intro k;induction k with
 |zero=>
  intro i hk gp jf prog w A R s h;obtain⟨hp,g,d,tk,os⟩:=s;obtain⟨hl,h⟩:=h;obtain rfl:i=j:=()
  wp_walk using wpAny_loadPart' hl
  rw[show(if (i:Int)<cy then us[((i:Nat):Int).toNat]? else ab)=aa us[i] by simp[ht,hj]]
  refine aK (he _ (Array.getElem_mem hj) prog w _ _ _ _ ?_);rw[hit]
  wp_walk
  exact h
 |succ k ih=>
  intro i hk gp jf prog w A R s h;obtain⟨hp,g,d,tk,os⟩:=s;obtain⟨hl,h⟩:=h;have lt:i<us.size:=()
  have lo:(i:Int)<cy:=()
  wp_walk using wpAny_loadPart' hl
  rw[show(if (i:Int)<cy then us[((i:Nat):Int).toNat]? else ab)=aa us[i] by simp[lo,lt]]
  refine aK (he _ (Array.getElem_mem lt) prog w _ _ _ _ ?_);rw[jf i lt (bI _) ()]
  wp_walk
  rw[show((i:Int)+1)=((i+1:Nat):Int) by push_cast;rfl]
  refine⟨zH MZ _,zI MeetsSeq.entry_index_loop ?_⟩;rw[AA MZ _];exact ih (i+1) () () (λm hm h1 h2=>jf m hm () h2) prog w A R _ ⟨hl,h⟩
theorem Ys (l:aD)(us:Array aF)(n:Nat)(dd:Option aD)(sl:Array (Option aF))(x:aF)(e:aF->Bool)(he:∀ y,y∈us->NA y x (e y))(j:Nat)(hj:j<us.size)(small:(j:Int)<2^63-1)(hit:e us[j]=af)(jf:∀ m (hm:m<us.size),m<j->e us[m]=ag) :
  Meets (Builtin.«list.index» ⟨[.ref l,x],[]⟩) (λ_ R s=>s.heap.get? l=aa { cls:=.type "list",dict:=dd,data:=.seq us n,slots:=sl }/\R (.ok (.ret (.int j s.toks))) { s with toks:=s.toks+1 }):=by
 intro prog w A R s h;obtain⟨hp,g,d,tk,os⟩:=s;obtain⟨hl,h⟩:=h
 wp_walk using wpAny_loadPart' hl
 rw[show((λi:Int=>if i<0 then max 0 (i+(us.size:Int)) else i) ((ab:Option Int).getD 0))=((0:Nat):Int) by simp,show((λi:Int=>if i<0 then max 0 (i+(us.size:Int)) else i) ((ab:Option Int).getD (2^63-1)))=2^63-1 by simp]
 refine⟨zH MZ _,zI MeetsSeq.entry_index_loop ?_⟩;rw[AA MZ _];exact Vs l us n dd sl x e he (2^63-1) j hj small hit _ 0 rfl (eB _) (λm hm _ h2=>jf m hm h2) prog w A R _ ⟨hl,h⟩
def ik (ks:List aH)(k:aH):Option Nat:=ks.findIdx? λy=>decide (y=k)
theorem RO{k:aH}(h:ik ks k=aa j):ks[j]?=aa k/\∀ m,m<j->ks[m]?≠aa k:=by
 obtain⟨hj,h1,h2⟩:=List.findIdx?_eq_some_iff_getElem.1 h;refine⟨by rw[eR hj,of_decide_eq_true h1],λm hm e=>?_⟩
 have:=h2 m hm;have hl:m<ks.length:=()
 rw[eR hl] at e;exact this (decide_eq_true (gQ e))
theorem CI:∀ {ks:List aH} {us:List aF},Vals (ks.map kV) us->∀ (m:Nat) (hm:m<us.length),∃ k,ks[m]?=aa k/\RelV (kV k) us[m]
 |[],_,.nil,m,hm=>by simp at hm
 |k::ks,_::us,.cons h t,0,hm=>⟨k,rfl,h⟩
 |k::ks,_::us,.cons h t,m+1,hm=>by
  obtain⟨k',e,r⟩:=CI t m (by simpa using hm)
  exact⟨k',by simpa using e,by simpa using r⟩
def jz (k:aH)(u:aF):Bool:=match k,u with
 |.inl i,.int j _=>decide (j=i)
 |.inr x,.str y _=>decide (y=x)
 |_,_=>ag
theorem HY {k k':aH}(r:RelV (kV k) u):jz k' u=decide (k=k'):=by
 cases k with
 |inl i=>
  obtain⟨t,rfl⟩:=(show ∃ t,u=tU i t from r)
  cases k' with
  |inl j=>simp[jz]
  |inr y=>simp[jz]
 |inr x=>
  obtain⟨t,rfl⟩:=(show ∃ t,u=tT x t from r)
  cases k' with
  |inl j=>simp[jz]
  |inr y=>simp[jz]
def Pz (K:aM):V->List V->Hp->VK->Prop:=λx vs H Q=>∃ p ks k j,x=.ref p/\vs=[kV k]/\SqL K H p (ks.map kV)/\ik ks k=aa j/\Q (.int j) H
theorem VQ{k:aH}{us:List aF}{v:aF}(r:Vals (ks.map kV) us)(rk:RelV (kV k) v)(h:ik ks k=aa j) :
  (∀ y,y∈us.toArray->NA y v (jz k y))/\∃ hj:j<us.toArray.size,jz k us.toArray[j]=af/\∀ m (hm:m<us.toArray.size),m<j->jz k us.toArray[m]=ag:=by
 obtain⟨h1,h2⟩:=RO h;have hl:ks.length=us.length:=by simpa using r.length
 have hj:j<us.length:=by rw[<-hl];exact(cW.1 h1).1
 refine⟨λy m=>?_,by simpa using hj,?_,λm hm cr=>?_⟩
 .obtain⟨i,hi,rfl⟩:=rH (show y∈us by simpa using m)
  obtain⟨k',e,rr⟩:=CI r i hi;rw[HY rr];exact Qe rr rk
 .obtain⟨k',e,rr⟩:=CI r j hj;rw[h1] at e;cases e;show jz k us[j]=af;rw[HY rr];simp
 .have qp:m<us.length:=by simpa using hm
  obtain⟨k',e,rr⟩:=CI r m qp;show jz k us[m]=ag;rw[HY rr];exact decide_eq_false λq=>h2 m cr (q ▸ e)
theorem Qq:MtR X "list.index" (Pz X.K):=by
 intro ad s Z H x vs v us Q I rx rv h;obtain⟨p,ks,k,j,rfl,rfl,hp,hj,q⟩:=h;cases rx;obtain⟨u,rfl,ru⟩:=rv.one;obtain⟨its,r,pl,hz⟩:=I.list hp;obtain⟨he,cr,hit,jf⟩:=VQ r ru hj;obtain⟨⟨cls,dd,data,sl⟩,n,e,hc,_,hd⟩:=pl;simp only at hc hd;subst hc hd;have hn:=qK;have lz:its.toArray.size<=sizeLine:=by rw[dX,<-r.length];exact hz
 refine zJ Zw ⟨_,e,rfl⟩ PySem.F.entry_list_index (PySem.F.args_list_index_2 _ _) (Ys p its.toArray n dd sl u (jz k) he j cr () hit jf) ⟨e,⟨.int j,H,I.tok _,⟨_,rfl⟩,q⟩⟩
def mJ:List aA->Option (List aH)
 |[]=>aa []
 |d::r=>(bM d).bind λk=>(mJ r).bind λks=>aa (k::ks)
theorem KB:∀ {ds:List aA} {xs:List V} {ks:List aH},mJ ds=aa ks->Aao K H ds xs->xs=ks.map kV
 |[],xs,ks,e,r=>by
  cases e;exact Aal.1 r
 |d::ds,xs,ks,e,r=>by
  obtain⟨k,e1,e2⟩:=aj (show((bM d).bind λk=>(mJ ds).bind λks=>aa (k::ks))=aa ks from e)
  obtain⟨f8,e3,e4⟩:=aj e2;cases e4;obtain⟨v,t,rfl,h1,h2⟩:=Aag.1 r;rw[kB e1 h1,KB e3 h2]
  rfl
def FN (ds:List aA)(d:aA):Option aA:=(mJ ds).bind λks=>(bM d).bind λk=>(ik ks k).bind λj=>aa (.int j)
section
variable {k:aR}{fo:EF}
theorem Qu{r:aA}(h:FN ds d=aa r):∃ ks kk j,mJ ds=aa ks/\bM d=aa kk/\ik ks kk=aa j/\r=.int j:=by
 obtain⟨ks,e1,h⟩:=aj h;obtain⟨kk,e2,h⟩:=aj h;obtain⟨j,e3,h⟩:=aj h;cases h;exact⟨ks,kk,j,e1,e2,e3,rfl⟩
def IE:aA->aA->Option aA
 |.list ds,d=>FN ds d
 |_,_=>ab
theorem Rc (ho:DE X o fo)(hk:DE X k fk)(q5:Bm X o k [] "index" aq av:=by exact⟨rfl,rfl,rfl,rfl,rfl⟩) :
  DE X (.Call (.Attribute o "index" aq) [k] [] av) (ah IE fo fk):=
 PE.imp (lG tV Zw PySem.F.type_list_index Qq ho (eZ hk iH q5.s) q5) λZ H Q gh=>by
  obtain⟨P,Y,d,hP,rs,ef,kk⟩:=gh;obtain⟨d1,e1,bv⟩:=aj ef;obtain⟨d2,e2,bh⟩:=aj bv;cases d1 with
  |list ds=>
   obtain⟨ks,key,j,g1,g2,g3,rfl⟩:=Qu (show FN ds d2=aa d from bh)
   refine⟨P,Y,_,hP,rs,e1,dJ λv H1 x1 r1=>?_⟩
   obtain⟨q,ys,rfl,hq,rr⟩:=Abe.1 r1;obtain rfl:=KB g1 rr;refine⟨.inl ⟨rfl,_,Aaq.sqL hq⟩,P,Y,d2,hP.ext x1,rs.ext (cK x1),e2,dJ λu H2 x2 r2=>?_⟩
   exact⟨q,ks,key,j,rfl,by rw[kB g2 r2],x2.sqL (Aaq.sqL hq),g3,kk.zero (x1.trans x2) (Aai.2 rfl)⟩
  |_=>cases bh
theorem KH:∀ {ds:List aA} {xs:List V} (n:Nat),Aao K H ds xs->Aao K H (ds.eraseIdx n) (xs.eraseIdx n)
 |[],xs,n,r=>by
  rw[Aal.1 r];exact Aal.2 rfl
 |d::ds,xs,0,r=>by
  obtain⟨v,t,rfl,h1,h2⟩:=Aag.1 r;exact h2
 |d::ds,xs,n+1,r=>by
  obtain⟨v,t,rfl,h1,h2⟩:=Aag.1 r;exact Aag.2 ⟨v,_,rfl,h1,KH n h2⟩
theorem xZ {j pos}:DF 1 X (.Constant .none j pos) (eC .none):=PE.imp Aj λZ H Q gh=>by
 rw[4];cases ef;exact k .non H [] Ext.refl .nil (λa m=>by simp at m) ⟨rfl,Abp.2 rfl⟩
end
def anyB (xs:List V):Bool:=xs.any λv=>decide (v=.bl af)
theorem Yq (hc:X.calm=af):Adc X (.builtin "any") (λxs H Q=>∃ p ys,xs=[.ref p]/\SqL X.K H p ys/\(∀ y∈ys,∃ b,y=.bl b)/\Q (.bl (anyB ys)) H):=by
 rw[5];obtain⟨p,ys,rfl,hs,hb,q⟩:=h;obtain⟨u,rfl,ru⟩:=vals1 r;cases ru;obtain⟨its,rv,pl,hz⟩:=I.list hs;have hl:=pl.isList;have cr:p<s.heap.objs.size:=by obtain⟨o,n,e,_⟩:=pl;exact bZ e
 have len:=rv.length;refine call_any_walk (zF hl ⟨s.heap.objs.size,_,_,_,_,_,λi=>decide (ys[i]?=aa (.bl af)),rfl,Walks.list (A:=X.A.in1) (I.ok.hd hc) s.heap.objs.size p (eD cr) its.toArray,
  ⟨⟨_,dM _ rfl,rfl,rfl⟩,hl.at λo e=>cD _ e⟩,?_,?_⟩)
 .intro i v s' Q' E' hv hq;have rn:its[i]?=aa v:=by simpa using hv
  have hi:i<ys.length:=by rw[len];exact(cW.1 rn).1
  obtain⟨b,hy⟩:=hb ys[i] (kH hi);have jg:ys[i]?=aa (.bl b):=by rw[eR hi,hy]
  obtain⟨u',h1,h2⟩:=rv.get jg;rw[rn] at h1;cases h1;cases h2;refine yX ?_;have:decide (ys[i]?=aa (V.bl af))=b:=by rw[jg];cases b<;>simp
  have hq:Q' (decide (ys[i]?=aa (V.bl af))) s':=hq;rw[this] at hq;exact hq
 .intro h' tk hk;have e:((cP its.toArray.size).any λi=>decide (ys[i]?=aa (V.bl af)))=anyB ys:=by
   have hn:its.toArray.size=ys.length:=by simp[len]
   rw[hn];unfold anyB;rw[hJ];simp only[iF,iS,decide_eq_true_eq];constructor
   .rintro⟨i,hi,h⟩;exact⟨_,eX h,rfl⟩
   .rintro⟨v,hv,rfl⟩;obtain⟨i,hi,e⟩:=rH hv;exact⟨i,hi,by rw[eR hi,e]⟩
  rw[e];refine⟨.bl (anyB ys),H,?_,rfl,q⟩;exact I.kept λb o eb=>hk b o (by simp;exact eD (bZ eb)) (cD _ eb)
theorem boot_any:lV "any" = aa (.builtin "any"):=by rw[0]
def AG:List aA->Option aA
 |[.list ds]=>(pO ds).bind λbs=>aa (.bool (bs.any id))
 |_=>ab
theorem Rg:CallD K 0 (λxs H Q=>∃ p ys,xs=[.ref p]/\SqL K H p ys/\(∀ y∈ys,∃ b,y=.bl b)/\Q (.bl (anyB ys)) H) AG:=λP H xs ds d Q hP r e k=>by
 unfold AG at e;split at e
 .obtain⟨bs,e1,e2⟩:=aj e;cases e2;rw[8];obtain⟨q,ys,rfl,hq,rr⟩:=Abe.1 r';obtain rfl:=JG e1 rr;refine⟨q,_,rfl,Aaq.sqL hq,λy m=>?_,k.zero Ext.refl (Aay.2 ?_)⟩
  .obtain⟨b,_,rfl⟩:=bU.1 m;exact⟨b,rfl⟩
  .unfold anyB;rw[zT]
   congr 2
   funext b;cases b<;>simp
 .cases e
def Nc:V->List V->Hp->VK->Prop:=λx vs H Q=>∃ p ks k j,x=.ref p/\vs=[kV k]/\H p=aa (.lst (ks.map kV))/\ik ks k=aa j/\Q .non (upd H p (.lst ((ks.eraseIdx j).map kV)))
theorem Qy:qd X "list.remove" Nc:=by
 intro ad s Z H x vs v us Q I rx rv h;obtain⟨p,ks,k,j,rfl,rfl,hp,hj,q⟩:=h;cases rx;obtain⟨u,rfl,ru⟩:=rv.one;obtain⟨z,its,n,r,hl,e⟩:=I.lstM hp;obtain⟨he,cr,hit,jf⟩:=VQ r ru hj;refine zJ F.slot_list_remove ⟨_,e,rfl⟩ F.entry_list_remove (F.args_list_remove_2 _ _) (MeetsSeq.list_remove p its.toArray n u (jz k) he j cr hit jf (by rw[dX];lia)) ⟨e,?_⟩
 have ee:(ks.eraseIdx j).map kV=(ks.map kV).eraseIdx j:=by
  have go:∀ (xs:List aH) (n:Nat),(xs.eraseIdx n).map kV=(xs.map kV).eraseIdx n:=by
   intro xs;induction xs with
   |nil=>intro n;simp
   |cons x xs ih=>
    intro n;cases n with
    |zero=>rfl
    |succ n=>rw[qA,cT,cT,qA,ih]
  exact go ks j
 refine⟨.non,_,I.lset hp e ?_ (by rw[ee];exact r.eraseIdx j) ?_,rfl,q⟩
 .rw[c8]
 .have:=UM (ks.map kV) j;rw[ee]
  lia
def mP (i:Nat)(m:Md)(f:EF):SF:=λY=>(eV 0 m f Y).bind λd=>(getL i Y).bind λds=>(mJ ds).bind λks=>(bM d).bind λk=>(ik ks k).bind λj=>aa (.nx (Y.set i (aa (1,.list (ds.eraseIdx j)))))
theorem VR (i:Nat)(m:Md)(he:DE X e f)(hN:Nm X i x:=by exact gL)(q5:Bm X (.Name x px) e [] "remove" aq av:=by exact⟨rfl,rfl,rfl,rfl,rfl⟩)
  (fy:iO (.Call (.Attribute (.Name x px) "remove" aq) [e] [] av) ab pos.line X.env=pure ag:=by rfl):DS X H0 P0 n0 (.Expr (.Call (.Attribute (.Name x px) "remove" aq) [e] [] av) pos) (mP i m f):=
 PS.imp (nP (lG tV PySem.F.slot_list_remove PySem.F.type_list_remove Qy (hN.pe) (eZ (ev m he) iH q5.s) q5) fy) λD Z H gh=>by
  rw[6];obtain⟨d,e1,bv⟩:=aj ef;obtain⟨ds,e2,bh⟩:=aj bv;obtain⟨ks,e3,bx⟩:=aj bh;obtain⟨key,e4,df⟩:=aj bx;obtain⟨j,e5,gq⟩:=aj df;cases gq;obtain⟨p,xs,h1,h2,_,_⟩:=S.lst1 (nZ e2);refine⟨.ref p,h1,.inl ⟨rfl,xs,SqL.of h2⟩,B0,Y,fp,d,S,e1,λv H2 gh=>?_⟩
  obtain⟨cc,S2,r2⟩:=gh;obtain⟨p2,p8,q1,q2,q3,q4⟩:=S2.lst1 (nZ e2);have:p2=p:=by rw[h1] at q1;cases q1;rfl
  rw[10];obtain rfl:=KB e3 q3;have ee:(ks.eraseIdx j).map kV=(ks.map kV).eraseIdx j:=by
   have go:∀ (xs:List aH) (n:Nat),(xs.eraseIdx n).map kV=(xs.map kV).eraseIdx n:=by
    intro xs;induction xs with
    |nil=>intro n;simp
    |cons x xs ih=>
     intro n;cases n with
     |zero=>rfl
     |succ n=>rw[qA,cT,cT,qA,ih]
   exact go ks j
  refine⟨p2,ks,key,j,rfl,by rw[kB e4 r2.2],q2,e5,?_⟩
  rw[ee];exact k _ _ cc (q4 _ _ (KH j q3))
section
variable {Z:St}
theorem own1 {B:Hp}(h:Afz K B H 1 (.list ds) v F):∃ p xs,v=.ref p/\H p=aa (.lst xs)/\F=[p]/\Aao K B ds xs:=by
 obtain⟨p,xs,Fs,rfl,hp,hF,h3⟩:=h;obtain⟨r,hn⟩:=CA h3;exact⟨p,xs,rfl,hp,by rw[hF,hn],r⟩
theorem BO {B:Hp}{p:aD}(hp:H p=aa (.lst xs))(r:Aao K B ds xs):Afz K B H 1 (.list ds) (.ref p) [p]:=by
 obtain⟨q1,q2⟩:=yK r;exact⟨p,xs,_,rfl,hp,by rw[q2],q1⟩
theorem Fh {B:Hp}{a b:List aA}(h:Afz K B H 2 (.tuple [.list a,.list b]) v F) :
  ∃ q p p' xs ys,v=.ref q/\B q=aa (.tup [.ref p,.ref p'])/\F=[p,p']/\H p=aa (.lst xs)/\H p'=aa (.lst ys)/\Aao K B a xs/\Aao K B b ys:=by
 rcases h with⟨h0,_⟩|⟨_,q,us,Fs,rfl,hq,rfl,h3⟩
 .cases h0
 .cases h3 with
  |cons h1 t=>
   cases t with
   |cons h2 t=>
    cases t with
    |nil=>
     obtain⟨p,xs,rfl,hp,rfl,r⟩:=own1 h1;obtain⟨p',ys,rfl,ga,rfl,r'⟩:=own1 h2;exact⟨q,p,p',xs,ys,rfl,hq,rfl,hp,ga,r,r'⟩
theorem Oz {B:Hp}{a b:List aA}{q p p':aD}(hq:B q=aa (.tup [.ref p,.ref p']))(h1:H p=aa (.lst xs))(h2:H p'=aa (.lst ys))(r1:Aao K B a xs)(r2:Aao K B b ys) :
  Afz K B H 2 (.tuple [.list a,.list b]) (.ref q) [p,p']:=
 .inr ⟨nofun,q,_,[[p],[p']],rfl,hq,rfl,.cons (BO h1 r1) (.cons (BO h2 r2) .nil)⟩
end
section
variable {lq:bL}
def Bi (i j:Nat):SF:=λY=>(getL i Y).bind λa=>(getL j Y).bind λb=>aa (.rt (.tuple [.list a,.list b]))
theorem Xl (i j:Nat){x1}(gp:i≠j)(hN:Nm X i x:=by exact gL)(Ch:Nm X j y:=by exact gL):DS X H0 P0 2 (.Return (aa (.Tuple [.Name x px,.Name y py] x1 je)) pos) (Bi i j):=
 PS.imp (BD (Bd (eZ (hN.pe) (eZ (Ch.pe) iH)))) λD Z H gh=>by
  rw[6];obtain⟨a,e1,ef⟩:=aj ef;obtain⟨b,e2,ef⟩:=aj ef;cases ef;obtain⟨v,h1,r1⟩:=S.slot i 1 _ (nZ e1);obtain⟨v',h2,r2⟩:=S.slot j 1 _ (nZ e2);obtain⟨p,xs,rfl,hp,hF,q1⟩:=own1 r1;obtain⟨p',ys,rfl,ga,C0,q2⟩:=own1 r2;have mp:p∈fp i:=by rw[hF];exact bO
  have ww:p'∈fp j:=by rw[C0];exact bO
  have C1:p≠p':=λz=>gp (S.dj i j p mp (by rw[z];exact ww))
  refine⟨_,h1,_,h2,by show 2<=sizeLine;rw[zG];lia,λq hq=>k _ _ ⟨[p,p'],S.ext.trans (Ext.new hq),?_,?_,?_⟩⟩
  .simp[C1]
  .intro c m;rcases cZ.1 m with rfl|m
   .exact⟨(S.own i _ mp).1,_,Ext.new hq _ _ hp⟩
   .rw[cM.1 m];exact⟨(S.own j _ ww).1,_,Ext.new hq _ _ ga⟩
  .have nq:∀ {c:aD} {oo:HO},H c=aa oo->c≠q:=λec z=>by rw[z,hq] at ec;cases ec
   have xb:Ext (L2.hid H (Hd P0 fp)) (L2.hid (upd H q (.tup [.ref p,.ref p'])) (dh P0 [p,p'])):=λc oo ec=>by
    obtain⟨nc,ec⟩:=Ab3.1 ec;refine Ab3.2 ⟨λz=>?_,Ext.new hq _ _ ec⟩
    rcases z with z|z
    .exact nc (.inl z)
    .rcases cZ.1 z with rfl|z
     .exact nc (.inr ⟨i,mp⟩)
     .rw[cM.1 z] at nc;exact nc (.inr ⟨j,ww⟩)
   refine Oz (Ab3.2 ⟨λz=>?_,eI⟩) (Ext.new hq _ _ hp) (Ext.new hq _ _ ga) (q1.ext xb) (q2.ext xb)
   rcases z with z|z
   .exact(S.hd.ext S.ext).new hq z
   .rcases cZ.1 z with z|z
    .exact nq hp z.symm
    .exact nq ga (cM.1 z).symm
end
section
variable {a b:aR}{lq:bL}
def xn (c:Int):aA->Option aA
 |.tuple [.list a,.list b]=>if c=0 then aa (.list a) else if c=1 then aa (.list b) else ab
 |_=>ab
def uE (c:Int)(f:EF):EF:=λY=>(f Y).bind (xn c)
theorem Nt {c:Int}{jj}(h:DF 2 X e f)(hs:xP (.Constant (.int c) jj lq):=by exact λ_ _=>rfl):DF 1 X (.Subscript e (.Constant (.int c) jj lq) pos) (uE c f):=
 PE.imp (DD AQ h Bp hs) λZ H Q gh=>by
  rw[4];obtain⟨d2,e1,ef⟩:=aj ef;unfold xn at ef;split at ef
  .rename_i la lb;refine⟨P,Y,_,hP,rs,e1,λv H' Fr xx nd fr r=>?_⟩
   obtain⟨q,p,p',xs,ys,rfl,hq,rfl,hp,ga,r1,r2⟩:=Fh r;have yr:=(Ab3.1 hq).2;by_cases c0:c=0
   .rw[if_pos c0] at ef;cases ef;subst c0;refine .inr (.inl ⟨q,_,0,.ref p,rfl,rfl,SqT.of yr,rfl,k _ _ [p] xx (by simp) (λz m=>fr z (by rw[cM.1 m];simp)) (BO hp (r1.ext (gP λz hz=>?_)))⟩)
    grind
   .rw[if_neg c0] at ef;obtain⟨c1,rfl⟩:=cR ef;subst c1;refine .inr (.inl ⟨q,_,1,.ref p',rfl,rfl,SqT.of yr,rfl,k _ _ [p'] xx (by simp) (λz m=>fr z (by rw[cM.1 m];simp)) (BO ga (r2.ext (gP λz hz=>?_)))⟩)
    grind
  .cases ef
def ZY (m:Md)(t:BF)(i:Nat)(f:EF):SF:=λY=>(bV m t Y).bind λb=>if b=af then lF i 1 Y else bQ 1 .s f Y
theorem Vk{t:BF}(m:Md)(i:Nat)(hc:DT X c t)(he:DF 1 X e f)(hN:Nm X i x:=by exact gL):DS X H0 P0 1 (.Return (aa (.IfExp c (.Name x px) e lq)) pos) (ZY m t i f):=
 PS.imp (BD (IK (t8 m hc) (hN.pe) (ev .s he))) λD Z H gh=>by
  rw[6];obtain⟨b,e1,ef⟩:=aj ef;refine⟨B0,Y,fp,b,S,e1,λH1 S1=>?_⟩
  cases b with
  |true=>
   replace ef:lF i 1 Y=aa o:=by simpa using ef
   unfold lF at ef;cases q:Y[i]? with
   |none=>rw[q] at ef;simp at ef
   |some z=>
    cases z with
    |none=>rw[q] at ef;simp at ef
    |some z=>
     obtain⟨n,d⟩:=z;rw[q] at ef;obtain⟨rfl,rfl⟩:=cR ef;obtain⟨v,h1,h2⟩:=S1.slot i _ d q;refine oF ⟨v,h1,k v H1 ⟨fp i,S1.ext,S1.nd i,λa m=>⟨(S1.own i a m).1,?_⟩,h2.keep (gP λa h=>?_) λa m=>rfl⟩⟩
     .rcases(S1.own i a m).2 with⟨xs,e⟩|⟨xs,e⟩
      all_goals grind
     all_goals grind
  |false=>
   replace ef:bQ 1 .s f Y=aa o:=by simpa using ef
   obtain⟨d,e2,ef⟩:=aj ef;cases ef;exact oH ⟨B0,Y,fp,d,S1,e2,λv H' t=>k v H' t.ret⟩
end
section
variable {k:aR}
theorem Tmp.free{Z:St}(t:Tmp K H0 P0 B0 Y Z n d v H):∃ fp,Sta K H0 P0 B0 Y Z H fp/\Abr K (L2.hid H (Hd P0 fp)) d v:=by
 obtain⟨fp,S,r⟩:=t;have cw:∀ a,Hd P0 (λj=>if j=Y.length then [] else fp j) a->Hd P0 fp a:=λa h=>by
  grind
 refine⟨λj=>if j=Y.length then [] else fp j,⟨S.len,λj=>?_,λj k a h1 h2=>?_,λj a h1=>?_,S.ext,S.hd,S.base.trans (gP cw),λj n' d' e'=>?_⟩,r.share (gP cw) λa m o q=>fL (λz=>?_) q⟩
 .by_cases hj:j=Y.length
  .simp only[hj,if_true];exact .nil
  .simp only[hj,if_false];exact S.nd j
 .by_cases hj:j=Y.length
  .simp only[hj,if_true] at h1;simp at h1
  .by_cases hk:k=Y.length
   .simp only[hk,if_true] at h2;simp at h2
   .simp only[hj,if_false] at h1;simp only[hk,if_false] at h2;exact S.dj j k a h1 h2
 .by_cases hj:j=Y.length
  .simp only[hj,if_true] at h1;simp at h1
  .simp only[hj,if_false] at h1;exact S.own j a h1
 .have cr:=(cW.1 e').1;have hj:j≠Y.length:=()
  obtain⟨v',h1,h2⟩:=S.slot j n' d' e';refine⟨v',h1,?_⟩;simp only[hj,if_false];exact h2.keep (gP cw) λa m=>rfl
 .rcases z with z|⟨k,z⟩
  .exact S.np m z
  .by_cases hk:k=Y.length
   .simp only[hk,if_true] at z;simp at z
   .simp only[hk,if_false] at z;exact hk (S.dj k _ a z m)
def AZ (i:Nat)(m:Md)(f:EF)(mk:Md)(g:EF):SF:=λY=>(eV 1 m f Y).bind λd=>(getL i Y).bind λds=>(eV 0 mk g Y).bind λk=>match k with
 |.int j=>(fg ds.length j).bind λj=>aa (.nx (Y.set i (aa (1,.list (ds.set j d)))))
 |_=>ab
theorem Xt (i:Nat)(m mk:Md)(he:DF 1 X e f)(hk:DE X k g)(hN:Nm X i x:=by exact gL)
  (ha:∀ v,iI (.Subscript (.Name x px) k aq) X.env v=(do
   let ov <-kX [v] (bW (.Name x px) X.env)
   let iv <-kX [v,ov] (bW k X.env)
   standAt aq
   kX [v,ov,iv] (setItem ov iv v)
   release [v,ov,iv] []):=by intro _;rfl)
  (hs:DY [.Subscript (.Name x px) k aq] e pos.line X.env=pure ag:=by rfl) (hw:DZ [.Subscript (.Name x px) k aq] e X.env=pure ab:=by rfl)
  (h1:(eQ [.Subscript (.Name x px) k aq] X.env).map (·.2)=[iI (.Subscript (.Name x px) k aq) X.env]:=by rfl):DS X H0 P0 n0 (.Assign [.Subscript (.Name x px) k aq] e pos) (AZ i m f mk g):=
 PS.imp (AS (ev m he) (GI (hN.pe) hk set_list ha) hs hw h1) λD Z H gh=>by
  obtain⟨B0,Y,fp,o,S,ef,kk⟩:=gh;obtain⟨d,e1,bv⟩:=aj ef;obtain⟨ds,e2,bh⟩:=aj bv;obtain⟨kd,e3,bx⟩:=aj bh;clear ef bv bh;cases kd with
  |int j=>
   obtain⟨jn,e5,df⟩:=aj (show((fg ds.length j).bind λj=>aa (Out.nx (Y.set i (aa (1,.list (ds.set j d))))))=aa o from bx)
   cases df;refine⟨B0,Y,fp,d,S,e1,λv H2 t=>?_⟩
   obtain⟨cc,S2,r2⟩:=t.free;obtain⟨p,xs,h1,h2,_,_⟩:=S2.lst1 (nZ e2);refine⟨.ref p,h1,mG S2 e3 (by simp[dS]) λu H3 x3 r3=>?_⟩
   have S3:=S2.grow x3;obtain⟨p3,gi,q1,q2,q3,q4⟩:=S3.lst1 (nZ e2);have:p3=p:=by rw[h1] at q1;cases q1;rfl
   rw[10];exact⟨p3,gi,j,jn,rfl,Aai.1 r3,q2,by rw[q3.length];exact e5,kk _ _ cc (q4 _ _ (q3.set (r2.ext (cK x3)) jn))⟩
  |_=>cases bx
end
section
variable {Z:St}
theorem Sta.change{bw:Nat->List aD}{d':aA}(S:Sta K H0 P0 B0 Y Z H fp)(hi:i<Y.length)(hv:Z[i]?=aa (aa v))
  (hf:∀ j,j≠i->j<Y.length->bw j=fp j) (hz:∀ j,Y.length<=j->bw j=[]\/bw j=fp j) (nd:(bw i).Nodup) (sub:∀ a∈bw i,∃ j,a∈fp j/\(j=i\/bw j=[]))
  (kp:∀ a,a∉fp i->H' a=H a) (ow:∀ a∈bw i,(∃ xs,H' a=aa (.lst xs))\/∃ q:DQ,H' a=aa (dO q))
  (new:Ext (L2.hid H (Hd P0 fp)) (L2.hid H' (Hd P0 bw))->Afz K (L2.hid H' (Hd P0 bw)) H' n d' v (bw i)):Sta K H0 P0 B0 (Y.set i (aa (n,d'))) Z H' bw:=by
 have same:∀ j,j≠i->∀ a∈bw j,a∈fp j:=λj hj a m=>by
  grind
 have from_:∀ j,∀ a∈bw j,∃ l,a∈fp l:=λj a m=>by
  grind
 have xb:Ext (L2.hid H (Hd P0 fp)) (L2.hid H' (Hd P0 bw)):=λb o e=>by
  obtain⟨nb,e⟩:=Ab3.1 e;refine fL (λq=>nb ?_) ?_
  all_goals grind
 have dv:∀ j,j≠i->∀ a∈bw j,H' a=H a:=λj hj a m=>kp a λq=>hj (S.dj j i a (same j hj a m) q)
 refine⟨by simp[S.len],λj=>?_,λj l a h1 h2=>?_,λj a m=>?_,λb u e=>?_,S.hd,S.base.trans xb,λj n' d2 e=>?_⟩
 .by_cases h:j=i
  .rw[h];exact nd
  .by_cases h2:j<Y.length
   .rw[hf j h h2];exact S.nd j
   .rcases hz j () with e|e
    .rw[e];exact .nil
    .rw[e];exact S.nd j
 .by_cases e1:j=i<;>by_cases e2:l=i
  .rw[e1,e2]
  .subst e1;obtain⟨m,hm,C2⟩:=sub a h1;have:=S.dj m l a hm (same l e2 a h2)
   grind
  .subst e2;obtain⟨m,hm,C2⟩:=sub a h2;have:=S.dj m j a hm (same j e1 a h1)
   grind
  .exact S.dj j l a (same j e1 a h1) (same l e2 a h2)
 .obtain⟨l,ml⟩:=from_ j a m;refine⟨(S.own l a ml).1,?_⟩;by_cases h:j=i
  .subst h;exact ow a m
  .rw[dv j h a m];exact(S.own j a (same j h a m)).2
 .rw[kp b λq=>by rw[(S.own i b q).1] at e;cases e]
  exact S.ext b u e
 .by_cases q:j=i
  .grind
  .rw[mW (λz=>q z.symm)] at e
   obtain⟨v2,h1,h2⟩:=S.slot j n' d2 e;have hj:=(cW.1 e).1;refine⟨v2,h1,?_⟩;have:=dv j q;rw[hf j q hj] at this ⊢;exact h2.keep xb this
abbrev R1 (K:aM)(B H:Hp)(m:Nat:=1):aA×aA->aH×V->List aD->Prop:=λkd kv f=>kd.1=kD kv.1/\Afz K B H m kd.2 kv.2 f
def CM (c m:Nat):Prop:=(c=2/\m=1)\/(c=10/\m=9)
theorem He {B:Hp}{c:Nat}(hc:CM c m){ds:List (aA×aA)}(h:∃ p,∃ xs:Nat×List (aH×V),∃ Fs,v=.ref p/\H p=aa (.dK xs.1 xs.2)/\F=p::Fs.flatten/\All3 (R1 K B H m) ds xs.2 Fs):Afz K B H c (.dict ds) v F:=by
 obtain⟨p,xs,Fs,e,hp,hF,h3⟩:=h;rcases hc with⟨rfl,rfl⟩|⟨rfl,rfl⟩
 .exact⟨p,xs,Fs,e,hp,hF,h3⟩
 .exact fM ⟨ds,p,Fs,xs,rfl,e,hp,hF,h3⟩
theorem Sta.dicC {c:Nat}(hc:CM c m){ds:List (aA×aA)}(S:Sta K H0 P0 B0 Y Z H fp)(e:Y[i]?=aa (aa (c,.dict ds))):∃ p ep xs Fs,Z[i]?=aa (aa (.ref p))/\H p=aa (.dK ep xs)/\fp i=p::Fs.flatten/\All3 (R1 K (L2.hid H (Hd P0 fp)) H m) ds xs Fs:=by
 obtain⟨v,h1,h2⟩:=S.slot i c _ e;rcases hc with⟨rfl,rfl⟩|⟨rfl,rfl⟩
 .obtain⟨p,xs,Fs,rfl,hp,hF,h3⟩:=h2;exact⟨p,xs.1,xs.2,Fs,h1,hp,hF,h3⟩
 .rcases(show _\/Bhe _ _ _ _ _ _ from h2) with⟨z,_⟩|⟨jt,p,Fs,xs,z,rfl,hp,hF,h3⟩<;>cases z
  exact⟨p,xs.1,xs.2,Fs,h1,hp,hF,h3⟩
theorem Sta.dic2 {ds:List (aA×aA)}(S:Sta K H0 P0 B0 Y Z H fp)(e:Y[i]?=aa (aa (2,.dict ds))):∃ p ep xs Fs,Z[i]?=aa (aa (.ref p))/\H p=aa (.dK ep xs)/\fp i=p::Fs.flatten/\All3 (R1 K (L2.hid H (Hd P0 fp)) H) ds xs Fs:=S.dicC (.inl ⟨rfl,rfl⟩) e
def kL:List (aA×aA)->aH->aA->List (aA×aA)
 |[],_,_=>[]
 |(k0,d0)::r,k,d=>if bM k0=aa k then(k0,d)::r else(k0,d0)::kL r k d
theorem KC (k0 d0:aA)(r:List (aA×aA))(k:aH):bJ ((k0,d0)::r) k=if bM k0=aa k then aa d0 else bJ r k:=by
 unfold bJ
 grind
theorem JY {B:Hp}{k:aH}:∀ {ds:List (aA×aA)} {xs:List (aH×V)} {Fs:List (List aD)},All3 (R1 K B H m) ds xs Fs->Fs.flatten.Nodup->∀ d,bJ ds k=aa d ->
  ∃ v f,f∈Fs/\dR xs k=aa v/\Afz K B H m d v f/\∀ (B' H':Hp) (d':aA),Ext B B'->Afz K B' H' m d' v f->(∀ a,a∉f->H' a=H a)->All3 (R1 K B' H' m) (kL ds k d') xs Fs
 |_,_,_,.nil,_,d,e=>by simp[bJ] at e
 |(k0,d0)::ds,(k',v0)::xs,f0::Fs,.cons h t,nd,d,e=>by
  obtain⟨ek,h⟩:=h;have ek:=ek;subst ek;rw[KC,iN] at e;rw[iT,kG] at nd;by_cases q:k'=k
  .rw[if_pos (by rw[q])] at e
   cases e;refine⟨v0,f0,bO,kA q,h,λB' H' d' xb r kp=>?_⟩
   show All3 _ (if bM (kD k')=aa k then(kD k',d')::ds else _) _ _
   rw[if_pos (by rw[iN,q])]
   refine .cons ⟨rfl,r⟩ (t.imp λa b c mm rr=>⟨rr.1,rr.2.keep xb λz hz=>kp z λz2=>?_⟩)
   exact nd.2.2 z z2 z (gA.2 ⟨c,mm,hz⟩) rfl
  .rw[if_neg (λz=>q (gQ z))] at e
   obtain⟨v,f,mm,h1,h2,h3⟩:=JY t nd.2.1 d e;refine⟨v,f,bN _ mm,(jN q).trans h1,h2,λB' H' d' xb r kp=>?_⟩
   show All3 _ (if bM (kD k')=aa k then(kD k',d')::ds else(kD k',d0)::kL ds k d') _ _
   rw[if_neg (by rw[iN];exact λz=>q (gQ z))]
   refine .cons ⟨rfl,h.keep xb λz hz=>kp z λz2=>?_⟩ (h3 B' H' d' xb r kp)
   exact nd.2.2 z hz z (gA.2 ⟨f,mm,z2⟩) rfl
theorem Sta.inner {ds:List (aA×aA)}{k:aH}{es:List aA}(S:Sta K H0 P0 B0 Y Z H fp)(e:Y[i]?=aa (aa (2,.dict ds)))(hk:bJ ds k=aa (.list es)):∃ p ep xs q ys,Z[i]?=aa (aa (.ref p))/\H p=aa (.dK ep xs)/\dR xs k=aa (.ref q)/\H q=aa (.lst ys)/\Aao K (L2.hid H (Hd P0 fp)) es ys /\
  ∀ ir ie,Aao K (L2.hid H (Hd P0 fp)) ir ie->Sta K H0 P0 B0 (Y.set i (aa (2,.dict (kL ds k (.list ir))))) Z (upd H q (.lst ie)) fp:=by
 obtain⟨p,ep,xs,Fs,h1,h2,h3,h4⟩:=S.dic2 e;have nd:=S.nd i;rw[h3,iJ] at nd;obtain⟨v,f,mf,hv,hr,up⟩:=JY h4 nd.2 _ hk;obtain⟨q,ys,Gs,rfl,hq,hF,g3⟩:=hr;obtain⟨r,hn⟩:=CA g3;rw[hn] at hF;refine⟨p,ep,xs,q,ys,h1,h2,hv,hq,r,λir ie r'=>?_⟩
 have mq:q∈fp i:=by
  rw[h3];exact bN _ (gA.2 ⟨f,mf,by rw[hF];exact bO⟩)
 have wx:p≠q:=λz=>nd.1 (gA.2 ⟨f,mf,by rw[hF,z];exact bO⟩)
 refine S.change (cW.1 e).1 h1 (λ_ _ _=>rfl) (λ_ _=>.inr rfl) (S.nd i) (λa m=>⟨i,m,.inl rfl⟩) (λa na=>cO λz=>na (z ▸ mq)) (λa m=>?_) λxb=>?_
 .by_cases z:a=q
  .subst z;exact .inl ⟨ie,eI⟩
  .rw[cO z];exact(S.own i a m).2
 .refine⟨p,(ep,xs),Fs,rfl,by rw[cO wx];exact h2,h3,up _ _ _ xb ?_ λa na=>cO λz=>na (by rw[hF,z];exact bO)⟩
  obtain⟨q1,q2⟩:=yK (r'.ext xb);exact⟨q,ie,_,rfl,eI,by rw[hF,q2],q1⟩
theorem VG {B:Hp}{kd:aA×aA}{kv:aH×V}{f:List aD}(h:R1 K B H m kd kv f):∀ {ds:List (aA×aA)} {xs:List (aH×V)} {Fs:List (List aD)},All3 (R1 K B H m) ds xs Fs->All3 (R1 K B H m) (ds++[kd]) (xs++[kv]) (Fs++[f])
 |_,_,_,.nil=>.cons h .nil
 |_,_,_,.cons h' t=>.cons h' (VG h t)
theorem JM {B:Hp}{k:aH}:∀ {ds:List (aA×aA)} {xs:List (aH×V)} {Fs:List (List aD)},All3 (R1 K B H m) ds xs Fs->bJ ds k=ab->dR xs k=ab
 |_,_,_,.nil,_=>rfl
 |(k0,d0)::ds,(k',v0)::xs,f0::Fs,.cons h t,e=>by
  obtain⟨ek,h⟩:=h;have ek:=ek;subst ek;rw[KC,iN] at e;by_cases q:k'=k
  .rw[if_pos (by rw[q])] at e;cases e
  .rw[if_neg (λz=>q (gQ z))] at e
   exact(jN q).trans (JM t e)
theorem IW {B:Hp}:∀ {ds:List (aA×aA)} {xs:List (aH×V)} {Fs:List (List aD)},All3 (R1 K B H m) ds xs Fs->xs.length=ds.length
 |_,_,_,.nil=>rfl
 |_,_,_,.cons _ t=>by rw[fU,fU,IW t]
theorem Sta.putG {c:Nat}{ds:List (aA×aA)}{xs:List (aH×V)}{p:aD}{A C Fs:List (List aD)}(S:Sta K H0 P0 B0 Y Z H fp)(hi:i<Y.length)(h1:Z[i]?=aa (aa (.ref p)))(h3:fp i=p::Fs.flatten)(sub:∀ a,a∈(A++C).flatten->a∈Fs.flatten)(nf:(A++C).flatten.Nodup)(r:Afz K (L2.hid H (Hd P0 fp)) H m d v (fp Y.length))(hc:CM c m)
  (up:∀ B',Ext (L2.hid H (Hd P0 fp)) B'->Afz K B' (upd H p (.dK n xs)) m d v (fp Y.length)->(∀ g∈A++C,∀ a∈g,upd H p (.dK n xs) a=H a)->All3 (R1 K B' (upd H p (.dK n xs)) m) ds xs (A++fp Y.length::C)) :
  ∃ bw,Sta K H0 P0 B0 (Y.set i (aa (c,.dict ds))) Z (upd H p (.dK n xs)) bw:=by
 have nd:=S.nd i;rw[h3,iJ] at nd;have mp:p∈fp i:=by rw[h3];exact bO
 have nl:∀ a∈fp Y.length,a∉fp i:=λa m m2=>by
  have:=S.dj _ _ a m m2
  lia
 have mem:∀ a,a∈p::(A++fp Y.length::C).flatten↔a=p\/a∈(A++C).flatten\/a∈fp Y.length:=λa=>by
  grind
 refine⟨λj=>if j=i then p::(A++fp Y.length::C).flatten else if j=Y.length then [] else fp j,S.change hi h1 (λj a b=>?_) (λj a=>?_) ?_ (λa m=>?_) (λa na=>cO λz=>na (by rw[show a=p from z];exact mp)) (λa m=>?_) λxb=>?_⟩
 .grind
 .grind
 .simp only[if_true];rw[List.flatten_append] at nf;simp only[List.flatten_append,iT];have n1:=kG.1 nf;have pn:∀ a,a∈A.flatten\/a∈C.flatten->a≠p:=λa m z=>nd.1 (by
   rw[<-z];exact sub a (by simpa using m))
  refine iJ.2 ⟨λm=>?_,kG.2 ⟨n1.1,kG.2 ⟨S.nd _,n1.2.1,λa ha b hb z=>?_⟩,λa ha b hb z=>?_⟩⟩
  all_goals grind
 .grind
 .simp only[if_true] at m;by_cases z:a=p
  .subst z;exact .inr ⟨.inl (n,_),eI⟩
  .rw[cO z];rcases(mem a).1 m with m|m|m
   .exact absurd m z
   .exact(S.own i a (by rw[h3];exact bN _ (sub a m))).2
   .exact(S.own _ a m).2
 .simp only[if_true];refine He hc ⟨p,(n,xs),A++fp Y.length::C,rfl,eI,rfl,up _ xb (Afz.keep xb (λa m=>cO λz=>nl a m (by rw[show a=p from z];exact mp)) r) λg mg a ma=>cO λz=>nd.1 ?_⟩
  have z:=z;rw[<-z];exact sub a (gA.2 ⟨g,mg,ma⟩)
theorem Sta.newKey {c:Nat}{ds:List (aA×aA)}{k:aH}(S:Sta K H0 P0 B0 Y Z H fp)(e:Y[i]?=aa (aa (c,.dict ds)))(hk:bJ ds k=ab)(r:Afz K (L2.hid H (Hd P0 fp)) H m d v (fp Y.length))(hc:CM c m:=by exact .inl ⟨rfl,rfl⟩):∃ p ep xs,Z[i]?=aa (aa (.ref p))/\H p=aa (.dK ep xs)/\xs.length=ds.length /\
  ∀ n,∃ bw,Sta K H0 P0 B0 (Y.set i (aa (c,.dict (ds++[(kD k,d)])))) Z (upd H p (.dK n (putK xs k v))) bw:=by
 obtain⟨p,ep,xs,Fs,h1,h2,h3,h4⟩:=S.dicC hc e;have hi:=(cW.1 e).1;refine⟨p,ep,xs,h1,h2,IW h4,λn=>?_⟩
 have g9:putK xs k v=xs++[(k,v)]:=by
  unfold putK;rw[vE,JM h4 hk]
  rfl
 have nd:=S.nd i;rw[h3,iJ] at nd;rw[g9];exact S.putG (C:=[]) hi h1 h3 (λa m=>by simpa using m) (by simpa using nd.2) r hc λB' xb rk kp=>VG ⟨rfl,rk⟩ (h4.imp λa b c' mm rr=>⟨rr.1,Afz.keep xb (kp c' (by simpa using mm)) rr.2⟩)
end
def nC (i:Nat)(Y:aP)(c:Nat:=2):Option (List (aA×aA)):=match Y[i]? with
 |some (aa (n,.dict ds))=>if n=c then aa ds else ab
 |_=>ab
theorem mN {c:Nat}{ds:List (aA×aA)}(h:nC i Y c=aa ds):Y[i]?=aa (aa (c,.dict ds)):=by
 unfold nC at h
 grind
section
variable {k:aR}
theorem Xc:DF 2 X (.Dict [] [] pos) (eC (.dict [])):=PE.imp RS λZ H Q gh=>by
 rw[4];cases ef;refine λq hq=>k (.ref q) _ [q] (Ext.new hq) (iJ.2 ⟨by simp,.nil⟩) (λa m=>?_) ⟨q,(0,[]),[],rfl,eI,rfl,.nil⟩
 have:a=q:=by simpa using m
 rw[10];exact⟨hq,_,eI⟩
end
def QR:V->List V->Hp->VK->Prop:=λx vs H Q=>∃ d ep kvs k y,x=.ref d/\vs=[kV k,y]/\H d=aa (.dK ep kvs)/\kvs.length<sizeLine /\
 ((∃ u,dR kvs k=aa u/\Q u H)\/(dR kvs k=ab/\∀ n,Q y (upd H d (.dK n (putK kvs k y)))))
theorem CD:qd X "dict.setdefault" QR:=by
 intro ad s Z H x vs v us Q I rx rv h;obtain⟨d,ep,kvs,k,y,rfl,rfl,e,l,q⟩:=h;cases rx;cases rv with
 |cons rk rr=>
  cases rr with
  |cons ry rr=>
   cases rr;obtain⟨z,hd,ws,cq,dd⟩:=qI I.hok e;refine MM EB dd.typeIs PySem.F.entry_dict_setdefault (PySem.F.args_dict_setdefault_3 _ _ _) (kt_meets_setdefault (fG X.prog X.w) d (sF rk) hd _) ⟨ws,dd,by rw[<-cq.length];exact z,λw hw=>?_,λhn h' jr sb=>?_⟩
   .have rl:=cq.val k;rcases q with⟨u,hu,q⟩|⟨hu,q⟩
    .rw[hu] at rl;obtain⟨w',e1,e2⟩:=rl.some_of;have e3:w'=w:=by rw[e1] at hw;exact gQ hw
     subst e3;exact⟨u,H,I.tok _,e2,q⟩
    .rw[hu] at rl;have:=rl.none_of;rw[this] at hw;cases hw
   .have rl:=cq.val k;rcases q with⟨u,hu,q⟩|⟨hu,q⟩
    .rw[hu] at rl;obtain⟨w',e1,e2⟩:=rl.some_of;rw[e1] at hn;cases hn
    .have hl:(putK kvs k y).length<=sizeLine:=by have:=yN kvs k y;lia
     have he:∃ q,h'.get? d=aa q:=let ⟨q,_,_,hq,_⟩:=jr;⟨q,hq⟩;obtain⟨n,da⟩:=jr.dictAt;exact⟨y,_,BJ I (by rw[e];exact oP) sb he (xD hl hd (cq.put k ry) da),ry,q n⟩
section
variable {k v:aR}
def mh (i j:Nat)(mc:Md)(fc:BF)(mk:Md)(fk:EF)(mv:Md)(fv:EF)(m2:Md)(f2:EF):SF:=λY=>(bV mc fc Y).bind λb=>if b=af then
  (eV 0 mk fk Y).bind λkd=>(eV 0 mv fv Y).bind λd=>(bM kd).bind λkey=>(lB j Y).bind λkds=>match d with
   | .int n=>if i<Y.length/\kds.length<sizeLine then aa (.nx (match bJ kds key with
    |some u=>Y.set i (aa (0,u))
    | none=>(Y.set j (aa (1,.dict (putD kds key (.int n))))).set i (aa (0,.int n)))) else ab
   |_=>ab
 else(eV 0 m2 f2 Y).bind λd=>if i<Y.length then aa (.nx (Y.set i (aa (0,d)))) else ab
theorem Hx (i j:Nat)(mc mk mv m2:Md)(hN:X.N.Nodup)(hc:DT X c fc)(hk:DE X k fk)(hv:DE X v fv)(he:DE X e2 f2)(hi:X.N[i]?=aa x:=by rfl)(hx:iU X.env.scope x:=by trivial)
  (hj:Nm X j y:=by exact gL) (q5:Bm X (.Name y p2) k [v] "setdefault" ap cp:=by exact⟨rfl,rfl,rfl,rfl,rfl⟩) (gn:cA (v::[]) X.env=(ag,bW v X.env)::cA [] X.env:=by rfl)
  (fy:iO (.IfExp c (.Call (.Attribute (.Name y p2) "setdefault" ap) [k,v] [] cp) e2 p3) (aa (.Name x p1)) pos.line X.env=pure ag:=by rfl) (hf:X.fn x=af\/X.env.scope.names.lookup x=aa .local:=by first|exact .inl rfl|exact .inr rfl|assumption) :
  DS X H0 P0 n0 (.Assign [.Name x p1] (.IfExp c (.Call (.Attribute (.Name y p2) "setdefault" ap) [k,v] [] cp) e2 p3) pos) (mh i j mc fc mk fk mv fv m2 f2):=
 PS.imp (An hN hi hx (IK (t8 mc hc) (lG zL EB MQ CD (hj.pe) (eZ (ev mk hk) (eZ (ev mv hv) iH gn) q5.s) q5) (ev m2 he)) fy hf) λD Z H gh=>by
  obtain⟨B0,Y,fp,o,S,ef,kk⟩:=gh;obtain⟨b,e1,bv⟩:=aj ef;refine⟨B0,Y,fp,b,S,e1,λH1 S1=>?_⟩
  cases b with
  |false=>
   refine oH ?_;obtain⟨d,g1,g2⟩:=aj (show((eV 0 m2 f2 Y).bind λd=>if i<Y.length then aa (Out.nx (Y.set i (aa (0,d)))) else ab)=aa o from bv)
   obtain⟨hl,rfl⟩:=cR g2;refine⟨B0,Y,fp,d,S1,g1,λu H2 t=>?_⟩
   obtain⟨bw,S'⟩:=t.set hl;exact kk _ _ bw S'
  |true=>
   refine oF ?_;obtain⟨kd,g1,bh⟩:=aj (show((eV 0 mk fk Y).bind λkd=>(eV 0 mv fv Y).bind λd=>(bM kd).bind λkey=>(lB j Y).bind λkds=>match d with
    | .int n=>if i<Y.length/\kds.length<sizeLine then aa (Out.nx (match bJ kds key with
     |some u=>Y.set i (aa (0,u))
     | none=>(Y.set j (aa (1,.dict (putD kds key (.int n))))).set i (aa (0,.int n)))) else ab
    | _=>ab)=aa o from bv)
   obtain⟨d,g2,bx⟩:=aj bh;obtain⟨key,g3,df⟩:=aj bx;obtain⟨kds,g4,gq⟩:=aj df;clear ef bv bh bx df;cases d with
   |int n=>
    obtain⟨⟨hl,hz⟩,rfl⟩:=cR gq;obtain⟨p,ep,xs,h1,h2,_,_⟩:=S1.dic1 (mL g4);refine⟨.ref p,h1,.inr (.inr (.inl ⟨rfl,.inl ⟨ep,xs,h2⟩⟩)),B0,Y,fp,kd,S1,g1,λv1 H2 gh=>?_⟩
    obtain⟨cc,S2,r2⟩:=gh;have o5:=kB g3 r2.2;refine⟨B0,Y,cc,.int n,S2,g2,λv2 H3 gh=>?_⟩
    obtain⟨sy,S3,r3⟩:=gh;have sB:=Aai.1 r3.2;subst o5 sB;obtain⟨p3,i4,gi,q1,q2,q3,q4⟩:=S3.dic1 (mL g4);have:p3=p:=by rw[h1] at q1;cases q1;rfl
    rw[10];refine⟨p3,i4,gi,key,.int n,rfl,rfl,q2,by rw[q3.length];exact hz,?_⟩
    rcases qV q3 with⟨n1,n2⟩|⟨d',v',s1,s2,rd⟩
    .refine .inr ⟨n2,λm=>?_⟩
     rw[n1] at kk;have S4:=q4 m _ _ (xQ (k:=key) (d:=.int n) (v:=.int n) q3 (Aai.2 rfl));obtain⟨bw,S'⟩:=S4.A8b (Aai.2 rfl) (by simpa using hl)
     exact kk _ _ bw S'
    .refine .inl ⟨v',s2,?_⟩;rw[s1] at kk;obtain⟨bw,S'⟩:=S3.A8b rd hl;exact kk _ _ bw S'
   |_=>cases gq
end
section
variable {Z:St}
def jq (kds:List (aA×aA))(k:aH):List (aA×aA):=match bJ kds k with
 |some _=>kds
 |none=>kds++[(kD k,.list [])]
def AL (Z:St)(H:Hp)(i j:Nat)(k:aH):Prop:=∃ p ep xs q,Z[i]?=aa (aa (.ref p))/\H p=aa (.dK ep xs)/\dR xs k=aa (.ref q)/\Z[j]?=aa (aa (.ref q))
theorem AL.grow{k:aH}(h:AL Z H i j k)(x:Ext H H'):AL Z H' i j k:=by
 obtain⟨p,ep,xs,q,h1,h2,h3,h4⟩:=h;exact⟨p,ep,xs,q,h1,x _ _ h2,h3,h4⟩
theorem AL.set {k:aH}{l:Nat}(h:AL Z H i j k)(hi:l≠i)(hj:l≠j):AL (Z.set l (aa v)) H i j k:=by
 obtain⟨p,ep,xs,q,h1,h2,h3,h4⟩:=h;exact⟨p,ep,xs,q,by rw[mW hi];exact h1,h2,h3,by rw[mW hj];exact h4⟩
theorem set_same {Y:aP}{i:Nat}{x:Slot}(h:Y[i]?=aa x):Y.set i x=Y:=by
 apply List.ext_getElem?
 grind
theorem AL.inner {ds:List (aA×aA)}{k:aH}{es:List aA}(a:AL Z H i j k)(S:Sta K H0 P0 B0 Y Z H fp)(e:Y[i]?=aa (aa (2,.dict ds)))(hk:bJ ds k=aa (.list es)):∃ q ys,Z[j]?=aa (aa (.ref q))/\H q=aa (.lst ys)/\Aao K (L2.hid H (Hd P0 fp)) es ys/\¬ P0 q /\
  ∀ ir ie,Aao K (L2.hid H (Hd P0 fp)) ir ie->Sta K H0 P0 B0 (Y.set i (aa (2,.dict (kL ds k (.list ir))))) Z (upd H q (.lst ie)) fp:=by
 obtain⟨p,ep,xs,q,h1,h2,h3,h4⟩:=a;obtain⟨p3,i4,gi,q3,h8,g1,g2,g3,g4,g5,g6⟩:=S.inner e hk;have g9:p3=p:=by rw[h1] at g1;cases g1;rfl
 subst g9;have ex:=g2.symm.trans h2;injection ex with ex;injection ex with ex1 ex2;subst ex2;have lw:q3=q:=by
  grind
 subst lw;refine⟨q3,h8,h4,g4,g5,?_,g6⟩;obtain⟨p',g9,i3,Fs,a1,a2,a3,a4⟩:=S.dic2 e;have nd:=S.nd i;rw[a3,iJ] at nd;obtain⟨v,f,mf,hv,hr,_⟩:=JY a4 nd.2 _ hk;obtain⟨q0,ys0,Gs,rfl,hq,hF,_⟩:=hr;have e1:p'=p3:=by rw[g1] at a1;cases a1;rfl
 subst e1;have p0:=a2.symm.trans g2;injection p0 with p0;injection p0 with _ ex2';subst ex2';have:q0=q3:=by
  grind
 rw[10];exact S.np (by rw[a3];exact bN _ (gA.2 ⟨f,mf,by rw[hF];exact bO⟩))
end
section
variable {l:Nat}{k:aR}{fm:EF}{t:BF}{z:aE}{p5 lp ap2 cp2 jh C3 C4:bL}
theorem Vn(h:nC i Y=aa kds):i<Y.length:=(cW.1 (mN h)).1
end
section
variable {k:aR}
def uK (i:Nat)(mk:Md)(g:EF)(m:Md)(f:EF):SF:=λY=>(nC i Y).bind λkds=>(eV 0 mk g Y).bind λk=>(bM k).bind λk=>(bJ kds k).bind λl=>match l with
 |.list es=>(eV 0 m f Y).bind λd=>if dS d=af/\es.length<sizeLine then aa (.nx (Y.set i (aa (2,.dict (kL kds k (.list (es++[d]))))))) else ab
 |_=>ab
theorem QD (i:Nat)(mk m:Md)(hu:X.A.units+40<cLine)(hk:DE X k g)(he:DE X e f)(hN:Nm X i x:=by exact gL)(p7:AJ k:=by exact λ_ _=>rfl)(q5:Bm X (.Subscript (.Name x px) k cv) e [] "append" aq av:=by exact⟨rfl,rfl,rfl,rfl,rfl⟩)
  (fy:iO (.Call (.Attribute (.Subscript (.Name x px) k cv) "append" aq) [e] [] av) ab pos.line X.env=pure ag:=by rfl):DS X H0 P0 n0 (.Expr (.Call (.Attribute (.Subscript (.Name x px) k cv) "append" aq) [e] [] av) pos) (uK i mk g m f):=
 PS.imp (nP (lG tV MR MP yF (HL hu (hN.pe) hk p7) (eZ he iH q5.s) q5) fy) λD Z H gh=>by
  obtain⟨B0,Y,fp,o,S,ef,kk⟩:=gh;obtain⟨kds,e2,bh⟩:=aj ef;obtain⟨kd,e3,bx⟩:=aj bh;obtain⟨key,e4,df⟩:=aj bx;obtain⟨l,e5,gq⟩:=aj df;clear ef bh bx df;cases l with
  |list es=>
   obtain⟨d,e1,gy⟩:=aj gq;obtain⟨⟨wy,lz⟩,rfl⟩:=cR gy;have hf:dS kd=af:=by rw[sZ e4];cases key<;>simp[kD,dS]
   obtain⟨p,ep,xs,q,ys,h1,h2,h3,h4,_,_⟩:=S.inner (mN e2) e5;refine⟨.ref p,h1,mG S e3 hf λu H2 x2 r2=>⟨p,.ref q,rfl,.inl ⟨ep,xs,key,.inl (x2 _ _ h2),kB e4 r2,h3.symm⟩,.inl ⟨rfl,ys,SqL.of (x2 _ _ h4)⟩,mG (S.grow x2) e1 wy λv H3 x3 r3=>?_⟩⟩
   have S3:=S.grow (x2.trans x3);obtain⟨p3,i4,gi,q3,h8,g1,g2,g3,g4,g5,g6⟩:=S3.inner (mN e2) e5;have g9:p3=p:=by rw[h1] at g1;cases g1;rfl
   subst g9;have ex:=g2.symm.trans (x3 _ _ (x2 _ _ h2));injection ex with ex;injection ex with ex1 ex2;subst ex2;have lw:q3=q:=by
    grind
   subst lw;exact⟨q3,h8,v,rfl,rfl,g4,by rw[g5.length];exact lz,kk _ _ fp (g6 _ _ (g5.snoc r3))⟩
  |_=>cases gq
end
section
variable {k v:aR}{F:SF}
def wN (m2:Md)(f2:EF)(F:SF)(u:Int)(Y:aP):Option Out:=(eV 0 m2 f2 Y).bind λw=>match w with
 |.int w=>if u≠w then F Y else aa (.nx Y)
 |_=>ab
theorem SY {m2:Md}{Z:St}{u:Int}{o:Out}{D:Ends}(S:Sta K H0 P0 B0 Y Z H fp)(ef:wN m2 f2 F u Y=aa o)(kk:PC K H0 P0 B0 n0 D o) :
  tE K H0 P0 0 m2 f2 Z H λz H2=>wR K af (.int u) z H2 λb H3=>∃ c,b=.bl c/\if c=af then tS K H0 P0 n0 F D Z H3 else OZ D Z H3:=by
 obtain⟨w,e1,ef⟩:=aj ef;cases w with
 |int w=>
  refine⟨B0,Y,fp,.int w,S,e1,λv H2 gh=>?_⟩
  obtain⟨cc,S2,r2⟩:=gh;have ev:=Aai.1 r2.2;subst ev;refine⟨.int u,.int w,Aai.2 rfl,Aai.2 rfl,rfl,rfl,_,rfl,?_⟩;have eb:(af != bX (.int u) (.int w))=decide (u≠w):=by
   have:bX (.int u) (.int w)=decide (u=w):=by
    simp only[bX]
    rfl
   rw[this];by_cases q:u=w<;>simp[q]
  rw[eb];have ef:(if u≠w then F Y else aa (Out.nx Y))=aa o:=ef
  by_cases q:u≠w
  .rw[if_pos q] at ef;rw[if_pos (decide_eq_true q)];exact⟨B0,Y,cc,o,S2,ef,kk⟩
  .rw[if_neg q] at ef;cases ef;rw[if_neg (by rw[decide_eq_false q];simp)]
   exact kk _ _ cc S2
 |_=>cases ef
end
section
theorem Jl{Z:St}{mk:Md}{kd:aA}{key:aH}{es:List aA}{Q:VK}
  (S:Sta K H0 P0 B0 Y Z H fp) (e2:nC i Y=aa kds) (e3:eV 0 mk g Y=aa kd) (e4:bM kd=aa key) (hl:kds.length<sizeLine) (he:bJ (jq kds key) key=aa (.list es))
  (kk:∀ q H1 j9 ys,Sta K H0 P0 B0 (Y.set i (aa (2,.dict (jq kds key)))) Z H1 j9->H1 q=aa (.lst ys)->Aao K (L2.hid H1 (Hd P0 j9)) es ys->Q (.ref q) H1) :
  zh K "dict" QR (FJ i) (GD (tE K H0 P0 0 mk g) (GD (tE K H0 P0 1 .s (cU aG)) OB)) Z H Q:=by
 obtain⟨p,ep,xs,Fs,h1,h2,_,_⟩:=S.dic2 (mN e2);have hi:=Vn e2;refine⟨.ref p,h1,.inr (.inr (.inl ⟨rfl,.inl ⟨ep,xs,h2⟩⟩)),B0,Y,fp,kd,S,e3,λv1 H2 gh=>?_⟩
 obtain⟨cc,S2,r2⟩:=gh;have o5:=kB e4 r2.2;subst o5;refine⟨B0,Y,cc,.list [],S2,rfl,λv2 H3 gh=>?_⟩
 obtain⟨sy,S3,r3⟩:=gh;cases i6:bJ kds key with
 |none=>
  have wz:jq kds key=kds++[(kD key,.list [])]:=by unfold jq;rw[i6]
  obtain⟨p3,i4,gi,q1,q2,q3,q4⟩:=S3.newKey (mN e2) i6 r3;have:p3=p:=by rw[h1] at q1;cases q1;rfl
  rw[10];obtain⟨p4,C5,wE,C6,a1,a2,a3,a4⟩:=S3.dic2 (mN e2);have e1:p4=p3:=by rw[q1] at a1;cases a1;rfl
  subst e1;have ex:=a2.symm.trans q2;injection ex with ex;injection ex with _ ex;subst ex;have vn:=JM a4 i6;refine⟨p4,i4,wE,key,v2,rfl,rfl,q2,by rw[q3];exact hl,.inr ⟨vn,λn=>?_⟩⟩
  obtain⟨bw,S4⟩:=q4 n;rw[<-wz] at S4;obtain⟨q0,_,_,rfl,_⟩:=r3;obtain⟨p5,ep5,xs5,q5,ys5,b1,b2,b3,b4,b5,_⟩:=S4.inner (pZ hi) he;have e5:p5=p4:=by rw[q1] at b1;cases b1;rfl
  subst e5;have sK:=b2.symm.trans eI;injection sK with sK;injection sK with _ sK;rw[sK,Xk,if_pos rfl] at b3
  grind
 |some d=>
  have wz:jq kds key=kds:=by unfold jq;rw[i6]
  rw[wz] at he kk;obtain⟨p3,i4,gi,q,ys,g1,g2,g3,g4,g5,_⟩:=S3.inner (mN e2) he;have:p3=p:=by rw[h1] at g1;cases g1;rfl
  rw[10];obtain⟨p4,C5,wE,C6,a1,a2,a3,a4⟩:=S3.dic2 (mN e2);have e1:p4=p3:=by rw[g1] at a1;cases a1;rfl
  subst e1;have ex:=a2.symm.trans g2;injection ex with ex;injection ex with _ ex;subst ex;refine⟨p4,i4,wE,key,v2,rfl,rfl,g2,by rw[IW a4];exact hl,.inl ⟨.ref q,g3,?_⟩⟩
  rw[set_same (mN e2)] at kk
  grind
variable {k e0 c2:aR}{f0:EF}{t2:BF}{lp:bL}{F:SF}
def sQ (i:Nat)(m0:Md)(f0:EF)(mk:Md)(g:EF)(m2:Md)(t2:BF)(F:SF):SF:=λY=>(eV 0 m0 f0 Y).bind λd=>(nC i Y).bind λkds=>(eV 0 mk g Y).bind λkd=>(bM kd).bind λkey=>
 match bJ (jq kds key) key with
 |some (.list es)=>if kds.length<sizeLine/\(Ad2 d&&noDicts es)=af then
   if (es.any λz=>bX z d)=af then aa (.nx (Y.set i (aa (2,.dict (jq kds key)))))
   else(bV m2 t2 (Y.set i (aa (2,.dict (jq kds key))))).bind λb=>if b=af then F (Y.set i (aa (2,.dict (jq kds key)))) else aa (.nx (Y.set i (aa (2,.dict (jq kds key)))))
  else ab
 |_=>ab
theorem RX (i:Nat)(m0 mk m2:Md)(hu:X.A.units+100<cLine)(he:DE X e0 f0)(hk:DE X k g)(hc:DT X c2 t2)(ha:gu X H0 P0 n0 body F)(hi:Nm X i x:=by exact gL)
  (q5:Bm X (.Name x p2) k [.List [] lp] "setdefault" ap cp:=by exact⟨rfl,rfl,rfl,rfl,rfl⟩) (gn:cA (.List [] lp::[]) X.env=(ag,bW (.List [] lp) X.env)::cA [] X.env:=by rfl)
  (hm:tR .NotIn (.Call (.Attribute (.Name x p2) "setdefault" ap) [k,.List [] lp] [] cp)=ag:=by with_unfolding_all rfl) :
  DS X H0 P0 n0 (.If (.BoolOp .And [.Compare e0 [.NotIn] [.Call (.Attribute (.Name x p2) "setdefault" ap) [k,.List [] lp] [] cp] rq,c2] v8) body [] pos) (sQ i m0 f0 mk g m2 t2 F):=
 PS.imp (FU (Az (HR (WB hu) (ev m0 he) (lG zL EB MQ CD (hi.pe) (eZ (ev mk hk) (eZ (ev .s (uP jF)) iH gn) q5.s) q5) hm) (QB (t8 m2 hc))).pt ha HJ) λD Z H gh=>by
  obtain⟨B0,Y,fp,o,S,ef,kk⟩:=gh;obtain⟨d,g0,ef⟩:=aj ef;obtain⟨kds,g1,ef⟩:=aj ef;obtain⟨kd,g2,ef⟩:=aj ef;obtain⟨key,g3,ef⟩:=aj ef;split at ef
  .rename_i es C7;obtain⟨⟨hl,hok⟩,ef⟩:=xN ef;refine⟨B0,Y,fp,d,S,g0,λv0 H1 gh=>?_⟩
   obtain⟨j9,S1,r1⟩:=gh;have C8:=S1.rebase Ext.refl;refine Jl C8 g1 g2 g3 hl C7 λq H2 cc ys S2 hq rr=>?_
   have rv:=(r1.2.ext S2.base).ext Aaq;have S3:=S2.rebase (S1.base.trans S2.base);have k9:=gE.1 hok;refine⟨d,es,rv,.inl (Abe.2 ⟨q,ys,rfl,SqL.of hq,rr.ext Aaq⟩),k9.1,k9.2,_,rfl,?_⟩;by_cases hb:(es.any λz=>bX z d)=af
   .rw[if_pos hb] at ef;cases ef;rw[hb];refine oH ?_;exact kk _ _ cc S3
   .rw[if_neg hb] at ef;rw[NW.2 hb];refine oF ?_;obtain⟨b,g4,ef⟩:=aj ef;refine⟨B0,_,cc,b,S3,g4,λH4 S4=>?_⟩
    cases b with
    |true=>
     refine oF ?_;exact⟨B0,_,cc,o,S4,ef,kk⟩
    |false=>
     refine oH ?_;cases ef;exact kk _ _ cc S4
  .cases ef
end
def FC (a:aD)(ep n:Nat):It:=
  ⟨λi H=>∃ kvs kv,H a=aa (.dK ep kvs)/\kvs.length=n/\kvs[i]?=aa kv,
   λi H v H'=>∃ T kv,H T=ab/\v=.ref T/\(∀ kvs,H a=aa (.dK ep kvs)->kvs[i]?=aa kv)/\H'=upd H T (.tup [kV kv.1,kv.2]),
   λi H=>∃ kvs,H a=aa (.dK ep kvs)/\kvs.length=n/\n<=i⟩
theorem Ux:entryFor table "dict_itemiterator.__iter__" = aa Builtin.«dict_keyiterator.__iter__»:=entryFor_alias (id':="dict_keyiterator.__iter__") (by kernel_rfl) rfl (by rw[0]) (by kernel_rfl)
theorem Uy(hT:s.TypeIs (.ref it) "dict_itemiterator")(h:Q (.ref it) s):aW (aY prog w) A (tQ (.ref it)) Q E s:=by
 refine wpAny_pyIter_slot hT d5 (lT d5 hT Ux ?_ (F.args_dict_itemiterator_iter_1 _));exact aZ ⟨_,rfl,"dict_itemiterator",_,hT,F.slot_dict_itemiterator_next.lookup,h⟩
theorem Sg {P:bP}{cx}{pos:bL}(a it:aD)(ep n:Nat) :
  Turn P w K (.Tuple es cx pos) (FC a ep n) [it] it (λi h=>∃ ok ov,IsItemIter h it a i n ep ok ov) where
 mem:=cM.2 rfl
 obj:=λi h ⟨ok,ov,g⟩ b hb=>by
  grind
 keep:=λi h h' ⟨ok,ov,g⟩ k=>⟨ok,ov,k it (cM.2 rfl) _ g⟩
 item:=by
  rw[2];obtain⟨kvs,kv,ha,hn,hk⟩:=hg;subst hn;obtain⟨z,nm,vs,r,d⟩:=sC I.hok (.inl ha);have hl:kvs.length=vs.length:=r.length;obtain⟨u,hu,r1,r2⟩:=GK r hk;obtain⟨uk,uv⟩:=u;obtain⟨ok,ov,st⟩:=st;rw[hl] at st;have kc:it<s.heap.objs.size:=bZ st;refine wpAny_pyNext_items_item st d hu λkey h' ib eo pr sz keep=>?_
  have ou:kv.1=uk:=r1;have rk:RelV (kV kv.1) key:=by rw[ou];exact Cr ib
  have fr:H s.heap.objs.size=ab:=I.hok.fresh (bI _);have I0:Inv X ad Z (upd H s.heap.objs.size (.tup [kV kv.1,kv.2])) { s with heap:=s.heap.push { cls:=.type "tuple",data:=.seq #[key,uv] },toks:=s.toks }:=
   I.laid (t':=s.toks) (o:=.tup [kV kv.1,kv.2]) (λb ob q=>cD _ q) (bI _) ⟨by show 2<=sizeLine;decide,[key,uv],.cons rk (.cons r2 .nil),A8s.new _ _⟩
  have oq:∀ b∈[it],iX X ad (upd H s.heap.objs.size (.tup [kV kv.1,kv.2])) b:=λb m=>⟨by rw[cO (eD (by rw[cM.1 m];exact kc))];exact(hf b m).1,(hf b m).2⟩
  have I1:Inv X ad Z (upd H s.heap.objs.size (.tup [kV kv.1,kv.2])) { s with heap:=h',toks:=s.toks }:=I0.turnM (t':=s.toks) oq λb o n g=>by
   have n:b≠it:=λq=>n (cM.2 q)
   by_cases hb:b=s.heap.objs.size
   .subst hb;have e':(s.heap.push { cls:=.type "tuple",data:=.seq #[key,uv] }).get? s.heap.objs.size=aa { cls:=.type "tuple",data:=.seq #[key,uv] }:=dM _ rfl
    grind
   .exact keep b o n ((Heap.get?_push_ne _ _ _ hb).symm.trans g)
  refine⟨_,rfl,wpAny_letOwnedTupleGo_items eo λh2 ge sb=>?_⟩
  have I2:Inv X ad Z (upd H s.heap.objs.size (.tup [kV kv.1,kv.2])) { s with heap:=h2,toks:=s.toks }:=I1.turnM (t':=s.toks) oq λb o n g=>sb.extBut b o (λq=>n (cM.2 q)) g
  exact⟨.ref s.heap.objs.size,_,I2,rfl,⟨_,kv,fr,rfl,λwo h=>by rw[ha] at h;cases h;exact hk,rfl⟩,⟨_,_,by rw[hl];exact ge⟩,λb m=>(oq b m).1⟩
 done:=by
  rw[2];obtain⟨kvs,ha,hn,hi⟩:=hg;subst hn;obtain⟨z,nm,vs,r,d⟩:=sC I.hok (.inl ha);have hl:kvs.length=vs.length:=r.length;obtain⟨ok,ov,st⟩:=st;rw[hl] at st;exact wpAny_pyNext_items_end (I.ok.hd hc) st d (by simp;lia) λh' eb=>⟨rfl,I.turnM (t':=s.toks) hf λb o nb e=>eb b o (λq=>nb (cM.2 q)) e⟩
 self:=λ_ _ _ _ _ st h=>by
  obtain⟨ok,ov,st⟩:=st;exact Uy ⟨_,st,rfl⟩ h
section
variable {l:aR}{cx:Nat}
def Fe (tl:TE):TI:=λZ H R=>tl Z H λx H1=>∃ a ep kvs,x=.ref a/\H1 a=aa (.dK ep kvs)/\R (FC a ep kvs.length) H1
theorem Wa {tl:TE}(hl:PE X l tl)(fu:vT l "items" X.env (bW l X.env)=bW l X.env:=by rfl)(fw:(aq.endLine==pos.line)=af:=by rfl):PI X (.Tuple es cx je) (.Call (.Attribute l "items" aq) [] [] pos) (Fe tl):=by
 intro ad s Z H R I h;refine wpAny_Call_method fu rfl fw F.plainAttrs_dict F.slot_dict_items F.type_dict_items (bf (hl ad s Z H _ I h) λv s1 gh=>?_)
 obtain⟨x,H1,I1,r1,q1⟩:=gh;obtain⟨a,ep,kvs,rfl,ha,q⟩:=q1;cases r1;obtain⟨z,nm,vs,r,d⟩:=sC I1.hok (.inl ha);obtain⟨_,_,C9,_,dd⟩:=qI I1.hok ha;have hn:=r.length;refine⟨dd.typeIs,dd.mapOf.noDict,?_⟩;refine method_meetsIn F.slot_dict_items F.entry_dict_items rfl (PySem.evalArgs_none ⟨rfl,dd.typeIs,F.args_dict_items_1 _,_,meets_dict_items _ a nm,⟨C9,dd⟩,?_⟩);have d2:(s1.heap.push { cls:=.type "dict_items",data:=.fields #[.ref a] }).DictAt (fG X.prog X.w) a vs ep:=by
  obtain⟨o,es,ho,rr⟩:=d;exact⟨o,es,cD _ ho,rr⟩
 refine wpAny_pyIter_items ⟨_,dM _ rfl,rfl,rfl⟩ d2 ?_;have all:∀ b o,s1.heap.get? b=aa o->((s1.heap.push { cls:=.type "dict_items",data:=.fields #[.ref a] }).push { cls:=.type "dict_itemiterator",data:=.fields #[.none,.bool ag,.ref a,.int 0 0,.int vs.length 0,.int ep 0,.none,.none] }).get? b=aa o:=λb o e=>cD _ (cD _ e)
 refine⟨_,[_],_,_,H1,rfl,I1.kept all,Sg a _ ep kvs.length,⟨.none,.none,?_⟩,λb hb=>?_,q⟩
 .rw[hn];exact dM _ rfl
 .rw[cM.1 hb];have le:s1.heap.objs.size<=(s1.heap.push { cls:=.type "dict_items",data:=.fields #[.ref a] }).objs.size:=by
   rw[rM]
   lia
  exact I1.fpOk le (I1.hok.fresh le)
def ph (f:EF):AF:=λY=>(f Y).bind λd=>match d with
 |.dict kds=>if (cz kds&&kds.all λkd=>cI kd.1)=af then aa (kds.map λkd=>.tuple [kd.1,kd.2]) else ab
 |_=>ab
theorem Yo{B:Hp}(h:B a=aa (.dK ep kvs))(r:Abu K B kds kvs)(hl:(kds.all λkd=>cI kd.1)=af):jw K B (FC a ep kvs.length) (kds.map λkd=>.tuple [kd.1,kd.2]):=λi H2 x2=>by
 have h2:=x2 _ _ h;refine⟨λd hd=>?_,λe=>⟨kvs,h2,rfl,by rw[<-e,bR,r.length];exact bI _⟩⟩
 rw[fN] at hd;obtain⟨kd,hk,rfl⟩:=jR.1 hd;obtain⟨kv,g1,g2,g3⟩:=JF r hk;refine⟨⟨kvs,kv,h2,rfl,g1⟩,?_⟩;rintro x H3 ⟨T,kx,fr,rfl,hx,rfl⟩;have:kx=kv:=gQ ((hx kvs h2).symm.trans g1);rw[10];have ext:Ext H2 (upd H2 T (.tup [kV kx.1,kx.2])):=λb u e=>by rw[cO (kC e fr)];exact e
 refine⟨ext,λP2 wn xb=>?_⟩
 have nT:¬ P2 T:=λq=>by
  rcases wn T q with⟨o,e⟩|⟨o,e⟩<;>rw[fr] at e<;>cases e
 have gT:hid (upd H2 T (.tup [kV kx.1,kx.2])) P2 T=aa (.tup [kV kx.1,kx.2]):=fL nT eI;have xx:Ext B (hid (upd H2 T (.tup [kV kx.1,kx.2])) P2):=xb.trans (cK ext);have lay:=gD.1 hl kd (eX hk);refine Aau.2 ⟨T,_,rfl,gT,Aag.2 ⟨_,_,rfl,?_,Aag.2 ⟨_,_,rfl,g3.ext xx,Aal.2 rfl⟩⟩⟩;rw[g2];exact Cp (by rw[<-g2];exact lay)
theorem SL(h:DE X l f)(fu:vT l "items" X.env (bW l X.env)=bW l X.env:=by rfl)(fw:(aq.endLine==pos.line)=af:=by rfl):DI X (.Tuple es cx je) (.Call (.Attribute l "items" aq) [] [] pos) (ph f):=PI.imp (Wa h fu fw) λZ H R gh=>by
 obtain⟨P,Y,ds,hP,rs,ef,k⟩:=gh;obtain⟨d,e1,ef⟩:=aj ef;cases d with
 |dict kds=>
  obtain⟨hl,rfl⟩:=cR ef;refine⟨P,Y,_,hP,rs,e1,dJ λv H1 x1 r1=>?_⟩
  obtain⟨pk,hl⟩:=gE.1 hl;obtain⟨a,kvs,rfl,hq,rr⟩:=(nW pk).1 r1;exact⟨a,kvs.1,kvs.2,rfl,Aaq _ _ hq,k _ H1 x1 (Yo hq rr hl)⟩
 |_=>cases ef
end
theorem XG {α β γ:Type}{R:α->β->γ->Prop}{a:α}{b:β}{c:γ}(h:R a b c):∀ {as:List α} {bs:List β} {cs:List γ},All3 R as bs cs->All3 R (as++[a]) (bs++[b]) (cs++[c])
 |_,_,_,.nil=>.cons h .nil
 |_,_,_,.cons h' t=>.cons h' (XG h t)
open PySem PySem.W PySem.Calls PyProof.Rows Att
def xG (ns:List Int):Prop:=∀ x∈ns,kJ x<=1048576
theorem weigh:∀ {ns:List Int} {x:Int},x∈ns->kJ x<=WData.weightAll (ns.map WData.int)
 |n::ns,x,m=>by
  rw[cT,WData.weightAll];have e:WData.weight (.int n)=kJ n:=by
   rw[WData.weight]
   rfl
  rcases cZ.1 m with rfl|m
  .rw[e];lia
  .have:=weigh m
   lia
theorem Ya {ns:List Int}(h:WData.layableAll [WData.list (ns.map WData.int)]=af):xG ns:=λx m=>by
 have h1:WData.layable (.list (ns.map .int))=af:=by simpa [WData.layableAll] using h
 have h2:=of_decide_eq_true (gE.1 h1).2;rw[WData.weight] at h2;have:=weigh m
 lia
theorem Ua {l:OpenLaw}{q:bP}{gj:List aE}{XP:(aE->Option aF)->aU->Prop}{YP:bE->aU->Prop}{d:DefRec}
  (hn:l.most=aa n) (tf:d.params.defaults=[])
  (call:∀ (w:bE) (s₀ s₁:aI) (mg mb:aE->Option aF) (fa:aD) (o:bK) (pm cd gt:aF) (a:aD) (vs:List aF) (ns:List Int),
   xG ns->Ground q gj [] XP w s₀ mg mb s₁.heap->YP w s₁.heap ->
   s₁.heap.get? fa=aa o->o.data=.func (docDef d.name d.params d.body d.scope pm cd gt)->s₁.heap.CodeRec cd d.name->mg d.name=aa (.ref fa) ->
   s₁.heap.get? a=aa { cls:=.type "list",data:=.seq vs.toArray }->IntsAre vs ns->ns.length<=n->s₁.gens = #[] ->
   oK (aY l.prog w) vR (.call (.ref fa) ⟨[.ref a],[]⟩) (λr s'=>r=.ok (.ret (.bool af))/\OldK s₁.heap s'.heap/\s'.os=s₁.os/\rN s'.gens) s₁) :
  WalkO q gj XP YP l.row.toRowW d [] (λf vs=>PySem.call f vs):=by
 intro w s₀ s₁ mg mb G am fa o pm cd gt dV kV ho hd j0 hD tj hg args vals as gb wP hrd vo hlo;obtain rfl:dV=.none:=Dflts.none hD tf;obtain rfl:kV=.none:=Dflts.noKw hD;obtain⟨a,vs,ns,rfl,rfl,o6,kg,bj⟩:=Zq hn gb vo;refine enter_call (codeAny_mono (call w s₀ s₁ mg mb fa o pm cd gt a vs ns (Ya wP) G am ho (fd_plain hd) j0 tj o6 kg bj hg) λr s' hq=>?_)
 obtain⟨rfl,h2,h3,h4⟩:=hq;exact⟨.inl ⟨.bool af,.bool af,[],rfl,λ_=>rfl,.bool af,Qi l _,λ_=>⟨List.Pairwise.nil,λ_ hm=>(nomatch hm)⟩⟩,h2,h3,h4⟩
theorem A7b {l:PySem.W.OpenLaw}{k:Nat}{q:bP}{gj:List aE}{XP:(aE->Option aF)->aU->Prop}{YP:bE->aU->Prop}{d:DefRec}{K:Params->aM}{CX:bE->jv}{sp:bE->Sp}
  (hn:l.most=aa n) (Db:n<=sizeLine) (tf:d.params.defaults=[]) (hr:Room k vR)
  (hY:∀ (w:bE) (h:aU),YP w h->(K w.params).In h)
  (F:∀ (w:bE) (mg:aE->Option aF) (fa:aD) (h:aU),(K w.params).In h->h.Ns jI mg->mg d.name=aa (.ref fa) ->
   ∃ fd:kI,(∀ (s:aI) (u:aF),BindsTo s fd ⟨[u],[]⟩ [(x,u)]) /\
    ∀ base:aU,(K w.params).In base->base.Ns jI mg->FnOk l.prog w (K w.params) mg base (CX w) k fa fd [x] (sp w))
  (m7:∀ (w:bE) (H:Hp) (a:aD) (ns:List Int),xG ns->ns.length<=n->Only H->SqL (K w.params) H a (ns.map V.int)->sp w [.ref a] H (λv _=>v=.bl af) λ_ _ _=>False)
  (vq:∀ (w:bE) (H:Hp) (s:aI) (e:aF) (s':aI),CX w [] H s (λ_ _ _=>False) e s'->False) :
  PySem.W.WalkO q gj XP YP l.row.toRowW d [] (λf vs=>PySem.call f vs):=by
 refine Ua hn tf λw s₀ s₁ mg mb fa o pm cd gt a vs ns hB G am ho hd j0 tj o6 kg bj hg=>?_
 have KX:=hY w _ am;obtain⟨fd,hb,hF⟩:=F w mg fa _ KX G.T.g tj;exact Vm KX G.T.g G.T.b G.T.builtins G.T.nolimit hg o6 kg (cL bj Db) hr hF hb (λH hO hS=>m7 w H a ns hB bj hO hS) λH e s'=>vq w H s₁ e s'
def nB:aA->aA->Option aA:=nk (λi j=>(i.natAbs<2^64\/j.natAbs<2^64)\/kJ i+kJ j<=134217728) λi j=>.int (i*j)
section
variable {a b:aR}{fa fb:EF}
theorem Ls:OpR X (jQ .Mult) (rI (λi j=>(i.natAbs<2^64\/j.natAbs<2^64)\/kJ i+kJ j<=134217728) λi j=>.int (i*j)):=by
 intro ad s Z H x y v u Q I rx ry ⟨i,j,ex,ey,hc,q⟩;rcases hc with hc|hc
 .exact VI ad s Z H x y v u Q I rx ry ⟨i,j,ex,ey,.inl hc,q⟩
 .exact qj (λi j _ _ _ _ _ hc q=>mul_int q (Zz (bI _) (bI _) hc)) ad s Z H x y v u Q I rx ry ⟨i,j,ex,ey,hc,q⟩
theorem Pq (ha:DE X a fa)(hb:DE X b fb):DE X (.BinOp a .Mult b pos) (ah nB fa fb):=pF Ls (yT (λ_ _ h=>h) λ_ _ _=>Aai.2 rfl) ha hb
end
theorem BZ {α:Type}(xs:List α)(n:Nat):(oU n xs).flatten.length=n*xs.length:=by
 induction n with
 |zero=>simp
 |succ n ih=>rw[List.replicate_succ,iT,jS,ih];rw[MV];lia
def Fv:V->List V->Hp->VK->Prop:=λx vs H Q=>∃ d b ep u0 kvs more,x=.ref d/\vs=[.ref b]/\H d=aa (.dK ep kvs)/\H b=aa (.dK u0 more)/\d≠b/\kvs.length+more.length<=sizeLine/\∀ n,Q .non (upd H d (.dK n (nM kvs more)))
theorem Zj:qd X "dict.update" Fv:=by
 intro ad s Z H x vs v us Q I rx rv h;obtain⟨d,b,ep,u0,kvs,more,rfl,rfl,e,e2,ne,l,q⟩:=h;cases rx;obtain⟨u,rfl,ru⟩:=rv.one;cases ru;obtain⟨z,hd,ws,cq,dd⟩:=qI I.hok e;obtain⟨z2,js,D0,tp,m8⟩:=qI I.hok e2;have l1:=oR cq;have l2:=oR tp;refine MM Zx dd.typeIs PySem.F.entry_dict_update (PySem.F.args_dict_update_2 _ _) (meets_dict_update (fG X.prog X.w) d b ne js) ⟨ws,D0,dd,m8,(),λh' jr _ sb=>?_⟩
 have hl:(nM kvs more).length<=sizeLine:=by have:=LD more kvs;lia
 have he:∃ q,h'.get? d=aa q:=let ⟨q,_,_,hq,_⟩:=jr;⟨q,hq⟩;obtain⟨n,da⟩:=jr.dictAt;exact⟨.non,_,BJ I (by rw[e];exact oP) sb he (xD hl hd (tp.merge cq) da),rfl,q n⟩
def mQ:List (aA×aA)->Option (List (aH×aA))
 |[]=>aa []
 |p::r=>(bM p.1).bind λk=>(mQ r).bind λps=>aa ((k,p.2)::ps)
theorem Wr:∀ {es:List (aA×aA)} {ps:List (aH×aA)} {qs:List (aH×V)},mQ es=aa ps->Abu K H es qs->eW (λ(p:aH×aA) (q:aH×V)=>p.1=q.1/\Abr K H p.2 q.2) ps qs:=by
 intro es;induction es with
 |nil=>
  intro ps qs e r;cases e;rw[Abq.1 r];exact .nil
 |cons p es ih=>
  intro ps qs e r;obtain⟨k,e1,e⟩:=aj (show((bM p.1).bind λk=>(mQ es).bind λps=>aa ((k,p.2)::ps))=aa ps from e)
  obtain⟨yn,e2,e⟩:=aj e;cases e;obtain⟨p1,p2⟩:=p;obtain⟨k',v,t,rfl,r1,r2,r3⟩:=Aa7.1 r;refine .cons ⟨?_,r2⟩ (ih e2 r3);have:=sZ e1;simp only at this r1;rw[r1] at this;cases k<;>cases k'<;>simp_all[kD]
def pM (i:Nat)(m:Md)(f:EF):SF:=λY=>(eV 0 m f Y).bind λd=>(lB i Y).bind λkds=>match d with
 |.dict es=>(mQ es).bind λps=>if cz es=af/\kds.length+es.length<=sizeLine then aa (.nx (Y.set i (aa (1,.dict (jD ps kds))))) else ab
 |_=>ab
theorem Sta.dic1_out{Z:St}{ds:List (aA×aA)}{p b:aD}{o:HO}(S:Sta K H0 P0 B0 Y Z H fp)(e:Y[i]?=aa (aa (1,.dict ds)))(h:Z[i]?=aa (aa (.ref p)))(hb:L2.hid H (Hd P0 fp) b=aa o):p≠b:=by
 obtain⟨v,h1,h2⟩:=S.slot i 1 _ e;obtain⟨p',xs,Fs,rfl,hp,hF,h3⟩:=h2;have:p'=p:=by rw[h] at h1;cases h1;rfl
 rw[10];intro z;subst z;exact(Ab3.1 hb).1 (.inr ⟨i,by rw[hF];exact bO⟩)
theorem VO (i:Nat)(m:Md)(he:DE X e f)(hN:Nm X i x:=by exact gL)(q5:Bm X (.Name x px) e [] "update" aq av:=by exact⟨rfl,rfl,rfl,rfl,rfl⟩)
  (fy:iO (.Call (.Attribute (.Name x px) "update" aq) [e] [] av) ab pos.line X.env=pure ag:=by rfl):DS X H0 P0 n0 (.Expr (.Call (.Attribute (.Name x px) "update" aq) [e] [] av) pos) (pM i m f):=
 PS.imp (nP (lG zL Zx PySem.F.type_dict_update Zj (hN.pe) (eZ (ev m he) iH q5.s) q5) fy) λD Z H gh=>by
  rw[6];obtain⟨d,e1,bv⟩:=aj ef;obtain⟨kds,e2,bh⟩:=aj bv;clear ef bv;cases d with
  |dict es=>
   obtain⟨ps,e3,bx⟩:=aj (show((mQ es).bind λps=>if cz es=af/\kds.length+es.length<=sizeLine then aa (Out.nx (Y.set i (aa (1,.dict (jD ps kds))))) else ab)=aa o from bh)
   obtain⟨⟨hp,hl⟩,rfl⟩:=cR bx;obtain⟨p,ep,xs,h1,h2,_,_⟩:=S.dic1 (mL e2);refine⟨.ref p,h1,.inr (.inr (.inl ⟨rfl,.inl ⟨ep,xs,h2⟩⟩)),B0,Y,fp,_,S,e1,λv H2 gh=>?_⟩
   obtain⟨cc,S2,r2⟩:=gh;obtain⟨p2,u0,p8,q1,q2,q3,q4⟩:=S2.dic1 (mL e2);have:p2=p:=by rw[h1] at q1;cases q1;rfl
   rw[10];obtain⟨b,kvs,rfl,hb,rr⟩:=(nW hp).1 r2.2;exact⟨p2,b,u0,kvs.1,p8,kvs.2,rfl,rfl,q2,(Ab3.1 hb).2,S2.dic1_out (mL e2) q1 hb,by rw[q3.length,rr.length];exact hl,λn=>k _ _ cc (q4 n _ _ (VB (Wr e3 rr) q3))⟩
  |_=>cases bh
section
variable {P:bP}
abbrev Ht (h:aU)(z TI TO:aD)(T:Nat)(c:Bool):Prop:=
 h.get? z=aa { cls:=.type "zip",dict:=ab,data:=.fields #[jP T,.bool c,.bool ag,.ref TI,.ref TO],slots:=#[] }
variable {C TI TO:aD}{xs ys:Array aF}{k T:Nat}{c:Bool}
def xk (D z TI TO i1 i2:aD)(S1 S2:Nat->aU->Prop)(k:Nat)(h:aU):Prop:=
 (∃ T c,Ht h z TI TO T c/\(∃ o,h.get? T=aa o)/\T≠z/\T≠i1/\T≠i2/\T≠D)/\rL h TI (.ref i1) (.ref i2)/\S1 k h/\S2 k h
def Bjm (C z TI TO i1 i2:aD)(S1 S2:Nat->aU->Prop)(k:Nat)(h:aU):Prop:=kz z TI TO i1 i2 S1 S2 .none k h\/xk C z TI TO i1 i2 S1 S2 k h
end
section
variable {TI TO:aD}{xs ys:Array aF}
theorem Bjm.keep {P:bP}{k:Nat}(U:Sub P w i1 o1 S1 xs)(V:Sub P w i2 o2 S2 ys)(nz:D≠z)(nI:D≠TI)(n1:D∉o1)(n2:D∉o2)(st:xk D z TI TO i1 i2 S1 S2 k h)(kp:∀ c o,c≠D->h.get? c=aa o->h'.get? c=aa o):xk D z TI TO i1 i2 S1 S2 k h':=by
 obtain⟨⟨T,c,gz,⟨oT,gT⟩,T1,T2,T3,T4⟩,gI,lg,j1⟩:=st;exact⟨⟨T,c,kp _ _ nz.symm gz,⟨oT,kp _ _ T4 gT⟩,T1,T2,T3,T4⟩,kp _ _ nI.symm gI,U.keep _ _ _ lg λc hc o g=>kp _ _ (λe=>n1 (e ▸ hc)) g,V.keep _ _ _ j1 λc hc o g=>kp _ _ (λe=>n2 (e ▸ hc)) g⟩
end
def qi (x:aE)(XN:List aE)(cap:List (Option Nat)):List aE:=cap.map fun
 |none=>x
 |some j=>XN.getD j x
structure Sx (out:List (aE×iR))(XN:List aE):Prop
theorem xH{f9 bg:aR}{fi:AF}{t:BF}{fj:List aR}{sc:fZ}{cap:List (Option Nat)}{out:List (aE×iR)}{XN:List aE}(_:Sx out XN)(hi:DI X (.Name x px) bg fi)(ht:∀ cl C s₀ H₀ ex,rS (gF X (qi x XN cap) sc cl C s₀ H₀ ex) fj (mn X.K t))(hb:∀ cl C s₀ H₀ ex,DE (gF X (qi x XN cap) sc cl C s₀ H₀ ex) f9 f)(h1:X.env.scope.names=out:=by rfl)(h2:X.N=XN:=by rfl)(hc:X.calm=af:=by rfl)
  (o9:HP out XN (qi x XN cap) cap sc.names=af:=by rw[0]) (hk:sc.kind=.function:=by rfl) (nd:(qi x XN cap).Nodup:=by rw[0]) (h0:(qi x XN cap)[0]?=aa x:=by rfl) (hx:∀ cl C s₀ H₀ ex,(gF X (qi x XN cap) sc cl C s₀ H₀ ex).env.scope.names.lookup x=aa .local:=by intros;rfl) (hs:∀ x,rC bg X.env x=pure x:=by intro _;rfl) :
  DF 1 X (.ListComp f9 [⟨.Name x px,bg,fj,0⟩] sc pos) (bu cap fi (gB 0) t f):=
 DR hc (lQ h1 h2 o9 hk) mZ hi (λcl C s₀ H₀ ex=>⟨qR nd h0 (.inl (hx cl C s₀ H₀ ex)) (.inr (hx cl C s₀ H₀ ex)),ht cl C s₀ H₀ ex,hb cl C s₀ H₀ ex⟩) hs
theorem Acj.length:∀ {kds:List (aA×aA)} {ts:List (List aA×V)},Acj K H kds ts->ts.length=kds.length
 |[],ts,h=>by rw[Adm.1 h];rfl
 |(k,d)::r,ts,h=>by
  obtain⟨k',x,rr,rfl,_,_,h2⟩:=Ab6.1 h;simp[Acj.length h2]
theorem All3.snoc {α β γ:Type}{R:α->β->γ->Prop}{a:α}{b:β}{c:γ}(h:R a b c):∀ {as:List α} {bs:List β} {cs:List γ},All3 R as bs cs->All3 R (as++[a]) (bs++[b]) (cs++[c])
 |_,_,_,.nil=>.cons h .nil
 |_,_,_,.cons h1 t=>.cons h1 (All3.snoc h t)
def mF (i:Nat)(Y:aP):Option (List aA):=match Y[i]? with
 |some (aa (2,.list ds))=>aa ds
 |_=>ab
theorem nY(h:mF i Y=aa ds):Y[i]?=aa (aa (2,.list ds)):=by
 unfold mF at h;split at h
 .rename_i e;cases h;exact e
 .cases h
theorem All3.set {α β γ:Type}{R:α->β->γ->Prop}{a:α}{b:β}{c:γ}(h:R a b c):∀ {as:List α} {bs:List β} {cs:List γ} (j:Nat),All3 R as bs cs->All3 R (as.set j a) (bs.set j b) (cs.set j c)
 |_,_,_,_,.nil=>.nil
 |_,_,_,0,.cons _ t=>.cons h t
 |_,_,_,j+1,.cons h1 t=>.cons h1 (All3.set h j t)
theorem All3.len {α β γ:Type}{R:α->β->γ->Prop}:∀ {as:List α} {bs:List β} {cs:List γ},All3 R as bs cs->bs.length=as.length
 |_,_,_,.nil=>rfl
 |_,_,_,.cons _ t=>congrArg (· + 1) t.len
theorem yC {F':List aD}:∀ {Fs:List (List aD)} {j:Nat},∀ a∈(Fs.set j F').flatten,a∈F'\/a∈Fs.flatten
 |[],_,a,h=>.inr h
 |F::Fs,0,a,h=>by
  rw[List.set_cons_zero,iT,dH] at h;exact h.imp id λh=>dH.2 (.inr h)
 |F::Fs,j+1,a,h=>by
  rw[List.set_cons_succ,iT,dH] at h;rcases h with h|h
  .exact .inr (dH.2 (.inl h))
  .exact(yC a h).imp id λh=>dH.2 (.inr h)
theorem UI {F':List aD}(n:F'.Nodup):∀ {Fs:List (List aD)} {j:Nat},Fs.flatten.Nodup->(∀ a∈F',a∉Fs.flatten)->(Fs.set j F').flatten.Nodup
 |[],_,h,_=>h
 |F::Fs,0,h,d=>by
  rw[List.set_cons_zero,iT];rw[iT,kG] at h;exact kG.2 ⟨n,h.2.1,λa ma b mb z=>d a ma (dH.2 (.inr (z ▸ mb)))⟩
 |F::Fs,j+1,h,d=>by
  rw[List.set_cons_succ,iT];rw[iT,kG] at h;refine kG.2 ⟨h.1,UI n h.2.1 λa ma mb=>d a ma (dH.2 (.inr mb)),λa ma b mb z=>?_⟩
  rcases yC b mb with q|q
  .exact d b q (dH.2 (.inl (z ▸ ma)))
  .exact h.2.2 a ma b q z
section
variable {Z:St}
theorem Sta.lst2(S:Sta K H0 P0 B0 Y Z H fp)(e:Y[i]?=aa (aa (2,.list ds))):∃ p xs Fs,Z[i]?=aa (aa (.ref p))/\H p=aa (.lst xs)/\fp i=p::Fs.flatten/\All3 (Ad0 K (L2.hid H (Hd P0 fp)) H 1) ds xs Fs:=by
 obtain⟨v,h1,p,xs,Fs,rfl,hp,hF,h3⟩:=S.slot i 2 _ e;exact⟨p,xs,Fs,h1,hp,hF,h3⟩
end
section
variable {k:aR}{p:bL}
def sO (i:Nat)(m:Md)(f:EF)(mk:Md)(g:EF):SF:=λY=>(eV 1 m f Y).bind λd=>(mF i Y).bind λds=>(eV 0 mk g Y).bind λk=>match k with
 |.int j=>(fg ds.length j).bind λj=>aa (.nx (Y.set i (aa (2,.list (ds.set j d)))))
 |_=>ab
theorem SW (i:Nat)(m mk:Md)(he:DF 1 X e f)(hk:DE X k g)(hN:Nm X i x:=by exact gL)
  (ha:∀ v,iI (.Subscript (.Name x px) k aq) X.env v=(do
   let ov <-kX [v] (bW (.Name x px) X.env)
   let iv <-kX [v,ov] (bW k X.env)
   standAt aq
   kX [v,ov,iv] (setItem ov iv v)
   release [v,ov,iv] []):=by intro _;rfl)
  (hs:DY [.Subscript (.Name x px) k aq] e pos.line X.env=pure ag:=by rfl) (hw:DZ [.Subscript (.Name x px) k aq] e X.env=pure ab:=by rfl)
  (h1:(eQ [.Subscript (.Name x px) k aq] X.env).map (·.2)=[iI (.Subscript (.Name x px) k aq) X.env]:=by rfl):DS X H0 P0 n0 (.Assign [.Subscript (.Name x px) k aq] e pos) (sO i m f mk g):=
 PS.imp (AS (ev m he) (GI (hN.pe) hk set_list ha) hs hw h1) λD Z H gh=>by
  obtain⟨B0,Y,fp,o,S,ef,kk⟩:=gh;obtain⟨d,e1,bv⟩:=aj ef;obtain⟨ds,e2,bh⟩:=aj bv;obtain⟨kd,e3,bx⟩:=aj bh;clear ef bv bh;cases kd with
  |int j=>
   obtain⟨jn,e5,df⟩:=aj (show((fg ds.length j).bind λj=>aa (Out.nx (Y.set i (aa (2,.list (ds.set j d))))))=aa o from bx)
   cases df;refine⟨B0,Y,fp,d,S,e1,λv H2 gh=>?_⟩
   obtain⟨cc,S2,r2⟩:=gh;obtain⟨p,xs,Fs,h1,h2,_,_⟩:=S2.lst2 (nY e2);refine⟨.ref p,h1,mG S2 e3 (by simp[dS]) λu H3 x3 r3=>?_⟩
   have S3:=S2.grow x3;have hi:=(cW.1 (nY e2)).1;obtain⟨p3,gi,D1,q1,q2,hF,q3⟩:=S3.lst2 (nY e2);have:p3=p:=by rw[h1] at q1;cases q1;rfl
   rw[10];have D2:Ad0 X.K (hid H3 (Hd P0 cc)) H3 1 d v (cc Y.length):=Ad0.keep (cK x3) (λa m=>by
    rcases(S2.own _ a m).2 with⟨ys,e⟩|⟨ys,e⟩
    .rw[e];exact x3 _ _ e
    .rw[e];exact x3 _ _ e) r2
   have dk:Y.length≠i:=()
   have lx:=S3.nd i;rw[hF,iJ] at lx;have mp:p3∈cc i:=by rw[hF];exact bO
   have o7:∀ a∈cc Y.length,a∉cc i:=λa m1 m2=>dk (S3.dj _ _ a m1 m2)
   refine⟨p3,gi,j,jn,rfl,Aai.1 r3,q2,by rw[q3.len];exact e5,kk _ _ (λq=>if q=i then p3::(D1.set jn (cc Y.length)).flatten else if q=Y.length then [] else cc q) ?_⟩
   refine S3.change hi q1 (λq hq hl=>?_) (λq hl=>?_) ?_ (λa m=>?_) (λa na=>cO λz=>na (z ▸ mp)) (λa m=>?_) λxb=>?_
   .simp only[hq,if_false,show q≠Y.length by lia]
   .by_cases z:q=Y.length
    .left;simp only[z,dk,if_false,if_true]
    .right;simp only[z,show q≠i by lia,if_false]
   .simp only[if_true];refine iJ.2 ⟨λm=>?_,UI (S3.nd _) lx.2 λa m1 m2=>o7 a m1 (by rw[hF];exact bN _ m2)⟩
    rcases yC _ m with m|m
    .exact o7 _ m mp
    .exact lx.1 m
   .simp only[if_true] at m;rcases cZ.1 m with rfl|m
    .exact⟨i,mp,.inl rfl⟩
    .rcases yC _ m with m|m
     .exact⟨_,m,.inr (by simp only[dk,if_false,if_true])⟩
     .exact⟨i,by rw[hF];exact bN _ m,.inl rfl⟩
   .simp only[if_true] at m;by_cases z:a=p3
    .subst z;exact .inl ⟨_,eI⟩
    .rw[cO z];rcases cZ.1 m with m|m
     .exact absurd m z
     .rcases yC _ m with m|m
      .exact(S3.own _ a m).2
      .exact(S3.own i a (by rw[hF];exact bN _ m)).2
   .simp only[if_true];refine⟨p3,_,_,rfl,eI,rfl,All3.set (Ad0.keep xb (λa m=>cO (λ(z:a=p3)=>o7 a m (by rw[z];exact mp))) D2) jn (q3.imp λa b c m r=>Ad0.keep xb (λz hz=>cO λq=>?_) r)⟩
    exact lx.1 (q ▸ gA.2 ⟨c,m,hz⟩)
  |_=>cases bx
end
section
variable {Z:St}
theorem Sta.drop {Z':St}(S:Sta K H0 P0 B0 Y Z H fp)(j:Nat)(hl:Z'.length=Z.length)(hs:∀ q,q≠j->Z'[q]?=Z[q]?):Sta K H0 P0 B0 (Y.set j ab) Z' H fp:=by
 refine⟨by simp[hl,S.len],S.nd,S.dj,S.own,S.ext,S.hd,S.base,λq n d e=>?_⟩
 by_cases hq:q=j
 .subst hq;by_cases hl:q<Y.length
  .rw[pZ hl] at e;cases e
  .have:=(cW.1 e).1;simp at this;lia
 .rw[mW (λz=>hq z.symm)] at e
  rw[hs q hq];exact S.slot q n d e
end
section
variable {k v:aR}{F:SF}
def uD (j:Nat)(mk:Md)(fk:EF)(mv:Md)(fv:EF)(m2:Md)(f2:EF)(F:SF):SF:=λY=>(eV 0 mk fk Y).bind λkd=>(eV 0 mv fv Y).bind λd=>(bM kd).bind λkey=>(lB j Y).bind λkds=>match d with
  |.int n=>if kds.length<sizeLine then match bJ kds key with
    |some (.int u)=>wN m2 f2 F u Y
    |some _=>ab
    |none=>wN m2 f2 F n (Y.set j (aa (1,.dict (putD kds key (.int n)))))
   else ab
  |_=>ab
theorem Kl (j:Nat)(mk mv m2:Md)(hu:X.A.units+100<cLine)(hk:DE X k fk)(hv:DE X v fv)(he:DE X e2 f2)(ha:gu X H0 P0 n0 body F)(hj:Nm X j y:=by exact gL)(q5:Bm X (.Name y p2) k [v] "setdefault" ap cp:=by exact⟨rfl,rfl,rfl,rfl,rfl⟩)(gn:cA (v::[]) X.env=(ag,bW v X.env)::cA [] X.env:=by rfl)
  (hm:tR .NotEq e2=ag:=by exact gW _) :
  DS X H0 P0 n0 (.If (.Compare (.Call (.Attribute (.Name y p2) "setdefault" ap) [k,v] [] cp) [.NotEq] [e2] rq) body [] pos) (uD j mk fk mv fv m2 f2 F):=
 PS.imp (FU (HR (Ac hu) (lG zL EB MQ CD (hj.pe) (eZ (ev mk hk) (eZ (ev mv hv) iH gn) q5.s) q5) (ev m2 he) hm) ha HJ) λD Z H gh=>by
   obtain⟨B0,Y,fp,o,S1,bv,kk⟩:=gh;obtain⟨kd,g1,bh⟩:=aj bv;obtain⟨d,g2,bx⟩:=aj bh;obtain⟨key,g3,df⟩:=aj bx;obtain⟨kds,g4,gq⟩:=aj df;clear bv bh bx df;cases d with
   |int n=>
    obtain⟨hz,gy⟩:=xN gq;obtain⟨p,ep,xs,h1,h2,_,_⟩:=S1.dic1 (mL g4);refine⟨.ref p,h1,.inr (.inr (.inl ⟨rfl,.inl ⟨ep,xs,h2⟩⟩)),B0,Y,fp,kd,S1,g1,λv1 H2 gh=>?_⟩
    obtain⟨cc,S2,r2⟩:=gh;have o5:=kB g3 r2.2;refine⟨B0,Y,cc,.int n,S2,g2,λv2 H3 gh=>?_⟩
    obtain⟨sy,S3,r3⟩:=gh;have sB:=Aai.1 r3.2;subst o5 sB;obtain⟨p3,i4,gi,q1,q2,q3,q4⟩:=S3.dic1 (mL g4);have:p3=p:=by rw[h1] at q1;cases q1;rfl
    rw[10];refine⟨p3,i4,gi,key,.int n,rfl,rfl,q2,by rw[q3.length];exact hz,?_⟩
    rcases qV q3 with⟨n1,n2⟩|⟨d',v',s1,s2,rd⟩
    .refine .inr ⟨n2,λm=>?_⟩
     rw[n1] at gy;exact SY (q4 m _ _ (xQ q3 (Aai.2 rfl))) gy kk
    .refine .inl ⟨v',s2,?_⟩;rw[s1] at gy;cases d' with
     |int u=>
      have:=Aai.1 rd;rw[10];exact SY S3 gy kk
     |_=>cases gy
   |_=>cases gq
end
theorem Qg{B:Hp}:∀ {ds:List aA} {xs:List V},Aao K B ds xs->Aao K B ds.dropLast xs.dropLast:=by
 intro ds;induction ds with
 |nil=>intro xs r;rw[Aal.1 r];exact Aal.2 rfl
 |cons d ds ih=>
  intro xs r;obtain⟨x,ys,rfl,h1,h2⟩:=Aag.1 r;cases ds with
  |nil=>rw[Aal.1 h2];exact Aal.2 rfl
  |cons d2 ds=>
   obtain⟨x2,ys2,rfl,h3,h4⟩:=Aag.1 h2;exact Aag.2 ⟨_,_,rfl,h1,ih h2⟩
section
variable {k:aR}{p4 p5 py2 yt D3:bL}
def DX (i:Nat)(mk:Md)(g:EF):SF:=λY=>(nC i Y).bind λkds=>(eV 0 mk g Y).bind λk=>(bM k).bind λk=>(bJ kds k).bind λl=>match l with
 |.list es=>if es≠[] then aa (.nx (Y.set i (aa (2,.dict (kL kds k (.list es.dropLast)))))) else ab
 |_=>ab
theorem Mu (i:Nat)(mk:Md)(hu:X.A.units+40<cLine)(hk:DE X k g)(hN:Nm X i x:=by exact gL)(p7:AJ k:=by exact λ_ _=>rfl)(fu:vT (.Subscript (.Name x px) k cv) "pop" X.env (bW (.Subscript (.Name x px) k cv) X.env)=bW (.Subscript (.Name x px) k cv) X.env:=by rfl)
  (fw:(aq.endLine==av.line)=af:=by rfl)
  (fy:iO (.Call (.Attribute (.Subscript (.Name x px) k cv) "pop" aq) [] [] av) ab pos.line X.env=pure ag:=by rfl):DS X H0 P0 n0 (.Expr (.Call (.Attribute (.Subscript (.Name x px) k cv) "pop" aq) [] [] av) pos) (DX i mk g):=
 PS.imp (nP (Ki tV PySem.F.slot_list_pop PySem.F.type_list_pop Jf (HL hu (hN.pe) hk p7) fu fw) fy) λD Z H gh=>by
  obtain⟨B0,Y,fp,o,S,ef,kk⟩:=gh;obtain⟨kds,e2,bh⟩:=aj ef;obtain⟨kd,e3,bx⟩:=aj bh;obtain⟨key,e4,df⟩:=aj bx;obtain⟨l,e5,gq⟩:=aj df;clear ef bh bx df;cases l with
  |list es=>
   obtain⟨hn,rfl⟩:=cR gq;have hf:dS kd=af:=by rw[sZ e4];cases key<;>simp[kD,dS]
   obtain⟨p,ep,xs,q,ys,h1,h2,h3,h4,_,_⟩:=S.inner (mN e2) e5;refine⟨.ref p,h1,mG S e3 hf λu H2 x2 r2=>⟨p,.ref q,rfl,.inl ⟨ep,xs,key,.inl (x2 _ _ h2),kB e4 r2,h3.symm⟩,.inl ⟨rfl,ys,SqL.of (x2 _ _ h4)⟩,?_⟩⟩
   have S3:=S.grow x2;obtain⟨p3,i4,gi,q3,h8,g1,g2,g3,g4,g5,g6⟩:=S3.inner (mN e2) e5;have g9:p3=p:=by rw[h1] at g1;cases g1;rfl
   subst g9;have ex:=g2.symm.trans (x2 _ _ h2);injection ex with ex;injection ex with ex1 ex2;subst ex2;have lw:q3=q:=by
    grind
   subst lw;have hl:=g5.length;have hp:0<h8.length:=by rw[hl];exact List.length_pos_iff.2 hn
   exact⟨q3,h8,h8[h8.length-1],rfl,rfl,g4,eR (),kk _ _ fp (g6 _ _ (Qg g5))⟩
  |_=>cases gq
end
section
variable {k v:aR}
def wV (j:Nat)(mk:Md)(fk:EF)(mv:Md)(fv:EF):SF:=λY=>(eV 0 mk fk Y).bind λkd=>(eV 0 mv fv Y).bind λd=>(bM kd).bind λkey=>(lB j Y).bind λkds=>match d with
  |.int n=>if kds.length<sizeLine then match bJ kds key with
    |some _=>aa (.nx Y)
    |none=>aa (.nx (Y.set j (aa (1,.dict (putD kds key (.int n))))))
   else ab
  |_=>ab
theorem Jz (j:Nat)(mk mv:Md)(hk:DE X k fk)(hv:DE X v fv)(hj:Nm X j y:=by exact gL)(q5:Bm X (.Name y p2) k [v] "setdefault" ap cp:=by exact⟨rfl,rfl,rfl,rfl,rfl⟩)(gn:cA (v::[]) X.env=(ag,bW v X.env)::cA [] X.env:=by rfl)
  (fy:iO (.Call (.Attribute (.Name y p2) "setdefault" ap) [k,v] [] cp) ab pos.line X.env=pure ag:=by rfl) :
  DS X H0 P0 n0 (.Expr (.Call (.Attribute (.Name y p2) "setdefault" ap) [k,v] [] cp) pos) (wV j mk fk mv fv):=
 PS.imp (nP (lG zL EB MQ CD hj.pe (eZ (ev mk hk) (eZ (ev mv hv) iH gn) q5.s) q5) fy) λD Z H gh=>by
   obtain⟨B0,Y,fp,o,S1,bv,kk⟩:=gh;obtain⟨kd,g1,bh⟩:=aj bv;obtain⟨d,g2,bx⟩:=aj bh;obtain⟨key,g3,df⟩:=aj bx;obtain⟨kds,g4,gq⟩:=aj df;clear bv bh bx df;cases d with
   |int n=>
    obtain⟨hz,gy⟩:=xN gq;obtain⟨p,ep,xs,h1,h2,_,_⟩:=S1.dic1 (mL g4);refine⟨.ref p,h1,.inr (.inr (.inl ⟨rfl,.inl ⟨ep,xs,h2⟩⟩)),B0,Y,fp,kd,S1,g1,λv1 H2 gh=>?_⟩
    obtain⟨cc,S2,r2⟩:=gh;have o5:=kB g3 r2.2;refine⟨B0,Y,cc,.int n,S2,g2,λv2 H3 gh=>?_⟩
    obtain⟨sy,S3,r3⟩:=gh;have sB:=Aai.1 r3.2;subst o5 sB;obtain⟨p3,i4,gi,q1,q2,q3,q4⟩:=S3.dic1 (mL g4);have:p3=p:=by rw[h1] at q1;cases q1;rfl
    rw[10];refine⟨p3,i4,gi,key,.int n,rfl,rfl,q2,by rw[q3.length];exact hz,?_⟩
    rcases qV q3 with⟨n1,n2⟩|⟨d',v',s1,s2,rd⟩
    .refine .inr ⟨n2,λm=>?_⟩
     rw[n1] at gy;cases gy;exact kk _ _ sy (q4 m _ _ (xQ q3 (Aai.2 rfl)))
    .refine .inl ⟨v',s2,?_⟩;rw[s1] at gy;cases gy;exact kk _ _ sy S3
   |_=>cases gq
theorem PX {α β γ:Type}{R:α->β->γ->Prop}:∀ {as:List α} {bs:List β} {cs:List γ} {j:Nat} {a:α},All3 R as bs cs->as[j]?=aa a->∃ b c,bs[j]?=aa b/\cs[j]?=aa c/\R a b c
 |_,_,_,_,_,.nil,e=>by simp at e
 |_,_,_,0,_,.cons h _,e=>by cases e;exact⟨_,_,rfl,rfl,h⟩
 |_,_,_,j+1,_,.cons _ t,e=>by
  obtain⟨b,c,h1,h2,h3⟩:=PX (j:=j) t (by simpa using e)
  exact⟨b,c,by simpa using h1,by simpa using h2,h3⟩
theorem SU{B B':Hp}{d':aA}{w:V}(xb:Ext B B'):∀ {ds:List aA} {xs:List V} {Fs:List (List aD)} {j:Nat} {F:List aD},All3 (Ad0 K B H 1) ds xs Fs->Fs.flatten.Nodup->Fs[j]?=aa F->xs[j]?=aa w->(∀ a,a∉F->H' a=H a)->Ad0 K B' H' 1 d' w F->All3 (Ad0 K B' H' 1) (ds.set j d') xs Fs
 |_,_,_,_,_,.nil,_,_,_,_,_=>.nil
 |d::ds,x::xs,G::Fs,0,F,.cons h t,nd,e,e2,kp,r=>by
  cases e;cases e2;rw[iT,kG] at nd;exact .cons r (t.imp λa b c m q=>Ad0.keep xb (λz hz=>kp z λz2=>nd.2.2 z z2 z (gA.2 ⟨c,m,hz⟩) rfl) q)
 |d::ds,x::xs,G::Fs,j+1,F,.cons h t,nd,e,e2,kp,r=>by
  rw[iT,kG] at nd;exact .cons (Ad0.keep xb (λz hz=>kp z λz2=>nd.2.2 z hz z (gA.2 ⟨F,eX (show Fs[j]?=aa F by simpa using e),z2⟩) rfl) h) (SU xb t nd.2.1 (by simpa using e) (by simpa using e2) kp r)
section
variable {Z:St}
theorem Sta.innerL{jn:Nat}{es:List aA}(S:Sta K H0 P0 B0 Y Z H fp)(e:Y[i]?=aa (aa (2,.list ds)))(hk:ds[jn]?=aa (.list es)):∃ p xs q ys,Z[i]?=aa (aa (.ref p))/\H p=aa (.lst xs)/\xs.length=ds.length/\xs[jn]?=aa (.ref q)/\H q=aa (.lst ys)/\Aao K (L2.hid H (Hd P0 fp)) es ys /\
  ∀ ir ie,Aao K (L2.hid H (Hd P0 fp)) ir ie->Sta K H0 P0 B0 (Y.set i (aa (2,.list (ds.set jn (.list ir))))) Z (upd H q (.lst ie)) fp:=by
 obtain⟨p,xs,Fs,h1,h2,h3,h4⟩:=S.lst2 e;have nd:=S.nd i;rw[h3,iJ] at nd;obtain⟨v,f,hv,hf,hr⟩:=PX h4 hk;have mf:=eX hf;obtain⟨q,ys,Gs,rfl,hq,hF,g3⟩:=hr;obtain⟨r,hn⟩:=CA g3;rw[hn] at hF;refine⟨p,xs,q,ys,h1,h2,h4.len,hv,hq,r,λir ie r'=>?_⟩
 have mq:q∈fp i:=by
  rw[h3];exact bN _ (gA.2 ⟨f,mf,by rw[hF];exact bO⟩)
 have wx:p≠q:=λz=>nd.1 (gA.2 ⟨f,mf,by rw[hF,z];exact bO⟩)
 refine S.change (cW.1 e).1 h1 (λ_ _ _=>rfl) (λ_ _=>.inr rfl) (S.nd i) (λa m=>⟨i,m,.inl rfl⟩) (λa na=>cO λz=>na (z ▸ mq)) (λa m=>?_) λxb=>?_
 .by_cases z:a=q
  .subst z;exact .inl ⟨ie,eI⟩
  .rw[cO z];exact(S.own i a m).2
 .refine⟨p,xs,Fs,rfl,by rw[cO wx];exact h2,h3,SU xb h4 nd.2 hf hv (λa na=>cO λz=>na (by rw[hF,z];exact bO)) ?_⟩
  obtain⟨q1,q2⟩:=yK (r'.ext xb);exact⟨q,ie,_,rfl,eI,by rw[hF,q2],q1⟩
end
def DP (i:Nat)(mk:Md)(g:EF)(m:Md)(f:EF):SF:=λY=>(mF i Y).bind λds=>(eV 0 mk g Y).bind λk=>match k with
 |.int kk=>(fg ds.length kk).bind λjn=>match ds[jn]? with
  |some (.list es)=>(eV 0 m f Y).bind λd=>match d with
   |.int j=>(fg es.length j).bind λn=>if es.length<=sizeLine then aa (.nx (Y.set i (aa (2,.list (ds.set jn (.list (es.eraseIdx n))))))) else ab
   |_=>ab
  |_=>ab
 |_=>ab
def DU (i:Nat)(mk:Md)(g:EF)(m:Md)(f:EF):SF:=λY=>(mF i Y).bind λds=>(eV 0 mk g Y).bind λk=>match k with
 |.int kk=>(fg ds.length kk).bind λjn=>match ds[jn]? with
  |some (.list es)=>(eV 0 m f Y).bind λd=>if dS d=af/\es.length<sizeLine then aa (.nx (Y.set i (aa (2,.list (ds.set jn (.list (es++[d]))))))) else ab
  |_=>ab
 |_=>ab
theorem Od (i:Nat)(mk m:Md)(hk:DE X k g)(he:DE X e f)(hN:Nm X i x:=by exact gL)(wS:xP k:=by exact λ_ _=>rfl)(q5:Bm X (.Subscript (.Name x px) k cv) e [] "pop" aq av:=by exact⟨rfl,rfl,rfl,rfl,rfl⟩)
  (fy:iO (.Call (.Attribute (.Subscript (.Name x px) k cv) "pop" aq) [e] [] av) ab pos.line X.env=pure ag:=by rfl):DS X H0 P0 n0 (.Expr (.Call (.Attribute (.Subscript (.Name x px) k cv) "pop" aq) [e] [] av) pos) (DP i mk g m f):=
 PS.imp (nP (lG tV PySem.F.slot_list_pop PySem.F.type_list_pop Xg (DD AQ hN.pe hk wS) (eZ he iH q5.s) q5) fy) λD Z H gh=>by
  obtain⟨B0,Y,fp,o,S,ef,kk⟩:=gh;obtain⟨ds,e2,bh⟩:=aj ef;obtain⟨kd,e3,bx⟩:=aj bh;clear ef bh;cases kd with
  |int kj=>
   obtain⟨jn,e4,df⟩:=aj bx;clear bx;split at df
   .rename_i es e5;obtain⟨d,e1,gy⟩:=aj df;cases d with
    |int j=>
     obtain⟨n,e7,D4⟩:=aj gy;obtain⟨lz,rfl⟩:=cR D4;obtain⟨p,xs,q,ys,h1,h2,hl,h3,h4,_,_⟩:=S.innerL (nY e2) e5;refine⟨.ref p,h1,mG S e3 (by simp[dS]) λu H2 x2 r2=>.inl ⟨p,xs,kj,.ref q,rfl,Aai.1 r2,SqL.of (x2 _ _ h2),?_,.inl ⟨rfl,ys,SqL.of (x2 _ _ h4)⟩,mG (S.grow x2) e1 (by simp[dS]) λv H3 x3 r3=>?_⟩⟩
     .rw[gc,hl,e4];exact h3
     have S3:=S.grow (x2.trans x3);obtain⟨p3,gi,q3,h8,g1,g2,gl,g3,g4,g5,g6⟩:=S3.innerL (nY e2) e5;have g9:p3=p:=by rw[h1] at g1;cases g1;rfl
     subst g9;have ex:=g2.symm.trans (x3 _ _ (x2 _ _ h2));injection ex with ex;injection ex with ex;subst ex;have lw:q3=q:=by
      rw[h3] at g3;injection g3 with g3;injection g3 with g3;exact g3.symm
     subst lw;obtain⟨s1,s2,s3,s4⟩:=GV e7;have hl:=g5.length;have hz:h8.length<=sizeLine:=by rw[hl];exact lz
     have hn:=qK;have hy:h8[n]?=aa h8[n]:=eR ()
     exact⟨q3,h8,j,n,h8[n],rfl,by rw[Aai.1 r3],g4,(),(),by rw[hl];exact s1,hy,kk _ _ fp (g6 _ _ (KH n g5))⟩
    |_=>cases gy
   .cases df
  |_=>cases bx
theorem Po (i:Nat)(mk m:Md)(hk:DE X k g)(he:DE X e f)(hN:Nm X i x:=by exact gL)(wS:xP k:=by exact λ_ _=>rfl)(q5:Bm X (.Subscript (.Name x px) k cv) e [] "append" aq av:=by exact⟨rfl,rfl,rfl,rfl,rfl⟩)
  (fy:iO (.Call (.Attribute (.Subscript (.Name x px) k cv) "append" aq) [e] [] av) ab pos.line X.env=pure ag:=by rfl):DS X H0 P0 n0 (.Expr (.Call (.Attribute (.Subscript (.Name x px) k cv) "append" aq) [e] [] av) pos) (DU i mk g m f):=
 PS.imp (nP (lG tV MR MP yF (DD AQ hN.pe hk wS) (eZ he iH q5.s) q5) fy) λD Z H gh=>by
  obtain⟨B0,Y,fp,o,S,ef,kk⟩:=gh;obtain⟨ds,e2,bh⟩:=aj ef;obtain⟨kd,e3,bx⟩:=aj bh;clear ef bh;cases kd with
  |int kj=>
   obtain⟨jn,e4,df⟩:=aj bx;clear bx;split at df
   .rename_i es e5;obtain⟨d,e1,gy⟩:=aj df;obtain⟨⟨wy,lz⟩,rfl⟩:=cR gy;obtain⟨p,xs,q,ys,h1,h2,hl,h3,h4,_,_⟩:=S.innerL (nY e2) e5;refine⟨.ref p,h1,mG S e3 (by simp[dS]) λu H2 x2 r2=>.inl ⟨p,xs,kj,.ref q,rfl,Aai.1 r2,SqL.of (x2 _ _ h2),?_,.inl ⟨rfl,ys,SqL.of (x2 _ _ h4)⟩,mG (S.grow x2) e1 wy λv H3 x3 r3=>?_⟩⟩
    .rw[gc,hl,e4];exact h3
    have S3:=S.grow (x2.trans x3);obtain⟨p3,gi,q3,h8,g1,g2,gl,g3,g4,g5,g6⟩:=S3.innerL (nY e2) e5;have g9:p3=p:=by rw[h1] at g1;cases g1;rfl
    subst g9;have ex:=g2.symm.trans (x3 _ _ (x2 _ _ h2));injection ex with ex;injection ex with ex;subst ex;have lw:q3=q:=by
     rw[h3] at g3;injection g3 with g3;injection g3 with g3;exact g3.symm
    subst lw;exact⟨q3,h8,v,rfl,rfl,g4,by rw[g5.length];exact lz,kk _ _ fp (g6 _ _ (g5.snoc r3))⟩
   .cases df
  |_=>cases bx
def DJ (i:Nat)(m:Md)(f:EF):SF:=λY=>(eV 1 m f Y).bind λd=>(mF i Y).bind λds=>if ds.length<sizeLine then aa (.nx (Y.set i (aa (2,.list (ds++[d]))))) else ab
theorem Px (i:Nat)(m:Md)(he:DF 1 X e f)(hN:Nm X i x:=by exact gL)(q5:Bm X (.Name x px) e [] "append" aq av:=by exact⟨rfl,rfl,rfl,rfl,rfl⟩)
  (fy:iO (.Call (.Attribute (.Name x px) "append" aq) [e] [] av) ab pos.line X.env=pure ag:=by rfl):DS X H0 P0 n0 (.Expr (.Call (.Attribute (.Name x px) "append" aq) [e] [] av) pos) (DJ i m f):=
 PS.imp (nP (lG tV MR MP yF (hN.pe) (eZ (ev m he) iH q5.s) q5) fy) λD Z H gh=>by
  rw[6];obtain⟨d,e1,bv⟩:=aj ef;obtain⟨ds,e2,bh⟩:=aj bv;obtain⟨hl,rfl⟩:=cR bh;obtain⟨p,xs,Fs,h1,h2,_,_⟩:=S.lst2 (nY e2);refine⟨.ref p,h1,.inl ⟨rfl,xs,SqL.of h2⟩,B0,Y,fp,d,S,e1,λv H2 gh=>?_⟩
  obtain⟨cc,S2,r2⟩:=gh;obtain⟨p2,p8,wT,q1,q2,hF,q3⟩:=S2.lst2 (nY e2);have:p2=p:=by rw[h1] at q1;cases q1;rfl
  rw[10];have hi:=(cW.1 (nY e2)).1;have dk:Y.length≠i:=()
  have lx:=S2.nd i;rw[hF,iJ] at lx;have mp:p2∈cc i:=by rw[hF];exact bO
  have o7:∀ a∈cc Y.length,a∉cc i:=λa m1 m2=>dk (S2.dj _ _ a m1 m2)
  have fl:(wT++[cc Y.length]).flatten=wT.flatten++cc Y.length:=by simp
  refine⟨p2,p8,v,rfl,rfl,q2,by rw[q3.len];exact hl,k _ _ (λq=>if q=i then p2::(wT++[cc Y.length]).flatten else if q=Y.length then [] else cc q) ?_⟩
  refine S2.change hi q1 (λq hq hl=>?_) (λq hl=>?_) ?_ (λa m=>?_) (λa na=>cO λz=>na (z ▸ mp)) (λa m=>?_) λxb=>?_
  .simp only[hq,if_false,show q≠Y.length by lia]
  .by_cases z:q=Y.length
   .left;simp only[z,dk,if_false,if_true]
   .right;simp only[z,show q≠i by lia,if_false]
  .simp only[if_true,fl];refine iJ.2 ⟨λm=>?_,kG.2 ⟨lx.2,S2.nd _,λa ma b mb z=>o7 b mb (by rw[hF,<-z];exact bN _ ma)⟩⟩
   rcases dH.1 m with m|m
   .exact lx.1 m
   .exact o7 _ m mp
  .simp only[if_true,fl] at m;rcases cZ.1 m with rfl|m
   .exact⟨i,mp,.inl rfl⟩
   .rcases dH.1 m with m|m
    .exact⟨i,by rw[hF];exact bN _ m,.inl rfl⟩
    .exact⟨_,m,.inr (by simp only[dk,if_false,if_true])⟩
  .simp only[if_true,fl] at m;by_cases z:a=p2
   .subst z;exact .inl ⟨_,eI⟩
   .rw[cO z];rcases cZ.1 m with m|m
    .exact absurd m z
    .rcases dH.1 m with m|m
     .exact(S2.own i a (by rw[hF];exact bN _ m)).2
     .exact(S2.own _ a m).2
  .simp only[if_true];refine⟨p2,_,_,rfl,eI,rfl,XG (Ad0.keep xb (λa m=>cO (λ(z:a=p2)=>o7 a m (by rw[z];exact mp))) r2) (q3.imp λa b c m r=>Ad0.keep xb (λz hz=>cO λq=>?_) r)⟩
   exact lx.1 (q ▸ gA.2 ⟨c,m,hz⟩)
theorem Vp:DF 2 X (.List [] pos) (cU aG):=PE.imp (uP jF) λZ H Q ⟨P,Y,d,hP,rs,ef,k⟩=>⟨P,Y,d,hP,rs,ef,λv H' Fr h1 h2 h3 r=>k v H' Fr h1 h2 h3 (by
 cases ef;obtain⟨p,xs,Fs,e1,e2,e3,h⟩:=r;cases h;exact⟨p,[],[],e1,e2,e3,.nil⟩)⟩
end
def xp (K:aM)(n0:Nat)(F:List aA->Option aA):Sp:=λvs H Q _=>∃ P F1 ju d1 p9 v1 d,vs=p9++[v1]/\Hid P H/\(∀ a∈F1,¬ P a)/\F1.Nodup/\Aao K (hid H (dh P F1)) ju p9/\Ad0 K (hid H (dh P F1)) H 2 d1 v1 F1/\F (ju++[d1])=aa d/\Res K P n0 d (hid H (· ∈ F1)) Q
def qf (m n:Nat)(body:SF):List aA->Option aA:=λds=>match ds.drop m with
 |[d1]=>outD (body ((ds.take m).map (λd=>aa (0,d))++aa (2,d1)::oU (n-m-1) ab))
 |_=>ab
theorem QN{body:SF}{ju:List aA}{d1:aA}(h:qf m n body (ju++[d1])=aa d):ju.length=m:=by
 unfold qf at h;split at h
 .rename_i x e;have:=congrArg List.length e;simp at this
  lia
 .cases h
section
variable {P:bP}{mg:aE->Option aF}{base:aU}
theorem Jb {qual:aE}{st:eO}{f:aD}{fd:kI}{N ps:List aE}{k:Nat}{body:SF}(F:Fun K x qual st f fd)(S:FnScope N ps (dD st))(v6:ps.length=m+1)(hN:m+1<=N.length)
  (hb:∀ (cg:aF) (A:cE) (outer:List dP) (s:aI) (H H0:Hp) (E:XK) (P0:aD->Prop),Room k (A.deeper (envOfC qual (dD st) s.heap.objs.size f cg))->gu (oB jl P w K mg base N qual (dD st) f cg A outer s H E).nox H0 P0 n0 (nR st) body) :
  FnOk P w K mg base jl (k+1) f fd ps (xp K n0 (qf m N.length body)):=by
 refine F.ok S (λvs H Q E h=>?_) (λcg A outer s H vs Q E hr h=>?_)
 .obtain⟨P,F1,ju,d1,p9,v1,d,rfl,_,_,_,r,_,ef,_⟩:=h;rw[v6,jS,r.length,QN ef]
  rfl
 .obtain⟨P0,F1,ju,d1,p9,v1,d,rfl,hP,D5,wv,r0,r1,ef,k⟩:=h;have l0:=QN ef;have lv:p9.length=m:=by rw[r0.length,l0]
  refine⟨_,hb cg A outer s H (hid H (· ∈ F1)) E P0 hr,?_⟩;have yu:Hd P0 (λi=>if i=m then F1 else [])=dh P0 F1:=by
   funext a;simp only[Hd,dh,eq_iff_iff];constructor
   .rintro(h|⟨i,h⟩)
    .exact .inl h
    .by_cases hi:i=m
     .rw[if_pos hi] at h;exact .inr h
     .rw[if_neg hi] at h;simp at h
   .rintro(h|h)
    .exact .inl h
    .exact .inr ⟨m,by rw[if_pos rfl];exact h⟩
  have S0:Sta K (hid H (· ∈ F1)) P0 (hid H (dh P0 F1)) (ju.map (λd=>aa (0,d))++aa (2,d1)::oU (N.length-m-1) ab) (start N (p9++[v1])) H (λi=>if i=m then F1 else []):=by
   refine⟨by simp[start];lia,λi=>?_,λi j a h1 h2=>?_,λi a h=>?_,Aaq,λa h=>?_,by rw[yu];exact Ext.refl,λi n' d' e=>?_⟩
   .by_cases hi:i=m
    .simp only[hi,if_true];exact wv
    .simp only[hi,if_false];exact .nil
   .by_cases hi:i=m
    .by_cases hj:j=m
     .rw[hi,hj]
     .simp only[hj,if_false] at h2;simp at h2
    .simp only[hi,if_false] at h1;simp at h1
   .by_cases hi:i=m
    .simp only[hi,if_true] at h;exact⟨by unfold hid;rw[if_pos h],r1.mut a h⟩
    .simp only[hi,if_false] at h;simp at h
   .have na:a∉F1:=λz=>D5 a z h
    rcases hP a h with⟨xs,e⟩|⟨q,e⟩
    .exact .inl ⟨xs,fL na e⟩
    .exact .inr ⟨q,fL na e⟩
   .rw[yu];by_cases hi:i<m
    .rw[EN (by rw[bR];lia),fN] at e
     obtain⟨d2,e1,e2⟩:=jR.1 e;cases e2;obtain⟨v,e3,rv⟩:=r0.get e1;refine⟨v,?_,by rw[if_neg ()],rv⟩
     unfold start;rw[gJ,wI,EN (by rw[bR];lia),fN,e3]
     rfl
    .rw[NH (by rw[bR];lia),bR,l0] at e
     by_cases hm:i=m
     .subst hm;rw[Nat.sub_self] at e;have e':2=n'/\d1=d':=by simpa using e
      obtain⟨rfl,rfl⟩:=e';refine⟨v1,?_,by rw[if_pos rfl];exact r1⟩
      unfold start;rw[gJ,wI,NH (by rw[bR];lia),bR,lv,Nat.sub_self]
      rfl
     .obtain⟨j,hj⟩:∃ j,i-m=j+1:=⟨i-m-1,()⟩
      rw[hj,List.getElem?_cons_succ] at e;have:=eX e;simp at this
  have ef:outD (body (ju.map (λd=>aa (0,d))++aa (2,d1)::oU (N.length-m-1) ab))=aa d:=by
   unfold qf at ef
   rwa [List.drop_left' l0,List.take_left' l0] at ef
  cases eb:body (ju.map (λd=>aa (0,d))++aa (2,d1)::oU (N.length-m-1) ab) with
  |none=>rw[eb] at ef;cases ef
  |some o=>
   rw[eb] at ef;refine⟨_,_,_,o,S0,eb,?_⟩;cases o with
   |rt d'=>
    cases ef;exact λv H' ⟨Fr,h1,h2,h3,h4⟩=>k v H' Fr h1 h2 h3 h4
   |nx Y'=>
    cases ef;intro Z' H' bw S';refine k .non H' [] S'.ext .nil (λa m=>by simp at m) ?_
    cases n0 with
    |zero=>exact⟨rfl,Abp.2 rfl⟩
    |succ n=>
     unfold Afz;split
     .exact .inl ⟨rfl,rfl,rfl⟩
     .split
      .exact .inl ⟨rfl,rfl,rfl⟩
      .exact⟨rfl,Abp.2 rfl⟩
   |bk _=>cases ef
   |ct _=>cases ef
variable {k:Nat}{ps:List aE}{F:List aA->Option aA}{e0 e1 e3:aR}{f0 f1 f3:EF}{p:bL}
theorem Np (D:Def X.prog X.w X.K X.mg X.base x k ps (xp X.K n0 F))(hr:Room k X.A)(hg:Gl X x)(h0:DE X e0 f0)(h1:DE X e1 f1)(h2:DE X e2 f2)(h3:DF 2 X e3 f3)(ic:(x==("__debug__" : aE))=ag:=by decide)(D6:cA [e3] X.env=(ag,bW e3 X.env)::cA [] X.env:=by rfl)(gn:cA [e2,e3] X.env=(ag,bW e2 X.env)::cA [e3] X.env:=by rfl)(oh:cA [e1,e2,e3] X.env=(ag,bW e1 X.env)::cA [e2,e3] X.env:=by rfl)(he:cA [e0,e1,e2,e3] X.env=(ag,bW e0 X.env)::cA [e1,e2,e3] X.env:=by rfl)
  (gs:(iQ pos (cA [e1,e2,e3] X.env)).any (·.1)=ag:=by rfl):DF n0 X (.Call (.Name x p) [e0,e1,e2,e3] [] pos) (aJ F (aC f0 (aC f1 (aC f2 (aC f3 aG))))):=
 PE.imp (Af D hr hg (eZ h0 (eZ h1 (eZ h2 (eZ h3 iH D6) gn) oh) he) ic he gs) λZ H Q gh=>by
  rw[4];obtain⟨ds,ee,ef⟩:=aj ef;obtain⟨d0,g0,ee⟩:=aj ee;obtain⟨t1,D7,ee⟩:=aj ee;cases ee;obtain⟨d1,g1,ee⟩:=aj D7;obtain⟨t2,D8,ee⟩:=aj ee;cases ee;obtain⟨d2,g2,ee⟩:=aj D8;obtain⟨t3,D9,ee⟩:=aj ee;cases ee;obtain⟨d3,g3,ee⟩:=aj D9;obtain⟨t4,Ev,ee⟩:=aj ee;cases Ev;cases ee;refine⟨P,Y,d0,hP,rs,g0,dJ λv0 H1 x1 r0=>⟨P,Y,d1,hP.ext x1,rs.ext (cK x1),g1,dJ λv1 H2 x2 r1=>⟨P,Y,d2,(hP.ext x1).ext x2,(rs.ext (cK x1)).ext (cK x2),g2,dJ λv2 H3 x3 r2=>⟨P,Y,d3,((hP.ext x1).ext x2).ext x3,((rs.ext (cK x1)).ext (cK x2)).ext (cK x3),g3,λv3 H4 F1 x4 nd fr r3=>?_⟩⟩⟩⟩
  have cut:∀ b o,hid H3 P b=aa o->hid H4 (dh P F1) b=aa o:=λb o e=>by
   obtain⟨nb,e⟩:=Ab3.1 e;refine fL (λz=>z.elim nb λm=>?_) (x4 _ _ e)
   rw[(fr b m).1] at e;cases e
  refine⟨P,F1,[d0,d1,d2],d3,[v0,v1,v2],v3,d,rfl,(((hP.ext x1).ext x2).ext x3).ext x4,λa m=>(((hP.ext x1).ext x2).ext x3).new (fr a m).1,nd,?_,r3,ef,k.mono λb o e=>?_⟩
  .exact Aag.2 ⟨_,_,rfl,(r0.ext (cK (x2.trans x3))).ext cut,Aag.2 ⟨_,_,rfl,(r1.ext (cK x3)).ext cut,Aag.2 ⟨_,_,rfl,r2.ext cut,Aal.2 rfl⟩⟩⟩
  .refine fL (λm=>?_) (x4 _ _ (x3 _ _ (x2 _ _ (x1 _ _ e))))
   have:=x3 _ _ (x2 _ _ (x1 _ _ e));rw[(fr b m).1] at this;cases this
end
end L2
namespace Aw
open PySem L2
def cy (i:Nat):eO:=PySem.Challenge.pw_askwithin_k38_papers_that_hold.main.body.getD i (.Pass ⟨0,0,0,0⟩)
structure Blt (p:aE->Prop):Prop where
 «isinstance» : p "isinstance"
 «int» : p "int"
 «bool» : p "bool"
 «range» : p "range"
 «len» : p "len"
 «str» : p "str"
 «all» : p "all"
 «any» : p "any"
 «list» : p "list"
 «tuple» : p "tuple"
 «dict» : p "dict"
 «set» : p "set"
 «sorted» : p "sorted"
 «min» : p "min"
 «max» : p "max"
 «enumerate» : p "enumerate"
 «zip» : p "zip"
 «reversed» : p "reversed"
def XI:SF:=(aO (bC 1 1 .s (eC (.dict [])))
 (aO (cS .s (ay (aB 0)) (dq 2) (cS .s (ay (ah ao (aB 2) (eC (.int 1)))) (dq 3) (bt .s (ak (ff (fD "str") (aB 3))) (yU 1 .s (eC (.bool af)) .s (aB 3)) cQ)))
 (fI 1 (bQ 1 .s (aJ GO (aC (aB 1) aG))))))
def yO:List aA->Option aA:=cf 1 4 XI
def SH:SF:=(bQ 0 .s (aJ hX (aC (bu [ab,aa 1] (ay (aB 0)) (gB 0) cN (fW (aB 1) (aB 0) (aB 0))) aG)))
def sV:List aA->Option aA:=cf 2 2 SH
def Bl:SF:=(aO (bt .s (ak (ah dg (aJ bG (aC (aB 1) aG)) (aJ bG (aC (ah ao (aB 0) (eC (.int 1))) aG)))) (bQ 1 .s (eC .none)) cQ)
 (aO (bC 3 1 .s (aJ FX (aC (aB 2) aG)))
 (aO (cS .s (iZ (aC (ah ao (aB 0) (eC (.int 1))) (aC (aB 1) aG))) (nJ 4 5) (aO (mh 6 3 .s (ak (ff (fD "str") (aB 4))) .s (aB 4) .s (aB 5) .s (aB 4))
 (bt .s (ak (ah dg (aB 5) (aB 6))) (bQ 1 .s (eC .none)) cQ)))
 (lF 3 1))))
def nL:List aA->Option aA:=cf 3 7 Bl
def VW:SF:=(bQ 0 .s (fW (aB 0) (ah ao (aB 1) (eC (.int 0))) (cU aG)))
def CC:List aA->Option aA:=cf 2 2 VW
def UL:SF:=(aO (bC 1 0 .s (eC (.int 1)))
 (aO (cS .s (ay (aB 0)) (dq 2) (bC 1 0 .s (ah iG (aB 1) (aJ rA (aC (eC (.int 1)) (aC (aJ bG (aC (aB 2) aG)) aG))))))
 (bQ 0 .s (aB 1))))
def CH:List aA->Option aA:=cf 1 3 UL
def YF:SF:=(aO (bt .s (ak (ah k4 (aB 1) (aJ bG (aC (aB 0) aG)))) (bQ 0 .s (ah ao (aB 0) (aB 1))) cQ)
 (aO (bt .s (ak (ah cb (aJ bG (aC (aB 0) aG)) (eC (.int 0)))) (bQ 0 .s (ah dA (ah nB (ah nB (aB 1) (aB 1)) (eC (.int 7919))) (eC (.int 31)))) cQ)
 (bQ 0 .s (ah dA (ah nB (ah ao (aB 0) (ah cC (aB 1) (aJ bG (aC (aB 0) aG)))) (ah dA (aB 1) (eC (.int 2)))) (ah nB (ah nB (aB 1) (aB 1)) (eC (.int 69621)))))))
def eK:List aA->Option aA:=cf 2 2 YF
def YJ:SF:=(aO (bC 3 0 .s (ah iG (ah dA (ah dA (ah cC (aB 0) (eC (.int 2147483629))) (ah iG (eC (.int 5)) (aB 1))) (eC (.int 1))) (ah dA (eC (.int 48271)) (ah iG (aB 1) (aB 1)))))
 (bQ 0 .s (ah cC (ah cC (ah iG (aB 3) (aB 3)) (eC (.int 2147483647))) (aB 2))))
def tL:List aA->Option aA:=cf 3 4 YJ
def XU:SF:=(aO (bt .s (ak (ah cb (aB 0) (eC (.int 1)))) (bQ 1 .s (cU (aC (aB 1) (aC (ah cC (ah dA (aB 1) (eC (.int 1))) (aB 2)) aG)))) cQ)
 (aO (bt .s (ak (ah cb (aB 0) (eC (.int 2)))) (bQ 1 .s (cU (aC (aB 1) (aC (ah dA (aB 1) (eC (.int 1))) aG)))) cQ)
 (aO (bt .s (ak (ah cb (aB 0) (eC (.int 3)))) (bQ 1 .s (cU (aC (eC (.int 0)) (aC (ah dA (aB 1) (eC (.int 1))) aG)))) cQ)
 (aO (bt .s (ak (ah cb (aB 0) (eC (.int 4)))) (bQ 1 .s (cU (aC (ah cC (aB 1) (eC (.int 3))) (aC (ah ao (cU (aC (ah cC (ah dA (aB 1) (eC (.int 1))) (eC (.int 3))) (aC (eC (.int 4)) aG))) (ah dY (aB 1) (eC (.int 3)))) aG)))) cQ)
 (aO (bt .s (ak (ah cb (aB 0) (eC (.int 5)))) (bQ 1 .s (aJ sN (aC (aJ FP (aC (eC (.int 4)) (aC (ah dA (aB 1) (eC (.int 1))) aG))) aG))) cQ)
 (bQ 1 .s (cU aG)))))))
def CS:List aA->Option aA:=cf 3 3 XU
def WV:SF:=(aO (bC 2 1 .s (eC (.dict [])))
 (aO (bt .s (ak (ah dg (aJ bG (aC (aB 0) aG)) (aJ bG (aC (aB 1) aG)))) (bQ 1 .s (eC .none)) cQ)
 (aO (cS .s (iZ (aC (aB 0) (aC (aB 1) aG))) (nJ 3 4) (bt .s (ak (ff (fD "str") (aB 3))) (uD 2 .s (aB 3) .s (aB 4) .s (aB 4) (bQ 1 .s (eC .none))) (bt .s (ak (ah dg (aB 3) (aB 4))) (bQ 1 .s (eC .none)) cQ)))
 (lF 2 1))))
def mO:List aA->Option aA:=cf 2 5 WV
def ZP:SF:=(aO (cS .s (u5 (aB 0)) (dq 2) (bt .s (ak (ah dg (fW (aB 1) (aB 2) (ah ao (aB 0) (aB 2))) (ah ao (aB 0) (aB 2)))) (bQ 0 .s (eC (.bool ag))) cQ))
 (bQ 0 .s (eC (.bool af))))
def tM:List aA->Option aA:=cf 2 3 ZP
def XR:SF:=(aO (cS .s (ay (aB 1)) (dq 2) (aO (bC 3 1 .s (eC (.dict [])))
 (aO (cS .s (ay (aB 1)) (dq 4) (bt .s (ak (ah dg (aB 4) (aB 2))) (pM 3 .s (aJ qL (aC (bu [ab] (ay (ah ao (ah ao (aB 0) (aB 4)) (eC (.int 1)))) (gB 0) cN (dI (aC (aB 0) (aC (eC (.bool af)) aG)))) aG))) cQ))
 (fI 3 (cS .s (ay (aB 1)) (dq 4) (aO (bC 5 1 .s (bu [ab,aa 3,aa 0,aa 4] (ay (ah ao (ah ao (aB 0) (aB 2)) (eC (.int 1)))) (gB 0) (dZ (ak (ah (dy ag) (aB 0) (aB 1))) (ak (ah (dy af) (aB 0) (ah ao (ah ao (aB 2) (aB 3)) (eC (.int 1)))))) (aB 0)))
 (fI 5 (bt .s (dZ (ak (ah dg (aB 4) (aB 2))) (ak (ah cb (aJ bG (aC (bu [ab] (ay (aB 5)) (gB 0) (ak (ff (fD "str") (aB 0))) (aB 0)) aG)) (eC (.int 0))))) (bQ 0 .s (dI (aC (aB 2) (aC (aB 4) aG)))) cQ))))))))
 (bQ 0 .s (eC .none)))
def yM:List aA->Option aA:=cf 2 6 XR
def ZK:SF:=(bQ 0 .s (aJ hX (aC (bu [ab,aa 1] (ay (aB 0)) (gB 0) cN (dI (aC (ah ao (aB 0) (eC (.int 0))) (aC (aJ sV (aC (ah ao (aB 0) (eC (.int 1))) (aC (aB 1) aG))) aG)))) aG)))
def LI:List aA->Option aA:=cf 2 2 ZK
def RZ:SF:=(aO (bC 2 0 .s (aJ yO (aC (ah DH (wO (aB 0) oN (oS (aB 1))) (wO (aB 0) (oS (ah dA (aB 1) (eC (.int 1)))) oN)) aG)))
 (bQ 1 .s (bu [ab,aa 2] (ay (aJ yO (aC (dI (aC (ah ao (aB 0) (aB 1)) aG)) aG))) (gB 0) (ak (ah (dy ag) (aB 0) (aB 1))) (aB 0))))
def IT:List aA->Option aA:=cf 2 3 RZ
def CW:SF:=(bt .s (ak (ah dw (aJ CH (aC (aB 0) aG)) (eC (.int 4096)))) zg cQ)
def ZI:List aA->Option aA:=cf 1 1 CW
def WW:SF:=(aO (bC 3 1 .s (cU aG))
 (aO (cS .s (ay (aB 0)) (dq 4) (cS .s (ay (aB 2)) (dq 5) (aO (bC 6 0 .s (aJ nL (aC (aB 1) (aC (aB 5) (aC (aB 4) aG)))))
 (bt .s (ak (ah fJ (aB 6) (eC .none))) (gS 3 .s (aB 6)) cQ))))
 (lF 3 1)))
def KI:List aA->Option aA:=cf 3 7 WW
def UJ:SF:=(bQ 1 .s (aJ uL (aC (bu [ab,aa 1] (ay (aJ CC (aC (aB 0) (aC (aB 1) aG)))) (gB 0) (ak (ah fJ (aJ nL (aC (aB 1) (aC (aB 0) (aC (eC (.dict [])) aG)))) (eC .none))) (aB 0)) aG)))
def yI:List aA->Option aA:=cf 2 2 UJ
def RN:SF:=(bQ 1 .s (bu [ab,aa 1] (ay (aJ yO (aC (dI (aC (aB 0) aG)) aG))) (gB 0) (ak (ah (dy ag) (aB 0) (ah ao (aB 1) (eC (.int 1))))) (aB 0)))
def IH:List aA->Option aA:=cf 2 2 RN
def TB:SF:=(bQ 0 .s (aJ sV (aC (aB 2) (aC (aJ nL (aC (aB 0) (aC (aB 1) (aC (eC (.dict [])) aG)))) aG))))
def sW:List aA->Option aA:=cf 3 3 TB
def PR:SF:=(bQ 1 .s (aJ nL (aC (dI (aC (eC (.str "head")) (aC (aB 0) aG))) (aC (aB 1) (aC (eC (.dict [])) aG)))))
def HN:List aA->Option aA:=cf 2 2 PR
def ZN:SF:=(bQ 1 .s (bu [ab,ab] (iZ (aC (aB 0) (aC (aB 1) aG))) (jy 0 1) cN (bu [ab,aa 0] (ay (aB 1)) (gB 0) (ak (ah fJ (aJ nL (aC (aB 1) (aC (aB 0) (aC (eC (.dict [])) aG)))) (eC .none))) (aB 0))))
def LG:List aA->Option aA:=cf 2 2 ZN
def YQ:SF:=(aO (bC 2 0 .s (aJ eK (aC (aB 0) (aC (eC (.int 1)) aG))))
 (aO (bt .s (ak (ah cb (ah cC (aB 2) (eC (.int 2))) (eC (.int 0)))) (bQ 0 .s (ah ao (cU (aC (ah qJ (ah iG (eC (.int 2)) (aB 1)) (eC (.int 1))) (aC (ah qJ (eC (.int 3)) (aB 1)) aG))) (ah cC (ah dY (aB 2) (eC (.int 2))) (eC (.int 2))))) cQ)
 (bQ 0 .s (ah dA (ah dA (ah qJ (ah cC (ah dY (aB 2) (eC (.int 2))) (ah qJ (ah iG (eC (.int 2)) (ah AN (eC (.int 10)) (eC (.int 60)))) (eC (.int 9)))) (ah AN (eC (.int 10)) (eC (.int 60)))) (eC (.int 4))) (aB 1)))))
def oA:List aA->Option aA:=cf 2 3 YQ
def YI:SF:=(aO (bC 2 0 .s (eC (.str "papersofno")))
 (aO (bt .s (ak (ah cb (ah cC (aJ eK (aC (aB 0) (aC (eC (.int 2)) aG))) (eC (.int 2))) (eC (.int 0)))) (bQ 0 .s (nj (aB 2) oN (oS (ah dA (aB 1) (eC (.int 1)))))) cQ)
 (bQ 0 .s (ah dA (nj (aB 2) oN (oS (ah cC (ah dY (aJ eK (aC (aB 0) (aC (eC (.int 2)) aG))) (eC (.int 2))) (eC (.int 10))))) (ah ao (eC (.str "abcdefghij")) (aB 1))))))
def tJ:List aA->Option aA:=cf 2 3 YI
def YG:SF:=(aO (bC 1 1 .s (aJ sN (aC (aJ bG (aC (aB 0) aG)) aG)))
 (aO (bC 2 1 .s (cU aG))
 (aO (bC 3 0 .a (aJ yM (aC (aB 0) (aC (aB 1) aG))))
 (aO (iq .s (ak (ah fJ (aB 3) (eC .none))) (aO (gS 2 .s (aB 3))
 (aO (mP 1 .s (ah ao (aB 3) (eC (.int 0))))
 (bC 3 0 .a (aJ yM (aC (aB 0) (aC (aB 1) aG)))))) 100)
 (fI 2 (fI 1 (bQ 0 .s (cU (aC (aB 2) (aC (aB 1) aG))))))))))
def CP:List aA->Option aA:=cf 1 4 YG
def YW:SF:=(aO (bC 4 0 .s (aJ mO (aC (ah ao (aB 0) (eC (.int 1))) (aC (aB 1) aG))))
 (aO (cS .s (ay (aB 3)) (dq 5) (aO (bC 6 0 .s (aJ mO (aC (ah ao (aB 2) (eC (.int 1))) (aC (aB 5) aG))))
 (bt .s (dZ (ak (ah fJ (aB 6) (eC .none))) (ak (aJ tM (aC (aB 4) (aC (aB 6) aG))))) (bQ 0 .s (eC (.bool af))) cQ)))
 (bQ 0 .s (eC (.bool ag)))))
def vJ:List aA->Option aA:=cf 4 7 YW
def ZD:SF:=(aO (bC 3 0 .s (cU (aC (eC (.dict [])) aG)))
 (aO (cS .s (ay (aB 2)) (dq 4) (aO (bC 5 1 .s (cU aG))
 (aO (cS .s (ay (aB 3)) (dq 6) (cS .s (ay (ah ao (aB 1) (aB 4))) (dq 7) (aO (bC 8 1 .s (aJ mO (aC (ah ao (ah ao (aB 0) (aB 4)) (eC (.int 1))) (aC (aB 7) aG))))
 (bt .a (dZ (ak (ah fJ (aB 8) (eC .none))) (ak (aJ tM (aC (aB 6) (aC (aB 8) aG))))) (aO (pM 8 .s (aB 6))
 (fI 8 (gS 5 .s (aB 8)))) cQ))))
 (fI 5 (bC 3 0 .s (aB 5))))))
 (bQ 0 .s (ah dw (aJ bG (aC (aB 3) aG)) (eC (.int 0))))))
def yR:List aA->Option aA:=cf 3 9 ZD
def YL:SF:=(aO (bC 3 0 .s (aJ IT (aC (aJ hX (aC (bu [ab,aa 0] (ay (aB 1)) (gB 0) cN (ah ao (aB 1) (aB 0))) aG)) (aC (ah IE (aB 1) (aB 2)) aG))))
 (aO (cS .s (ay (aB 1)) (dq 4) (bt .s (dZ (ak (ah dg (aB 4) (aB 2))) (ak (aJ wU (aC (bu [ab,aa 0,aa 4] (ay (aB 3)) (gB 0) cN (ah (dy ag) (aB 0) (ah ao (ah ao (aB 1) (aB 2)) (eC (.int 1))))) aG)))) (bQ 0 .s (aB 4)) cQ))
 (bQ 0 .s (eC .none))))
def KR:List aA->Option aA:=cf 3 5 YL
def RH:SF:=(aO (bC 2 0 .s (cU (aC (eC (.dict [])) aG)))
 (aO (cS .s (iZ (aC (aB 0) (aC (aB 1) aG))) (nJ 3 4) (bC 2 0 .s (aJ KI (aC (aB 2) (aC (aB 3) (aC (aB 4) aG))))))
 (bQ 0 .s (aB 2))))
def IL:List aA->Option aA:=cf 2 5 RH
def ZM:SF:=(aO (bC 4 0 .s (aJ IH (aC (aB 0) (aC (aB 2) aG))))
 (aO (bC 5 0 .s (aJ HB (aC (bu [ab,aa 2,aa 4] (ay (aB 3)) (gB 0) cN (dI (aC (aJ sW (aC (aB 1) (aC (aB 0) (aC (aB 2) aG)))) (aC (eC (.bool af)) aG)))) aG)))
 (bQ 1 .s (bu [ab,aa 5,aa 0,aa 4] (ay (aB 1)) (gB 0) (ak (ah (dy ag) (aJ sW (aC (aB 2) (aC (aB 0) (aC (aB 3) aG)))) (aB 1))) (aB 0)))))
def CY:List aA->Option aA:=cf 4 6 ZM
def YZ:SF:=(aO (bC 1 0 .s (aJ eK (aC (aB 0) (aC (eC (.int 0)) aG))))
 (aO (bC 2 0 .s (ah cC (ah dY (aB 1) (eC (.int 6))) (eC (.int 6))))
 (aO (bC 3 1 .s (cU aG))
 (aO (cS .s (ip (aC (aB 2) aG)) (dq 4) (aO (bC 5 0 .s (aJ eK (aC (aB 0) (aC (ah dA (eC (.int 3)) (aB 4)) aG))))
 (aO (bC 6 0 .s (aJ CS (aC (ah cC (aB 1) (eC (.int 6))) (aC (ah cC (ah dA (aB 4) (ah dY (aB 1) (eC (.int 30)))) (aB 2)) (aC (aB 2) aG)))))
 (aO (bC 7 1 .s (cU aG))
 (aO (cS .s (ip (aC (aJ rA (aC (aJ bG (aC (aB 6) aG)) (aC (ah dA (eC (.int 1)) (ah cC (aB 5) (eC (.int 4)))) aG))) aG)) (dq 8) (aO (bC 9 0 .s (aJ eK (aC (aB 0) (aC (ah dA (ah dA (eC (.int 8)) (ah iG (eC (.int 4)) (aB 4))) (aB 8)) aG))))
 (aO (bC 10 0 .s (ah pR (aB 6) (cU (aC (ah dA (eC (.int 5)) (aB 4)) aG))))
 (aO (bt .s (ak (ah cb (ah cC (aB 1) (eC (.int 6))) (eC (.int 0)))) (bC 10 0 .s (cU (aC (eC (.int 0)) (aC (eC (.int 1)) (aC (eC (.int 2)) (aC (eC (.int 3)) aG)))))) cQ)
 (bt .s (ak (ah cb (ah cC (aB 9) (eC (.int 5))) (eC (.int 0)))) (gS 7 .s (aJ oA (aC (aB 0) (aC (ah cC (ah dY (aB 9) (eC (.int 5))) (eC (.int 3))) aG)))) (gS 7 .s (aJ tJ (aC (aB 0) (aC (ah ao (aB 10) (ah cC (ah dY (aB 9) (eC (.int 5))) (aJ bG (aC (aB 10) aG)))) aG)))))))))
 (aO (cS .s (ip (aC (aJ bG (aC (aB 6) aG)) aG)) (dq 8) (rV 7 .s (aJ tJ (aC (aB 0) (aC (ah ao (aB 6) (aB 8)) aG))) .a (ah cC (ah dA (ah dY (aB 5) (eC (.int 4))) (aB 8)) (aJ bG (aC (aB 7) aG)))))
 (fI 7 (gS 3 .s (dI (aC (ah ao (cU (aC (eC (.str "t")) (aC (eC (.str "p")) (aC (eC (.str "pa")) (aC (eC (.str "pap")) aG))))) (ah qJ (aJ bG (aC (aB 7) aG)) (eC (.int 1)))) (aC (aJ hX (aC (aB 7) aG)) aG)))))))))))
 (fI 3 (bQ 0 .s (aJ hX (aC (aB 3) aG))))))))
def LF:List aA->Option aA:=cf 1 11 YZ
def XY:SF:=(aO (bC 2 2 .s (eC (.dict [])))
 (aO (bC 3 0 .s (ah ao (cU (aC (eC (.int 6)) (aC (eC (.int 6)) (aC (eC (.int 6)) (aC (eC (.int 6)) (aC (eC (.int 5)) (aC (eC (.int 3)) aG))))))) (aJ bG (aC (aB 1) aG))))
 (aO (bC 4 1 .s (eC (.dict [])))
 (aO (cS .s (ip (aC (eC (.int 10)) aG)) (dq 5) (yU 4 .s (aJ oA (aC (aB 0) (aC (aJ tL (aC (aJ eK (aC (aB 0) (aC (eC (.int 28)) aG))) (aC (aB 5) (aC (eC (.int 3)) aG)))) aG))) .s (aJ tJ (aC (aB 0) (aC (aB 5) aG)))))
 (fI 4 (aO (cS .s (ay (aB 1)) (nJ 6 7) (aO (bC 8 0 .s (aJ hX (aC (bu [ab,aa 4] (ay (aB 7)) (gB 0) cN (fW (aB 1) (aB 0) (aB 0))) aG)))
 (sQ 2 .s (aB 8) .s (aB 6) .a (ak (ah k4 (aJ bG (aC (ah ao (aB 2) (aB 6)) aG)) (aB 3))) (uK 2 .s (aB 6) .s (aB 8)))))
 (aO (bt .s (dZ (ak (ah dw (aJ bG (aC (aB 1) aG)) (eC (.int 0)))) (ak (ah dw (ah cC (aJ eK (aC (aB 0) (aC (eC (.int 28)) aG))) (eC (.int 3))) (eC (.int 0))))) (DX 2 .s (ah ao (ah ao (aB 1) (ah cC (ah dY (aJ eK (aC (aB 0) (aC (eC (.int 28)) aG))) (eC (.int 3))) (aJ bG (aC (aB 1) aG)))) (eC (.int 0)))) cQ)
 (aO (cS .s (ay (cU (aC (dI (aC (eC (.int 1)) (aC (eC (.str "t")) aG))) (aC (dI (aC (eC (.int 2)) (aC (eC (.str "p")) aG))) (aC (dI (aC (eC (.int 3)) (aC (eC (.str "pa")) aG))) (aC (dI (aC (eC (.int 4)) (aC (eC (.str "pap")) aG))) aG)))))) (nJ 9 6) (cS .s (ip (aC (ah cC (ah dY (aJ eK (aC (aB 0) (aC (eC (.int 29)) aG))) (aB 9)) (ah dA (aB 3) (eC (.int 1)))) aG)) (dq 5) (aO (bC 10 0 .s (aJ eK (aC (aB 0) (aC (ah dA (eC (.int 29)) (aB 9)) aG))))
 (aO (bC 8 0 .s (aJ hX (aC (bu [ab,aa 0,aa 10,aa 5] (ip (aC (aB 9) aG)) (gB 0) cN (aJ oA (aC (aB 1) (aC (aJ tL (aC (aB 2) (aC (ah dA (ah iG (eC (.int 5)) (aB 3)) (aB 0)) (aC (eC (.int 3)) aG)))) aG)))) aG)))
 (sQ 2 .s (aB 8) .s (aB 6) .a (ak (ah k4 (aJ bG (aC (ah ao (aB 2) (aB 6)) aG)) (aB 3))) (uK 2 .s (aB 6) .s (aB 8)))))))
 (fI 2 (aO (bt .s (ak (ah cb (ah cC (ah dY (aJ eK (aC (aB 0) (aC (eC (.int 29)) aG))) (eC (.int 24))) (eC (.int 2))) (eC (.int 0)))) (bQ 0 .s (aJ qL (aC (bu [ab,ab] (ph (aB 2)) (jy 0 1) (ak (ah dw (aJ bG (aC (aB 1) aG)) (eC (.int 0)))) (dI (aC (aB 0) (aC (aB 1) aG)))) aG))) cQ)
 (bQ 0 .s (aB 2))))))))))))
def KY:List aA->Option aA:=cf 2 11 XY
def ZQ:SF:=(aO (bC 2 0 .s (cU aG))
 (aO (cS .s (ay (aB 1)) (dq 3) (bC 2 0 .s (ah pR (aB 2) (bu [ab] (ay (ah ao (aB 3) (eC (.int 1)))) (gB 0) (ak (ff (fD "str") (aB 0))) (aB 0)))))
 (aO (bC 4 1 .s (cU aG))
 (aO (bC 5 1 .s (eC (.dict [])))
 (aO (cS .s (ip (aC (ah cC (aJ eK (aC (aB 0) (aC (eC (.int 49)) aG))) (eC (.int 4))) aG)) (dq 6) (aO (bC 7 0 .s (aJ eK (aC (aB 0) (aC (ah dA (eC (.int 50)) (aB 6)) aG))))
 (aO (gS 4 .s (ah ao (ah pR (aB 2) (cU (aC (aJ oA (aC (aB 0) (aC (ah cC (ah dY (aB 7) (eC (.int 40))) (eC (.int 3))) aG))) aG))) (ah cC (aB 7) (ah dA (aJ bG (aC (aB 2) aG)) (eC (.int 1))))))
 (wV 5 .a (ah ao (aB 4) (aB 6)) .s (aJ oA (aC (aB 0) (aC (ah cC (ah dY (aB 7) (eC (.int 120))) (eC (.int 3))) aG)))))))
 (fI 4 (fI 5 (aO (bC 8 1 .s (bu [ab,aa 5] (ay (aB 4)) (gB 0) cN (xm (ak (ff (fD "str") (aB 0))) (ah ao (aB 1) (aB 0)) (aB 0))))
 (aO (bt .s (ak (ah cb (ah cC (ah dY (aJ eK (aC (aB 0) (aC (eC (.int 49)) aG))) (eC (.int 4))) (eC (.int 8))) (eC (.int 0)))) (gS 8 .s (eC (.int 5))) cQ)
 (aO (bt .a (dZ (ak (ah cb (ah cC (ah dY (aJ eK (aC (aB 0) (aC (eC (.int 49)) aG))) (eC (.int 4))) (eC (.int 8))) (eC (.int 1)))) (ak (ah dw (aJ bG (aC (aB 8) aG)) (eC (.int 0))))) (rV 8 .a (ah dA (ah ao (aB 8) (eC (.int 0))) (eC (.int 1))) .s (eC (.int 0))) cQ)
 (fI 8 (bQ 0 .s (cU (aC (aJ hX (aC (aB 4) aG)) (aC (aJ hX (aC (aB 8) aG)) aG)))))))))))))))
def LJ:List aA->Option aA:=cf 2 9 ZQ
def YH:SF:=(aO (bC 2 2 .s (cU aG))
 (aO (cS .s (ay (aB 1)) (nJ 3 4) (aO (bC 5 1 .s (bu [ab,aa 4] (ay (fW (aB 0) (aB 3) (cU aG))) (gB 0) (ak (ah fJ (aJ mO (aC (aB 1) (aC (aB 0) aG))) (eC .none))) (aB 0)))
 (fI 5 (DJ 2 .s (aJ uL (aC (aB 5) aG))))))
 (aO (cS .s (ay (ah ao (aJ CP (aC (aB 1) aG)) (eC (.int 0)))) (nJ 6 7) (sO 2 .a (bu [ab,aa 1,aa 7,aa 6,aa 2] (ay (ah ao (aB 2) (aB 7))) (gB 0) (ak (aJ vJ (aC (ah ao (aB 1) (aB 2)) (aC (aB 0) (aC (ah ao (aB 1) (aB 3)) (aC (ah ao (aB 4) (aB 3)) aG)))))) (aB 0)) .s (aB 7)))
 (lF 2 2))))
def CO:List aA->Option aA:=cf 2 8 YH
def DB:SF:=(aO (bC 4 0 .s (aJ eK (aC (aB 0) (aC (eC (.int 54)) aG))))
 (aO (bC 5 0 .a (ah cC (ah dY (aB 4) (eC (.int 6))) (aJ rA (aC (eC (.int 1)) (aC (aJ bG (aC (aB 3) aG)) aG)))))
 (aO (bt .a (dZ (ak (ah cb (ah cC (aB 4) (eC (.int 6))) (eC (.int 1)))) (dZ (ak (ah dw (aJ bG (aC (aB 3) aG)) (eC (.int 0)))) (ak (ah dw (aJ bG (aC (ah ao (aB 3) (aB 5)) aG)) (eC (.int 0)))))) (DP 3 .s (aB 5) .a (ah cC (ah dY (aB 4) (eC (.int 24))) (aJ bG (aC (ah ao (aB 3) (aB 5)) aG)))) (bt .a (dZ (ak (ah cb (ah cC (aB 4) (eC (.int 6))) (eC (.int 2)))) (ak (ah dw (aJ bG (aC (aB 3) aG)) (eC (.int 0))))) (aO (bC 6 0 .s (ah dA (aJ bG (aC (ah ao (ah ao (aB 2) (aB 5)) (eC (.int 1))) aG)) (aJ AH (aC (ah cb (ah cC (ah dY (aB 4) (eC (.int 24))) (eC (.int 4))) (eC (.int 0))) aG))))
 (aO (bC 7 1 .s (bu [ab,aa 0,aa 4] (ip (aC (aB 6) aG)) (gB 0) cN (aJ oA (aC (aB 1) (aC (aJ tL (aC (aB 2) (aC (aB 0) (aC (eC (.int 3)) aG)))) aG)))))
 (fI 7 (bt .a (ak (ah (dy af) (aJ hX (aC (aB 7) aG)) (ah ao (aB 3) (aB 5)))) (DU 3 .s (aB 5) .s (aJ hX (aC (aB 7) aG))) cQ)))) (bt .a (dZ (ak (ah cb (ah cC (aB 4) (eC (.int 6))) (eC (.int 3)))) (ak (ah dw (aJ bG (aC (aB 3) aG)) (eC (.int 0))))) (sO 3 .s (aJ mY (aC (fW (aB 1) (ah ao (ah ao (aB 2) (aB 5)) (eC (.int 0))) (cU aG)) aG)) .s (aB 5)) (bt .s (ak (ah cb (ah cC (aB 4) (eC (.int 6))) (eC (.int 4)))) (fI 3 (bC 3 0 .s (AI (aB 3) (oS (eC (.int 1))) oN))) (bt .s (ak (ah cb (ah cC (aB 4) (eC (.int 6))) (eC (.int 5)))) (fI 3 (bC 3 0 .s (ah pR (aB 3) (cU (aC (cU (aC (dI (aC (eC (.int 1)) (aC (eC (.int 2)) aG))) aG)) aG))))) cQ)))))
 (fI 3 (bQ 0 .s (aB 3))))))
def ZC:List aA->Option aA:=qf 3 8 DB
def ZH:SF:=(aO (bt .s (ak (ah dg (aJ bG (aC (aB 2) aG)) (aJ bG (aC (aB 1) aG)))) (bQ 0 .s (eC (.bool ag))) cQ)
 (aO (yV .s (aJ CP (aC (aB 1) aG)) (BB 3 4))
 (aO (cS .s (ip (aC (aJ bG (aC (aB 1) aG)) aG)) (dq 5) (aO (bC 6 1 .s (bu [ab,aa 5] (ay (aB 3)) (gB 0) (ak (ah cb (ah ao (aB 0) (eC (.int 1))) (aB 1))) (ah ao (aB 0) (eC (.int 0)))))
 (fI 6 (cS .s (ay (fW (aB 0) (ah ao (ah ao (aB 1) (aB 5)) (eC (.int 0))) (cU aG))) (dq 7) (bt .s (dZ (ak (ah fJ (aJ mO (aC (ah ao (ah ao (aB 1) (aB 5)) (eC (.int 1))) (aC (aB 7) aG))) (eC .none))) (ak (ah (dy af) (aB 7) (ah ao (aB 2) (aB 5))))) (bt .s (ak (ah cb (aJ bG (aC (bu [ab,aa 7,aa 1,aa 5,aa 2] (ay (aB 6)) (gB 0) (rQ (ak (aJ vJ (aC (ah ao (aB 2) (aB 3)) (aC (aB 1) (aC (ah ao (aB 2) (aB 0)) (aC (ah ao (aB 4) (aB 0)) aG))))))) (aB 0)) aG)) (eC (.int 0)))) (bQ 0 .s (eC (.bool ag))) cQ) cQ)))))
 (bQ 0 .s (AK (aJ yR (aC (aB 1) (aC (aB 2) (aC (aB 4) aG)))))))))
def DC:List aA->Option aA:=cf 3 8 ZH
def YE:SF:=(aO (cS .s (ay (aB 1)) (dq 2) (aO (bC 3 0 .s (aJ KR (aC (aB 0) (aC (aB 1) (aC (aB 2) aG)))))
 (bt .s (ak (ah fJ (aB 3) (eC .none))) (bQ 0 .s (dI (aC (aB 2) (aC (aB 3) aG)))) cQ)))
 (bQ 0 .s (eC .none)))
def pJ:List aA->Option aA:=cf 2 4 YE
def Av:SF:=(aO (bC 1 1 .s (cU aG))
 (aO (bC 2 1 .s (aJ sN (aC (aJ bG (aC (aB 0) aG)) aG)))
 (aO (bC 3 0 .a (aJ pJ (aC (aB 0) (aC (aB 2) aG))))
 (aO (iq .s (ak (ah fJ (aB 3) (eC .none))) (aO (gS 1 .s (aB 3))
 (aO (mP 2 .s (ah ao (aB 3) (eC (.int 0))))
 (bC 3 0 .a (aJ pJ (aC (aB 0) (aC (aB 2) aG)))))) 100)
 (Bi 1 2)))))
def sL:List aA->Option aA:=cf 1 4 Av
def ZR:SF:=(aO (bC 1 1 .s (uE 1 (aJ sL (aC (aB 0) aG))))
 (ZY .a (ak (ah dw (aJ bG (aC (aB 1) aG)) (eC (.int 1)))) 1 (cU aG)))
def AR:List aA->Option aA:=cf 1 2 ZR
def YA:SF:=(aO (bC 2 0 .s (uE 1 (aJ sL (aC (aB 0) aG))))
 (bQ 0 .s (aJ IL (aC (aJ hX (aC (bu [ab,aa 0] (ay (aB 2)) (gB 0) cN (ah ao (aB 1) (aB 0))) aG)) (aC (bu [ab,aa 1] (ay (aB 2)) (gB 0) cN (ah ao (aB 1) (aB 0))) aG)))))
def KP:List aA->Option aA:=cf 2 3 YA
def ZF:SF:=(aO (bC 3 1 .s (bu [ab,ab,aa 0] (iZ (aC (aB 1) (aC (aB 2) aG))) (jy 0 1) cN (bu [ab,aa 1] (ay (aJ yI (aC (aB 2) (aC (aB 0) aG)))) (gB 0) (ak (ah (dy af) (aB 0) (aB 1))) (aB 0))))
 (aO (bC 4 0 .s (aJ LG (aC (aB 1) (aC (aB 2) aG))))
 (aO (cS .s (ay (uE 0 (aJ sL (aC (aB 1) aG)))) (nJ 5 6) (AZ 3 .a (aJ CY (aC (ah ao (aB 1) (aB 6)) (aC (ah ao (aB 3) (aB 6)) (aC (ah ao (aB 1) (aB 5)) (aC (ah ao (aB 4) (aB 5)) aG))))) .s (aB 6)))
 (lF 3 1))))
def CZ:List aA->Option aA:=cf 3 7 ZF
def QE:SF:=(aO (bC 4 0 .s (aJ HN (aC (ah ao (aB 1) (eC (.int 0))) (aC (aB 2) aG))))
 (aO (bt .s (ak (ah cb (aB 3) (dI (aC (eC (.str "head")) aG)))) (bQ 0 .s (ah qZ (aB 4) (eC .none))) cQ)
 (aO (bC 5 0 .s (ah ao (aB 3) (eC (.int 1))))
 (aO (bt .s (l9 (ak (ah qZ (aB 4) (eC .none))) (ak (ah dg (aJ bG (aC (aB 5) aG)) (aJ bG (aC (ah ao (aB 1) (eC (.int 1))) aG))))) (bQ 0 .s (eC (.bool ag))) cQ)
 (aO (bC 6 0 .s (aJ LI (aC (ah ao (aB 1) (eC (.int 1))) (aC (aB 4) aG))))
 (aO (DK .s (aJ ZI (aC (bu [ab,aa 5] (ay (aJ AR (aC (aB 6) aG))) (gB 0) cN (ah ao (aB 1) (aB 0))) aG)))
 (aO (bt .s (ak (aJ AG (aC (bu [ab] (ay (aJ CZ (aC (aB 0) (aC (aB 6) (aC (aB 5) aG))))) (gB 0) cN (ah dw (aJ bG (aC (aB 0) aG)) (eC (.int 0)))) aG))) (bQ 0 .s (eC (.bool ag))) cQ)
 (bQ 0 .s (ah cb (aJ bG (aC (aJ KP (aC (aB 6) (aC (aB 5) aG))) aG)) (eC (.int 0)))))))))))
def uV:List aA->Option aA:=cf 4 7 QE
def YR:SF:=(aO (bC 5 0 .s (aJ qL (aC (bu [ab,ab] (ph (aB 0)) (jy 0 1) cN (dI (aC (aB 0) (aC (aJ mY (aC (aB 1) aG)) aG)))) aG)))
 (aO (bC 6 1 .s (bu [ab] (ay (aB 3)) (gB 0) cN (aJ mY (aC (aB 0) aG))))
 (fI 6 (aO (bC 7 0 .s (aJ uV (aC (aB 0) (aC (aB 1) (aC (aB 2) (aC (dI (aC (eC (.str "rows")) (aC (aB 3) aG))) aG))))))
 (bQ 0 .s (uC (ff (fD "bool") (aB 7)) (uC (ah cb (aB 7) (aB 4)) (uC (ah (mD ag) (aB 0) (aB 5)) (ah cb (aB 3) (aB 6))))))))))
def yP:List aA->Option aA:=cf 5 8 YR
def Hj:SF:=(aO (bC 1 0 .s (aJ LF (aC (aB 0) aG)))
 (aO (bC 2 0 .s (aJ KY (aC (aB 0) (aC (aB 1) aG))))
 (aO (yV .s (aJ LJ (aC (aB 0) (aC (aB 1) aG))) (BB 3 4))
 (aO (bC 5 0 .s (aJ mO (aC (aB 3) (aC (aB 4) aG))))
 (aO (bC 6 0 .s (aJ uV (aC (aB 2) (aC (dI (aC (aB 3) (aC (aB 1) aG))) (aC (aB 4) (aC (dI (aC (eC (.str "head")) aG)) aG))))))
 (aO (bt .s (l9 (rQ (ak (ff (fD "bool") (aB 6)))) (ak (ah dg (aB 6) (ah qZ (aB 5) (eC .none))))) (bQ 0 .s (eC (.bool ag))) cQ)
 (aO (bt .s (ak (ah qZ (aB 5) (eC .none))) (aO (bC 7 0 .s (aJ CO (aC (aB 2) (aC (aB 1) aG))))
 (bQ 0 .s (aJ yP (aC (aB 2) (aC (dI (aC (aB 3) (aC (aB 1) aG))) (aC (aB 4) (aC (aB 7) (aC (eC (.bool ag)) aG)))))))) cQ)
 (aO (bC 8 0 .s (aJ hX (aC (bu [ab,aa 5] (ay (aB 1)) (gB 0) cN (dI (aC (ah ao (aB 0) (eC (.int 0))) (aC (aJ hX (aC (bu [ab,aa 1] (ay (ah ao (aB 0) (eC (.int 1)))) (gB 0) cN (fW (aB 1) (aB 0) (aB 0))) aG)) aG)))) aG)))
 (aO (bC 7 0 .s (aJ ZC (aC (aB 0) (aC (aB 2) (aC (aB 8) (aC (aJ CO (aC (aB 2) (aC (aB 8) aG))) aG))))))
 (aO (bC 9 0 .s (aJ DC (aC (aB 2) (aC (aB 8) (aC (aB 7) aG)))))
 (aO (bt .s (rQ (ak (aJ yP (aC (aB 2) (aC (dI (aC (aB 3) (aC (aB 1) aG))) (aC (aB 4) (aC (aB 7) (aC (aB 9) aG)))))))) (bQ 0 .s (eC (.bool ag))) cQ)
 (aO (bC 10 1 .s (bu [ab,aa 2] (ay (aB 8)) (gB 0) cN (fW (aB 1) (ah ao (aB 0) (eC (.int 0))) (cU aG))))
 (fI 10 (aO (bt .s (dZ (ak (aB 9)) (ak (aJ yR (aC (aB 8) (aC (aB 10) (aC (aJ sN (aC (aJ bG (aC (aB 8) aG)) aG)) aG)))))) (bQ 0 .s (eC (.bool ag))) cQ)
 (aO (bC 9 0 .s (aJ DC (aC (aB 2) (aC (aB 8) (aC (aB 10) aG)))))
 (bQ 0 .s (aJ yP (aC (aB 2) (aC (dI (aC (aB 3) (aC (aB 1) aG))) (aC (aB 4) (aC (bu [ab] (ay (aB 10)) (gB 0) cN (aJ mY (aC (aB 0) aG))) (aC (aB 9) aG))))))))))))))))))))))
def GB:List aA->Option aA:=cf 1 11 Hj
end Aw
namespace L2
open PySem PySem.Spec PyProof.Rows
variable {F G:SF}{T:aA->List (Option aA)->Option (List (Option aA))}{ds:List aA}{Y:aP}{f:EF}{d:aA}{fi:AF}{n i:Nat}{cap:List (Option Nat)}
theorem Xw{T:aA->aP->Option aP}(P:Nat->aP->Prop)(h0:P 0 Y)
  (step:∀ i d Y,ds[i]?=aa d->P i Y->∃ Y1 Y2,T d Y=aa Y1/\(F Y1=aa (.nx Y2)\/F Y1=aa (.ct Y2))/\P (i+1) Y2):∃ Y',iW F T ds Y=aa (.nx Y')/\P ds.length Y':=by
 have go:∀ (rest:List aA) (i:Nat) (Y:aP),ds.drop i=rest->i+rest.length=ds.length->P i Y->∃ Y',iW F T rest Y=aa (.nx Y')/\P ds.length Y':=by
  intro rest;induction rest with
  |nil=>
   intro i Y _ hl p;simp at hl;subst hl;exact⟨Y,rfl,p⟩
  |cons d r ih=>
   intro i Y hd hl p;have hi:ds[i]?=aa d:=by
    have:=congrArg (·[0]?) hd;simpa using this
   obtain⟨Y1,Y2,e1,e2,p2⟩:=step i d Y hi p;have js:ds.drop (i+1)=r:=by
    have:=congrArg List.tail hd;simpa using this
   obtain⟨Y',e3,p3⟩:=ih (i+1) Y2 js (by simp at hl;lia) p2
   refine⟨Y',?_,p3⟩;show((T d Y).bind λY1=>(F Y1).bind λo=>match o with
    |.nx Y'=>iW F T r Y'
    |.ct Y'=>iW F T r Y'
    |.bk Y'=>aa (.nx Y')
    | .rt d=>aa (.rt d))=aa (.nx Y')
   grind
 exact go ds 0 Y (by simp) (by simp) h0
theorem Cz{t:BF}{Y:List (Option aA)}(R:aA->aA->Prop):∀ (ds:List aA),(∀ d∈ds,∃ Y1 y,T d Y=aa Y1/\t Y1=aa af/\f Y1=aa y/\R d y) ->
  ∃ ys,ja T t f Y ds=aa ys/\eW R ds ys
 |[],_=>⟨[],rfl,.nil⟩
 |d::r,h=>by
  obtain⟨Y1,y,e1,e2,e3,hr⟩:=h d bO;obtain⟨ys,e4,hp⟩:=Cz R r λd' m=>h d' (bN _ m)
  refine⟨y::ys,?_,.cons hr hp⟩;show((T d Y).bind λY1=>(t Y1).bind λc=>if c=af then(f Y1).bind λy=>(ja T t f Y r).bind λys=>aa (y::ys) else ja T t f Y r)=aa (y::ys)
  simp[e1,e2,e3,e4]
theorem RF{t:BF}{Y:List (Option aA)}(g:aA->aA):∀ (ds:List aA),(∀ d∈ds,∃ Y1,T d Y=aa Y1/\t Y1=aa af/\f Y1=aa (g d))->ja T t f Y ds=aa (ds.map g)
 |[],_=>rfl
 |d::r,h=>by
  obtain⟨Y1,e1,e2,e3⟩:=h d bO;have e4:=RF g r λd' m=>h d' (bN _ m)
  show((T d Y).bind λY1=>(t Y1).bind λc=>if c=af then(f Y1).bind λy=>(ja T t f Y r).bind λys=>aa (y::ys) else ja T t f Y r)=aa (g d::r.map g)
  simp[e1,e2,e3,e4]
theorem Paired.mem_right {α β:Type}{R:α->β->Prop}:∀ {as:List α} {bs:List β},eW R as bs->∀ b∈bs,∃ a∈as,R a b:=by
 intro as bs h;induction h with
 |nil=>exact λb m=>by simp at m
 |cons h _ ih=>
  grind
theorem Mk{Y':aP}(h:F Y=aa (.nx Y')):aO F G Y=G Y':=by
 unfold aO;rw[h]
 rfl
theorem Kz(h:F Y=aa (.rt d)):aO F G Y=aa (.rt d):=by
 unfold aO;rw[h]
 rfl
theorem HK {m:Md}{T:aA->aP->Option aP}{o:Out}(h:aV m fi Y=aa ds)(h2:iW F T ds Y=aa o):cS m fi T F Y=aa o:=by
 unfold cS;rw[h];exact h2
theorem Hu {np:Nat}{body:SF}(hl:ds.length=np)(h:body (ds.map (λd=>aa (0,d))++oU (n-np) ab)=aa (.rt d)):cf np n body ds=aa d:=by
 unfold cf;rw[if_pos hl,h]
 rfl
theorem Sq {α β:Type}{R:α->β->Prop}{as:List α}{bs:List β}(h:eW R as bs):bs.length=as.length:=(oR h).symm
theorem Bt {β:Type}{g:β->aA}{R:β->Prop}:∀ (ys:List aA),(∀ y∈ys,∃ c,y=g c/\R c)->∃ cs:List β,ys=cs.map g/\∀ c∈cs,R c
 |[],_=>⟨[],rfl,λ_ m=>by simp at m⟩
 |y::r,h=>by
  obtain⟨c,e,hc⟩:=h y bO;obtain⟨cs,e2,h2⟩:=Bt r λz m=>h z (bN _ m)
  refine⟨c::cs,by rw[e,e2];rfl,λx m=>?_⟩
  grind
theorem Mn{k:Nat}(h:k<=ds.length):cutD ds ab (aa (k:Int))=ds.take k:=by
 unfold cutD;rw[HT.Avi,HT.Azz];simp[Nat.min_eq_left h]
theorem mK(h:n<=100000):n<=sizeLine:=cL h nofun
theorem nQ(h:n<=100000):n<sizeLine:=EJ h nofun
def letter (c:Nat):Bool:=decide (97<=c)&&decide (c<=122)
def figure (c:Nat):Bool:=decide (48<=c)&&decide (c<=57)
def AV (c:Nat):Bool:=letter c||figure c
theorem Yv {c:Nat}(h:AV c=af):c<128:=by
 simp[AV,letter,figure] at h
 lia
def Gm (cs:List Nat):Prop:=∃ c r,cs=c::r/\letter c=af/\(∀ x∈cs,AV x=af)/\cs.length<=12
def nameS (z:aE):Prop:=Gm z.cps.toList
theorem Jr {z:aE}(h:∀ c∈z.cps.toList,AV c=af):cI (.str z)=af:=by
 have:z.cps.all (λx=>decide (x<1114112))=af:=by
  rw[Array.all_eq_true'];intro x hx;have:=Yv (h x (by simpa using hx))
  simp;lia
 simpa [cI,EE] using this
theorem nameS.lay {z:aE}(h:nameS z):cI (.str z)=af:=by
 obtain⟨c,r,_,_,h,_⟩:=h;exact Jr h
theorem uN (a:Int){b:Int}(h:0<b):0<=a%b/\a%b<b:=⟨Int.emod_nonneg _ (),Int.emod_lt_of_pos _ h⟩
def Goes (F:SF)(Y:aP)(P:Out->Prop):Prop:=∃ o,F Y=aa o/\P o
variable {P:Out->Prop}{m:Md}
theorem Goes.mono {P':Out->Prop}(h:Goes F Y P)(k:∀ o,P o->P' o):Goes F Y P':=by
 obtain⟨o,e,p⟩:=h;exact⟨o,e,k o p⟩
theorem gX {Y':aP}(h:F Y=aa (.nx Y'))(k:Goes G Y' P):Goes (aO F G) Y P:=by
 obtain⟨o,e,p⟩:=k;exact⟨o,by rw[Mk h];exact e,p⟩
theorem eG (I:aP->Prop)(h:Goes F Y λo=>∃ Y',o=.nx Y'/\I Y')(k:∀ Y',I Y'->Goes G Y' P):Goes (aO F G) Y P:=by
 obtain⟨o,e,Y',rfl,i⟩:=h;exact gX e (k Y' i)
theorem BL(h:F Y=aa (.rt d))(k:P (.rt d)):Goes (aO F G) Y P:=⟨_,Kz h,k⟩
theorem PB {t:BF}{b:Bool}(h:bV m t Y=aa b)(k:Goes (if b=af then F else G) Y P):Goes (bt m t F G) Y P:=by
 obtain⟨o,e,p⟩:=k;refine⟨o,?_,p⟩;show((bV m t Y).bind λb=>if b=af then F Y else G Y)=aa o
 rw[h];cases b
 .exact e
 .exact e
theorem dC {t:BF}(h:bV m t Y=aa af)(k:Goes F Y P):Goes (bt m t F G) Y P:=PB h k
theorem eU {t:BF}(h:bV m t Y=aa ag)(k:Goes G Y P):Goes (bt m t F G) Y P:=PB h k
theorem gH (k:P (.nx Y)):Goes cQ Y P:=⟨_,rfl,k⟩
theorem nG {t:BF}(h:bV m t Y=aa ag):bt m t F cQ Y=aa (.nx Y):=by
 unfold bt;rw[h]
 rfl
theorem qO (h:Goes F Y λo=>∃ d,o=.rt d/\P o):Goes (aO F G) Y P:=by
 obtain⟨o,e,d,rfl,p⟩:=h;exact BL e p
theorem cJ(h:f (vS Y)=aa d)(k:P (.rt d)):Goes (bQ n .s f) Y P:=⟨_,by
 unfold bQ eV;simp only[h,bB],k⟩
theorem AY(h:eV n m f Y=aa d)(hl:i<Y.length)(k:P (.nx (Y.set i (aa (n,d))))):Goes (bC i n m f) Y P:=
 ⟨_,by unfold bC;rw[h];simp only[bB,if_pos hl],k⟩
theorem sU(h:f (vS Y)=aa d)(hl:i<Y.length)(k:P (.nx (Y.set i (aa (n,d))))):Goes (bC i n .s f) Y P:=AY h hl k
theorem gG(h:Goes F (frz i Y) P):Goes (fI i F) Y P:=h
theorem Lp(h:n<=1000000):FO 0 (n:Int)=aa ((cP n).map λ(k:Nat)=>bA k):=by
 unfold FO;rw[if_pos ()]
 simp
theorem pG {fa:AF}{Y:List (Option aA)}(h:fa Y=aa [.int n])(hn:n<=1000000):ip fa Y=aa ((cP n).map λ(k:Nat)=>bA k):=by
 have e:=Lp hn;generalize aa ((cP n).map λ(k:Nat)=>bA k)=y at e ⊢
 rw[<-e];unfold ip;rw[h,bB]
theorem dm(h:fi (vS Y)=aa ds):aV .s fi Y=aa ds:=h
theorem ZT{T:aA->aP->Option aP}(I:Nat->aP->Prop)(h:aV m fi Y=aa ds)(h0:I 0 Y)
  (step:∀ i d Y,ds[i]?=aa d->I i Y->∃ Y1,T d Y=aa Y1/\Goes F Y1 λo=>∃ Y2,(o=.nx Y2\/o=.ct Y2)/\I (i+1) Y2) (k:∀ Y',I ds.length Y'->P (.nx Y')):Goes (cS m fi T F) Y P:=by
 obtain⟨Y',e,i⟩:=Xw I h0 λi d Y hd p=>by
  obtain⟨Y1,e1,o,e2,Y2,e3,p2⟩:=step i d Y hd p;refine⟨Y1,Y2,e1,?_,p2⟩;rcases e3 with rfl|rfl
  .exact .inl e2
  .exact .inr e2
 exact⟨_,HK h e,k Y' i⟩
theorem uT{T:aA->aP->Option aP}(I:Nat->aP->Prop)(h:aV m fi Y=aa ((cP n).map λ(k:Nat)=>bA k))(h0:I 0 Y)
  (step:∀ (i:Nat) Y,i<n->I i Y->∃ Y1,T (.int i) Y=aa Y1/\Goes F Y1 λo=>∃ Y2,(o=.nx Y2\/o=.ct Y2)/\I (i+1) Y2) (k:∀ Y',I n Y'->P (.nx Y')):Goes (cS m fi T F) Y P:=by
 refine ZT I h h0 (λi d Y hd p=>?_) (by simpa using k)
 have cr:i<n:=by
  have:=(cW.1 hd).1;simpa using this
 rw[fN,List.getElem?_range cr] at hd;have:bA (i:Int)=d:=by simpa using hd
 rw[10];exact step i Y cr p
theorem dB {np:Nat}{body:SF}{Q:aA->Prop}(hl:ds.length=np)(h:Goes body (ds.map (λd=>aa (0,d))++oU (n-np) ab) λo=>∃ d,o=.rt d/\Q d):∃ d,cf np n body ds=aa d/\Q d:=by
 obtain⟨o,e,d,rfl,q⟩:=h;exact⟨d,Hu hl e,q⟩
theorem Gn{t:BF}{Y:List (Option aA)}(R:aA->aA->Prop)(h1:fi Y=aa ds)(h2:ds.length<=100000)
  (h:∀ d∈ds,∃ Y1 y,T d (kM cap Y)=aa Y1/\t Y1=aa af/\f Y1=aa y/\R d y):∃ ys,bu cap fi T t f Y=aa (.list ys)/\eW R ds ys:=by
 obtain⟨ys,e,hp⟩:=Cz R ds h;refine⟨ys,?_,hp⟩;unfold bu;rw[h1,bB,e,bB,if_pos (mK h2)]
theorem Kx{t:BF}{Y:List (Option aA)}(g:aA->aA)(h1:fi Y=aa ds)(h2:ds.length<=100000)
  (h:∀ d∈ds,∃ Y1,T d (kM cap Y)=aa Y1/\t Y1=aa af/\f Y1=aa (g d)):bu cap fi T t f Y=aa (.list (ds.map g)):=by
 unfold bu;rw[h1,bB,RF g ds h,bB,if_pos (mK h2)]
theorem RB{t:BF}{Y:List (Option aA)}{β:Type}(g:β->aA)(R:β->Prop)(h1:fi Y=aa ((cP n).map λ(k:Nat)=>bA k))(h2:n<=100000)
  (h:∀ k<n,∃ Y1 y,T (.int (k:Nat)) (kM cap Y)=aa Y1/\t Y1=aa af/\f Y1=aa (g y)/\R y):∃ ys:List β,bu cap fi T t f Y=aa (.list (ys.map g))/\ys.length=n/\∀ y∈ys,R y:=by
 obtain⟨ys,e,hp⟩:=Gn (λ_ y=>∃ x,y=g x/\R x) h1 (by simpa using h2) λd m=>by
  obtain⟨k,hk,rfl⟩:=bU.1 m;obtain⟨Y1,y,a1,a2,a3,a4⟩:=h k (by simpa using hk)
  exact⟨Y1,g y,a1,a2,a3,y,rfl,a4⟩
 obtain⟨xs,rfl,hx⟩:=Bt ys λy m=>by
  obtain⟨_,_,x,e,hx⟩:=L2.Paired.mem_right hp y m;exact⟨x,e,hx⟩
 have:=Sq hp;exact⟨xs,e,by simpa using this,hx⟩
end L2
namespace L2
open PySem PySem.Spec PyProof.Rows
variable {f:EF}{ds:List aA}{d:aA}{kds:List (aA×aA)}
variable {F G:SF}{Y:aP}{P:Out->Prop}{m:Md}
theorem dE{Y:List (Option aA)}(h:f Y=aa (.list ds)):ay f Y=aa ds:=by
 unfold ay;rw[h]
 rfl
theorem jX{Y:List (Option aA)}(h:f Y=aa (.tuple ds)):ay f Y=aa ds:=by
 unfold ay;rw[h]
 rfl
theorem aT {fa:AF}{g:List aA->Option aA}{Y:List (Option aA)}(h:fa Y=aa ds)(h2:g ds=aa d):aJ g fa Y=aa d:=by
 unfold aJ;rw[h];exact h2
theorem aN {fa fb:EF}{g:aA->aA->Option aA}{Y:List (Option aA)}{a b:aA}(h:fa Y=aa a)(h2:fb Y=aa b)(h3:g a b=aa d):ah g fa fb Y=aa d:=by
 unfold ah;rw[h,h2];exact h3
theorem qN {i:Nat}(h:f (vS Y)=aa d)(hg:getL i Y=aa ds)(hl:ds.length<100000)(k:P (.nx (Y.set i (aa (1,.list (ds++[d])))))):Goes (gS i .s f) Y P:=⟨_,by
 unfold gS eV;simp only[h,bB,hg,if_pos (nQ (pY hl))],k⟩
theorem QJ {i:Nat}{g:EF}{kd:aA}{key:aH}(h:f (vS Y)=aa d)(hg:lB i Y=aa kds)(hk:g (vS Y)=aa kd)(ha:bM kd=aa key)(hl:kds.length<100000)(k:P (.nx (Y.set i (aa (1,.dict (putD kds key d)))))):Goes (yU i .s f .s g) Y P:=⟨_,by
 unfold yU eV;simp only[h,bB,hg,hk,ha,if_pos (nQ (pY hl))],k⟩
def Ahx (d:aA):Prop:=(∃ z,d=.str z/\nameS z)\/∃ i,d=.int i
theorem Ahx.key(h:Ahx d):bS d=af:=by
 rcases h with⟨z,rfl,hz⟩|⟨i,rfl⟩
 .simpa [bS] using hz.lay
 .simp[bS]
theorem Ahx.Ad2(h:Ahx d):Ad2 d=af:=by
 rcases h with⟨z,rfl,hz⟩|⟨i,rfl⟩<;>simp[L2.Ad2,noDict,lX]
theorem Ahx.self(h:Ahx d):bX d d=af:=by
 rw[BW d d h.key h.key];simp
theorem Ahx.flat(h:Ahx d):dS d=af:=by
 rcases h with⟨z,rfl,hz⟩|⟨i,rfl⟩<;>simp[dS]
theorem Ahx.depth(h:Ahx d):d.depth<=1:=by
 rcases h with⟨z,rfl,hz⟩|⟨i,rfl⟩<;>simp[lX]
def Amk (d:aA):Prop:=∃ z ts,d=.tuple [.str z,.tuple ts]/\nameS z/\(∀ t∈ts,Ahx t)/\ts.length<=12
theorem yB:∀ {ts:List aA},(∀ t∈ts,bS t=af)->bY ts=af
 |[],_=>by simp[bY]
 |t::r,h=>by
  simp only[bY,tZ];exact⟨h t bO,yB λx m=>h x (bN _ m)⟩
theorem qW {n:Nat}:∀ {ts:List aA},(∀ t∈ts,t.depth<=n)->cY ts<=n
 |[],_=>by simp[cY]
 |t::r,h=>by
  simp only[cY];exact Nat.max_le.2 ⟨h t bO,qW λx m=>h x (bN _ m)⟩
theorem VV:∀ {ts:List aA},(∀ t∈ts,dS t=af)->kR ts=af
 |[],_=>by simp[kR]
 |t::r,h=>by
  simp only[kR,tZ];exact⟨h t bO,VV λx m=>h x (bN _ m)⟩
theorem tD:∀ {ts:List aA},(∀ t∈ts,noDict t=af)->noDicts ts=af
 |[],_=>by simp[noDicts]
 |t::r,h=>by
  simp only[noDicts,tZ];exact⟨h t bO,tD λx m=>h x (bN _ m)⟩
theorem Amk.flat(h:Amk d):dS d=af:=by
 obtain⟨z,ts,rfl,_,ht,_⟩:=h;have:=VV λt m=>(ht t m).flat
 simp[dS,kR,this]
theorem Amk.depth(h:Amk d):d.depth<=4:=by
 obtain⟨z,ts,rfl,_,ht,_⟩:=h;have:=qW λt m=>(ht t m).depth
 simp[lX,cY]
 lia
theorem Amk.key(h:Amk d):bS d=af:=by
 obtain⟨z,ts,rfl,hz,ht,_⟩:=h;have:=yB λt m=>(ht t m).key
 have h2:=hz.lay;simp[bS,bY,this];exact h2
theorem Amk.noDict(h:Amk d):noDict d=af:=by
 obtain⟨z,ts,rfl,_,ht,_⟩:=h;have:=tD λt m=>by rcases ht t m with⟨z,rfl,hz⟩|⟨i,rfl⟩<;>simp[L2.noDict]
 simp[L2.noDict,noDicts,this]
theorem Amk.Ad2(h:Amk d):Ad2 d=af:=by
 have h1:=h.noDict;have h2:=h.depth;simp only[L2.Ad2,h1,pA,decide_eq_true_eq]
 lia
structure Kn (kds:List (aA×aA)):Prop where
 fit:∀ kd∈kds,(∃ z,kd.1=.str z)/\Ahx kd.2
 once:(kds.map (·.1)).Nodup
theorem Kn.nil:Kn []:=⟨λ_ m=>by simp at m,by simp⟩
theorem Kn.put(h:Kn kds)(z:aE)(hd:Ahx d):Kn (putD kds (.inr z) d):=by
 unfold putD;split
 .constructor
  .intro kd m;obtain⟨w6,m0,rfl⟩:=bU.1 m;have:=h.fit w6 m0
   grind
  .have e:(kds.map λkd=>if bM kd.1=aa (.inr z) then(kd.1,d) else kd).map (·.1)=kds.map (·.1):=by
    rw[eE];apply mV
    grind
   rw[e];exact h.once
 .rename_i hn;constructor
  .intro kd m;rcases dH.1 m with m|m
   .exact h.fit kd m
   .rw[cM.1 m];exact⟨⟨z,rfl⟩,hd⟩
  .rw[gJ];refine kG.2 ⟨h.once,by simp,λa ha b hb e=>?_⟩
   obtain⟨kd,m,rfl⟩:=bU.1 ha;have w9:b=dF z:=by simpa [kD] using hb
   refine hn (iF.2 ⟨kd,m,?_⟩);have e2:kd.1=dF z:=by rw[e,w9]
   rw[e2];simp[bM]
theorem Kn.look(h:Kn kds):∀ kd∈kds,∃ z,kd.1=.str z/\bJ kds (.inr z)=aa kd.2:=by
 obtain⟨hf,ho⟩:=h;induction kds with
 |nil=>intro _ m;simp at m
 |cons a r ih=>
  have ko:a.1∉r.map (·.1)/\(r.map (·.1)).Nodup:=by
   grind
  intro kd m;obtain⟨⟨z,ez⟩,_⟩:=hf kd m;refine⟨z,ez,?_⟩;rcases cZ.1 m with rfl|m
  .simp[bJ,fH,ez,bM]
  .obtain⟨z',e1,e2⟩:=ih (λx m=>hf x (bN _ m)) ko.2 kd m
   have:z'=z:=by
    have:=e1.symm.trans ez;injection this
   rw[10];have dk:¬ bM a.1=aa (.inr z'):=by
    intro q;have q2:a.1=dF z':=sZ q
    grind
   have:bJ (a::r) (.inr z')=bJ r (.inr z'):=by simp[bJ,fH,dk]
   rw[this];exact e2
theorem Kn.Ahz(h:Kn kds){k:aH}(e:bJ kds k=aa d):Ahx d:=by
 unfold bJ at e;cases q:kds.find? λkd=>decide (bM kd.1=aa k) with
 |none=>rw[q] at e;cases e
 |some kd=>
  rw[q] at e;have:kd.2=d:=by simpa using e
  rw[10];exact(h.fit kd (wF q)).2
theorem Kn.int(h:Kn kds)(i:Int):bJ kds (.inl i)=ab:=by
 have:(kds.find? λkd=>decide (bM kd.1=aa (.inl i)))=ab:=by
  rw[rJ];intro kd m;obtain⟨⟨z,e⟩,_⟩:=h.fit kd m;simp[e,bM]
 unfold bJ;rw[this]
 rfl
theorem Kn.vals(h:Kn kds):valsOk kds=af:=gD.2 λkd m=>(h.fit kd m).2.Ad2
theorem Kn.hit(h:Kn kds):∀ {r:List (aA×aA)},(∀ kd∈r,kd∈kds)->oE kds r=af
 |[],_=>rfl
 |(k,d)::r,hr=>by
  have m:=hr (k,d) bO;obtain⟨z,e,q⟩:=h.look (k,d) m;have e':=e;have q':=q;subst e';simp only[oE,bM,bB,q',(h.fit (dF z,d) m).2.self,pA];exact h.hit λkd mm=>hr kd (bN _ mm)
theorem uM(h:∀ kd∈kds,kd.1 ≠ .none):cz kds=af:=by
 cases kds with
 |nil=>rfl
 |cons p r=>
  obtain⟨k,d⟩:=p;have:=h (k,d) bO;cases k<;>first|rfl|exact absurd rfl this
theorem Kn.pl(h:Kn kds):cz kds=af:=uM λkd m=>by
 obtain⟨⟨z,e⟩,_⟩:=h.fit kd m
 grind
theorem Kn.eqK(h:Kn kds):mD af (.dict kds) (.dict kds)=aa (.bool ag):=by
 have h1:=h.vals;have h2:=h.hit λ_ m=>m
 simp[mD,h1,uO,h2,h.pl]
theorem PY:∀ {kss:List (List aA)},(∀ k∈kss,bY k=af/\cY k<=6)->oG (kss.map dG)=aa kss
 |[],_=>rfl
 |k::r,h=>by
  show(if bY k=af/\cY k<=6 then(oG (r.map dG)).bind λkss=>aa (k::kss) else ab)=_
  rw[if_pos (h k bO),PY λx m=>h x (bN _ m)]
  rfl
end L2
namespace L2
open PySem PySem.Spec PyProof.Rows
variable {f:EF}{i n:Nat}{d:aA}
variable {F G:SF}{Y:aP}{P:Out->Prop}{m:Md}
theorem jG {α β:Type}{fi:AF}{T:aA->aP->Option aP}{xs:List α}{q:α->aA}(g:β->α->β)(I:Nat->β->aP->Prop){b0:β}(h:aV m fi Y=aa (xs.map q))(h0:I 0 b0 Y)
  (step:∀ i x b Y,xs[i]?=aa x->I i b Y->∃ Y1,T (q x) Y=aa Y1/\Goes F Y1 λo=>∃ Y2,(o=.nx Y2\/o=.ct Y2)/\I (i+1) (g b x) Y2) (k:∀ Y',I xs.length (xs.foldl g b0) Y'->P (.nx Y')):Goes (cS m fi T F) Y P:=by
 refine ZT (λi Y=>I i ((xs.take i).foldl g b0) Y) h h0 (λi d Y hd p=>?_) (λY' p=>k Y' (by simpa using p))
 rw[fN] at hd;obtain⟨x,hx,rfl⟩:=jR.1 hd;obtain⟨Y1,e1,g1⟩:=step i x _ Y hx p;refine⟨Y1,e1,g1.mono λo ⟨Y2,e,q⟩=>⟨Y2,e,?_⟩⟩
 have:xs.take (i+1)=xs.take i++[x]:=by rw[NC,hx];rfl
 rw[this,NI];exact q
def xl (F:SF)(T:aA->aP->Option aP)(ds:List aA):Out->Option Out
 |.nx Y=>iW F T ds Y
 |.ct Y=>iW F T ds Y
 |.bk Y=>aa (.nx Y)
 |.rt d=>aa (.rt d)
theorem TL {T:aA->List (Option aA)->Option (List (Option aA))}{t:BF}{Y:List (Option aA)}{α:Type}{q:α->aA}(p:α->Bool)(g:α->aA):∀ (xs:List α),
  (∀ x∈xs,∃ Y1,T (q x) Y=aa Y1/\t Y1=aa (p x)/\(p x=af->f Y1=aa (g x)))->ja T t f Y (xs.map q)=aa ((xs.filter p).map g)
 |[],_=>rfl
 |x::xs,h=>by
  obtain⟨Y1,e1,e2,e3⟩:=h x bO;have ih:=TL p g xs λy m=>h y (bN _ m)
  show((T (q x) Y).bind λY1=>(t Y1).bind λc=>if c=af then(f Y1).bind λy=>(ja T t f Y (xs.map q)).bind λys=>aa (y::ys) else ja T t f Y (xs.map q))=_
  grind
theorem dU {cap:List (Option Nat)}{fi:AF}{T:aA->List (Option aA)->Option (List (Option aA))}{t:BF}{Y:List (Option aA)}{α:Type}{xs:List α}{q:α->aA}(p:α->Bool)(g:α->aA)(h1:fi Y=aa (xs.map q))(h2:xs.length<=100000)
  (h:∀ x∈xs,∃ Y1,T (q x) (kM cap Y)=aa Y1/\t Y1=aa (p x)/\(p x=af->f Y1=aa (g x))):bu cap fi T t f Y=aa (.list ((xs.filter p).map g)):=by
 unfold bu;rw[h1,bB,TL p g xs h,bB,if_pos (mK (by simpa using h2))]
theorem Be(h:eV n m f Y=aa d)(hl:i<Y.length):bC i n m f Y=aa (.nx (Y.set i (aa (n,d)))):=by
 obtain⟨o,e,q⟩:=AY (P:=λo=>o=.nx (Y.set i (aa (n,d)))) h hl rfl
 rw[e,q]
theorem bT(h:f (vS Y)=aa d)(hl:i<Y.length)(k:Goes G (Y.set i (aa (n,d))) P):Goes (aO (bC i n .s f) G) Y P:=gX (Be h hl) k
theorem HG(h:f (vA Y)=aa d)(hf:fP n d=af)(hl:i<Y.length)(k:Goes G (Y.set i (aa (n,d))) P):Goes (aO (bC i n .a f) G) Y P:=
 gX (Be (by show((f (vA Y)).bind λd=>if fP n d=af then aa d else ab)=_;rw[h,bB,if_pos hf]) hl) k
theorem uG {fa:EF}{g:aA->Option aA}{Y:List (Option aA)}{a:aA}(h:fa Y=aa a)(h3:g a=aa d):ff g fa Y=aa d:=by
 unfold ff;rw[h];exact h3
theorem aQ{g:AF}{Y:List (Option aA)}{ds:List aA}(h:f Y=aa d)(h2:g Y=aa ds):aC f g Y=aa (d::ds):=by
 unfold aC;rw[h,h2]
 rfl
end L2
namespace L2
def fE {α:Type}[DecidableEq α](ar:List α)(z:α):List α:=if z∈ar then ar else ar++[z]
def sG {α:Type}[DecidableEq α](zs:List α):List α:=zs.foldl fE []
section
variable {α:Type}[DecidableEq α]
theorem Avl {ar:List α}{z x:α}:x∈fE ar z↔x∈ar\/x=z:=by
 unfold fE
 grind
theorem CG {x:α}:∀ (zs ar:List α),x∈zs.foldl fE ar↔x∈ar\/x∈zs
 |[],ar=>by simp
 |z::zs,ar=>by
  rw[oX,CG zs,Avl]
  grind
theorem Yt {x:α}{zs:List α}:x∈sG zs↔x∈zs:=by
 unfold sG;rw[CG];simp
theorem vG (ar:List α)(z:α):(fE ar z).length<=ar.length+1:=by
 unfold fE;split<;>simp
theorem CJ:∀ (zs ar:List α),(zs.foldl fE ar).length<=ar.length+zs.length
 |[],ar=>by simp
 |z::zs,ar=>by
  have h1:=CJ zs (fE ar z);have h2:=vG ar z
  grind
end
open PySem PySem.Spec PyProof.Rows
structure KnR (R:aA->Prop)(kds:List (aA×aA)):Prop where
 fit:∀ kd∈kds,(∃ z,kd.1=.str z)/\R kd.2
 once:(kds.map (·.1)).Nodup
variable {R:aA->Prop}{kds:List (aA×aA)}
theorem KnR.nil:KnR R []:=⟨λ_ m=>by simp at m,by simp⟩
theorem Pc (kds:List (aA×aA))(k:aH)(d:aA):(kds.map λkd=>if bM kd.1=aa k then(kd.1,d) else kd).map (·.1)=kds.map (·.1):=by
 rw[eE];refine mV λkd _=>?_
 grind
theorem KnR.put (h:KnR R kds)(z:aE){d:aA}(hd:R d):KnR R (putD kds (.inr z) d):=by
 unfold putD;split
 .refine⟨λkd m=>?_,by rw[Pc];exact h.once⟩
  obtain⟨w6,m0,rfl⟩:=bU.1 m;have q:=h.fit w6 m0
  grind
 .rename_i hn;refine⟨λkd m=>?_,?_⟩
  .rcases dH.1 m with m|m
   .exact h.fit kd m
   .rw[cM.1 m];exact⟨⟨z,rfl⟩,hd⟩
  .rw[gJ];refine kG.2 ⟨h.once,by simp,λa ha b hb e=>?_⟩
   obtain⟨kd,m,rfl⟩:=bU.1 ha;have w9:b=dF z:=by simpa [kD] using hb
   have e2:=e.trans w9;exact hn (iF.2 ⟨kd,m,by rw[e2];simp[bM]⟩)
theorem KnR.at (h:KnR R kds){k:aH}{d:aA}(e:bJ kds k=aa d):R d:=by
 unfold bJ at e;obtain⟨kd,q,rfl⟩:=jR.1 e;exact(h.fit kd (wF q)).2
theorem KnR.look (h:KnR R kds):∀ kd∈kds,∃ z,kd.1=.str z/\bJ kds (.inr z)=aa kd.2:=by
 obtain⟨hf,ho⟩:=h;induction kds with
 |nil=>intro _ m;simp at m
 |cons a r ih=>
  rw[cT,iJ] at ho;intro kd m;obtain⟨z,ez⟩:=(hf kd m).1;refine⟨z,ez,?_⟩;rcases cZ.1 m with rfl|m
  .simp[bJ,fH,ez,bM]
  .obtain⟨z',e1,e2⟩:=ih (λx m=>hf x (bN _ m)) ho.2 kd m
   obtain rfl:z'=z:=by
    have q:=e1.symm.trans ez;injection q
   have dk:¬ bM a.1=aa (.inr z'):=λq=>ho.1 (bU.2 ⟨kd,m,by rw[e1];exact(sZ q).symm⟩)
   have e3:bJ (a::r) (.inr z')=bJ r (.inr z'):=by simp[bJ,fH,dk]
   rw[e3];exact e2
theorem KnR.hit (h:KnR R kds)(hs:∀ d,R d->bX d d=af):∀ {r:List (aA×aA)},(∀ kd∈r,kd∈kds)->oE kds r=af
 |[],_=>rfl
 |(k,d)::r,hr=>by
  have m:=hr (k,d) bO;obtain⟨z,e,q⟩:=h.look (k,d) m;have e':=e;have q':=q;subst e';simp only[oE,bM,bB,q',hs d (h.fit (dF z,d) m).2,pA];exact h.hit hs λkd mm=>hr kd (bN _ mm)
theorem KnR.pl (h:KnR R kds):cz kds=af:=uM λkd m=>by
 obtain⟨⟨z,e⟩,_⟩:=h.fit kd m
 grind
theorem KnR.eqK (h:KnR R kds)(hs:∀ d,R d->bX d d=af)(ho:∀ d,R d->Ad2 d=af)(neg:Bool):mD neg (.dict kds) (.dict kds)=aa (.bool (neg != af)):=by
 have h1:valsOk kds=af:=gD.2 λkd m=>ho _ (h.fit kd m).2
 have h2:=h.hit hs λ_ m=>m
 simp[mD,h1,uO,h2,h.pl]
def bH (r:List Int):aA:=.tuple (r.map bA)
def aX (rs:List (List Int)):aA:=.list (rs.map bH)
theorem JA (r:List Int):bS (bH r)=af:=by
 refine yB λt m=>?_
 obtain⟨i,_,rfl⟩:=bU.1 m
 rfl
theorem RI (rs:List (List Int)):bY (rs.map bH)=af:=yB λt m=>by
 obtain⟨r,_,rfl⟩:=bU.1 m;exact JA r
theorem UV (rs:List (List Int)):bX (aX rs) (aX rs)=af:=by
 have:=yG _ _ (RI rs) (RI rs);simp[aX,bX,this]
theorem qM {n j:Nat}(h:j<n):fg n (j:Int)=aa j:=by
 unfold fg
 grind
theorem Iq {ds:List aA}{f:EF}{lo hi:OF}{Y:List (Option aA)}{l u:Option Int}(e1:f Y=aa (.list ds))(e2:lo Y=aa l)(e3:hi Y=aa u):AI f lo hi Y=aa (.list (cutD ds l u)):=by
 unfold AI
 grind
theorem pH {fd fk fx:EF}{Y:List (Option aA)}{kds:List (aA×aA)}{kd x:aA}{key:aH}(h1:fd Y=aa (.dict kds))(h2:fk Y=aa kd)(ha:bM kd=aa key)(h3:fx Y=aa x)(hp:cz kds=af:=by first|assumption|rfl|simp):fW fd fk fx Y=aa ((bJ kds key).getD x):=by
 unfold fW;rw[h1,bB,h2,bB,h3,bB];show(if cz kds=af then(bM kd).bind λk=>aa ((bJ kds k).getD x) else ab)=_
 rw[if_pos hp,ha]
 rfl
end L2
namespace L2
open PySem PySem.Spec PyProof.Rows
variable {F G:SF}{Y:aP}{P:Out->Prop}{m:Md}
def eJ {α β:Type}(g:β->α->Option β):β->List α->Option β
 |b,[]=>aa b
 |b,x::xs=>(g b x).bind λb'=>eJ g b' xs
def AE {β:Type}(I:β->aP->Prop)(r:aA)(t:Option β)(o:Out):Prop:=match t with
 |none=>o=.rt r
 |some b=>∃ Y2,o=.nx Y2/\I b Y2
def qF {β:Type}(I:β->aP->Prop)(r:aA)(t:Option β)(o:Out):Prop:=match t with
 |none=>o=.rt r
 |some b=>∃ Y2,(o=.nx Y2\/o=.ct Y2)/\I b Y2
theorem XH {α β:Type}(g:β->α->Option β)(x:α):∀ (xs:List α) (b:β),eJ g b (xs++[x])=(eJ g b xs).bind λb'=>g b' x
 |[],b=>by
  show((g b x).bind λb'=>aa b')=g b x
  cases g b x<;>rfl
 |y::ys,b=>by
  show((g b y).bind λb'=>eJ g b' (ys++[x]))=((g b y).bind λb'=>eJ g b' ys).bind _
  cases g b y with
  |none=>rfl
  |some b'=>exact XH g x ys b'
theorem Am {T:aA->aP->Option aP}{α β:Type}{q:α->aA}(g:β->α->Option β)(I:β->aP->Prop)(r:aA){all:List α}{b0:β}
  (step:∀ pre x post b Y,all=pre++x::post->eJ g b0 pre=aa b->I b Y->∃ Y1,T (q x) Y=aa Y1/\Goes F Y1 (qF I r (g b x))):∀ {xs pre:List α} {b:β} {Y:aP},all=pre++xs->eJ g b0 pre=aa b->I b Y->∃ o,iW F T (xs.map q) Y=aa o/\AE I r (eJ g b xs) o
 |[],pre,b,Y,_,_,h0=>⟨_,rfl,Y,rfl,h0⟩
 |x::xs,pre,b,Y,ha,hb,h0=>by
  obtain⟨Y1,e1,o,e2,h⟩:=step pre x xs b Y ha hb h0;have e:iW F T ((x::xs).map q) Y=xl F T (xs.map q) o:=by
   show((T (q x) Y).bind λY1=>(F Y1).bind λo=>_)=_
   rw[e1,bB,e2,bB];cases o<;>rfl
  rw[e];show ∃ o',xl F T (xs.map q) o=aa o'/\AE I r ((g b x).bind λb'=>eJ g b' xs) o'
  cases hg:g b x with
  |none=>
   rw[hg] at h;have h:=h;subst h;exact⟨_,rfl,rfl⟩
  |some b'=>
   rw[hg] at h;obtain⟨Y2,ho,i2⟩:=h;obtain⟨o',e',h'⟩:=Am g I r step (pre:=pre++[x]) (by simpa using ha) (by rw[XH,hb];exact hg) i2
   rcases ho with rfl|rfl
   .exact⟨o',e',h'⟩
   .exact⟨o',e',h'⟩
theorem HZ {α β:Type}{fi:AF}{T:aA->aP->Option aP}{xs:List α}{q:α->aA}{b0:β}(g:β->α->Option β)(I:β->aP->Prop)(r:aA)(h:aV m fi Y=aa (xs.map q))(h0:I b0 Y)
  (step:∀ pre x post b Y,xs=pre++x::post->eJ g b0 pre=aa b->I b Y->∃ Y1,T (q x) Y=aa Y1/\Goes F Y1 (qF I r (g b x))):Goes (cS m fi T F) Y (AE I r (eJ g b0 xs)):=by
 obtain⟨o,e,h'⟩:=Am g I r step (xs:=xs) (pre:=[]) (by simp) rfl h0
 exact⟨o,HK h e,h'⟩
theorem GU {β:Type}(I:β->aP->Prop)(r:aA)(t:Option β)(h:Goes F Y (AE I r t))(k1:t=ab->P (.rt r))(k2:∀ b,t=aa b->∀ Y',I b Y'->Goes G Y' P):Goes (aO F G) Y P:=by
 obtain⟨o,e,h⟩:=h;cases t with
 |none=>
  have h:=h;subst h;exact BL e (k1 rfl)
 |some b=>
  obtain⟨Y2,rfl,i2⟩:=h;exact gX e (k2 b rfl Y2 i2)
theorem KM {α:Type}(p:α->Bool):∀ xs:List α,eJ (λ(_:Unit) x=>if p x=af then ab else aa Unit.unit) Unit.unit xs=if xs.any p=af then ab else aa Unit.unit
 |[]=>rfl
 |x::xs=>by
  show((if p x=af then ab else aa Unit.unit).bind λb'=>eJ _ b' xs)=_
  cases hp:p x with
  |true=>simp[hp]
  |false=>
   rw[rK,hp];simpa using KM p xs
def dN (p:aE×Int):aA×aA:=(.str p.1,.int p.2)
def DN (kn:List (aE×Int)):List (aA×aA):=kn.map dN
def bF (kn:List (aE×Int))(z:aE):Option Int:=(kn.find? λp=>decide (p.1=z)).map (·.2)
theorem pI (kn:List (aE×Int))(z:aE):bJ (DN kn) (.inr z)=(bF kn z).map bA:=by
 unfold bJ bF DN;induction kn with
 |nil=>rfl
 |cons p r ih=>
  rw[cT,fH,fH];have e:bM (dN p).1=aa (.inr p.1):=rfl;rw[e];by_cases h:p.1=z
  .simp[h,dN]
  .have h':¬ (aa (jJ p.1:aH)=aa (jJ z)):=λq=>h (by injection q with q;injection q)
   rw[decide_eq_false h',decide_eq_false h];exact ih
theorem II (kn:List (aE×Int))(i:Int):bJ (DN kn) (.inl i)=ab:=by
 unfold bJ DN;have:((kn.map dN).find? λkd=>decide (bM kd.1=aa (.inl i)))=ab:=by
  rw[rJ];intro kd m;obtain⟨p,_,rfl⟩:=bU.1 m;simp[dN,bM]
 rw[this]
 rfl
theorem GW {kn:List (aE×Int)}{z:aE}(h:bF kn z=ab)(v:Int):putD (DN kn) (.inr z) (.int v)=DN (kn++[(z,v)]):=by
 unfold putD DN;have hn:¬ ((kn.map dN).any λkd=>decide (bM kd.1=aa (.inr z)))=af:=λq=>by
  obtain⟨kd,m,e⟩:=iF.1 q;obtain⟨p,mp,rfl⟩:=bU.1 m;have e':p.1=z:=by
   have:=of_decide_eq_true e;have:=this;injection this with this;injection this
  unfold bF at h;have h2:=tX.1 h;have:=rJ.1 h2 p mp;exact this (decide_eq_true e')
 rw[if_neg hn,gJ]
 rfl
theorem yL {kn:List (aE×Int)}{z:aE}(h:bF kn z=ab)(v:Int)(y:aE):bF (kn++[(z,v)]) y=if y=z then aa v else bF kn y:=by
 unfold bF at *;rw[Em];by_cases e:y=z
 .subst e;rw[if_pos rfl,tX.1 h];simp
 .rw[if_neg e];have e':¬ z=y:=λq=>e q.symm
  cases q:kn.find? λp=>decide (p.1=y) with
  |none=>simp[e']
  |some p=>rfl
def eT (kn:List (aE×Int))(p:aH×Int):Option (List (aE×Int)):=match p.1 with
 |.inl i=>if p.2=i then aa kn else ab
 |.inr z=>match bF kn z with
  |some u=>if p.2=u then aa kn else ab
  |none=>aa (kn++[(z,p.2)])
theorem sY:∀ {ps:List (aH×Int)} {kn az:List (aE×Int)},eJ eT kn ps=aa az ->
  (∀ z u,bF kn z=aa u->bF az z=aa u)/\(∀ p∈ps,(∀ i,p.1=.inl i->p.2=i)/\∀ z,p.1=.inr z->bF az z=aa p.2)/\(∀ z u,bF az z=aa u->bF kn z=aa u\/∃ p∈ps,p.1=.inr z)
 |[],kn,az,h=>by
  cases h;exact⟨λ_ _ e=>e,λ_ m=>by simp at m,λ_ _ e=>.inl e⟩
 |(.inl i,v)::ps,kn,az,h=>by
  obtain⟨k1,e1,e2⟩:=aj (show((eT kn (.inl i,v)).bind λb'=>eJ eT b' ps)=aa az from h)
  have e1:=e1;obtain⟨hv,rfl⟩:=cR e1;obtain⟨a,b,c⟩:=sY e2;refine⟨a,λp m=>?_,λz u e=>(c z u e).imp id λ⟨p,m,q⟩=>⟨p,bN _ m,q⟩⟩
  rcases cZ.1 m with rfl|m
  .exact⟨λi' q=>(by cases q;exact hv),λz q=>(by cases q)⟩
  .exact b p m
 |(.inr z,v)::ps,kn,az,h=>by
  obtain⟨k1,e1,e2⟩:=aj (show((eT kn (.inr z,v)).bind λb'=>eJ eT b' ps)=aa az from h)
  obtain⟨a,b,c⟩:=sY e2;cases hl:bF kn z with
  |some u=>
   have e1:(match bF kn z with|some u=>if v=u then aa kn else ab|none=>aa (kn++[(z,v)]))=aa k1:=e1
   rw[hl] at e1;obtain⟨hv,rfl⟩:=cR e1;refine⟨a,λp m=>?_,λz' u' e=>(c z' u' e).imp id λ⟨p,m,q⟩=>⟨p,bN _ m,q⟩⟩
   rcases cZ.1 m with rfl|m
   .exact⟨λi' q=>(by cases q),λz' q=>(by cases q;rw[a z u hl,hv])⟩
   .exact b p m
  |none=>
   have e1:(match bF kn z with|some u=>if v=u then aa kn else ab|none=>aa (kn++[(z,v)]))=aa k1:=e1
   rw[hl] at e1;cases e1;refine⟨λy u e=>a y u (by rw[yL hl,if_neg λq=>by rw[q,hl] at e;cases e];exact e),λp m=>?_,λy u e=>?_⟩
   .rcases cZ.1 m with rfl|m
    .exact⟨λi' q=>(by cases q),λz' q=>(by cases q;exact a z v (by rw[yL hl,if_pos rfl]))⟩
    .exact b p m
   .rcases c y u e with q|⟨p,m,q⟩
    .rw[yL hl] at q;by_cases hy:y=z
     .exact .inr ⟨_,bO,by rw[hy]⟩
     .rw[if_neg hy] at q;exact .inl q
    .exact .inr ⟨p,bN _ m,q⟩
theorem xY:∀ {ps:List (aH×Int)} {kn:List (aE×Int)},(∀ p∈ps,∀ i,p.1=.inl i->p.2=i)->(∀ p∈ps,∀ z u,p.1=.inr z->bF kn z=aa u->p.2=u)->(∀ p∈ps,∀ p'∈ps,∀ z,p.1=.inr z->p'.1=.inr z->p.2=p'.2)->∃ az,eJ eT kn ps=aa az
 |[],kn,_,_,_=>⟨kn,rfl⟩
 |(.inl i,v)::ps,kn,h1,h2,h3=>by
  have hv:=h1 _ bO i rfl;obtain⟨az,e⟩:=xY (λp m=>h1 p (bN _ m)) (λp m=>h2 p (bN _ m)) (λp m p' m'=>h3 p (bN _ m) p' (bN _ m'))
  refine⟨az,?_⟩;show((if v=i then aa kn else ab).bind λb'=>eJ eT b' ps)=aa az
  rw[if_pos hv];exact e
 |(.inr z,v)::ps,kn,h1,h2,h3=>by
  cases hl:bF kn z with
  |some u=>
   have hv:=h2 _ bO z u rfl hl;obtain⟨az,e⟩:=xY (λp m=>h1 p (bN _ m)) (λp m=>h2 p (bN _ m)) (λp m p' m'=>h3 p (bN _ m) p' (bN _ m'))
   refine⟨az,?_⟩;show((match bF kn z with|some u=>if v=u then aa kn else ab|none=>aa (kn++[(z,v)])).bind λb'=>eJ eT b' ps)=aa az
   rw[hl];show((if v=u then aa kn else ab).bind λb'=>eJ eT b' ps)=aa az
   rw[if_pos hv];exact e
  |none=>
   obtain⟨az,e⟩:=xY (λp m=>h1 p (bN _ m)) (λp m y u q e=>by
    rw[yL hl] at e;by_cases hy:y=z
    .rw[if_pos hy] at e;cases e;exact h3 p (bN _ m) _ bO z (by rw[q,hy]) rfl
    .rw[if_neg hy] at e;exact h2 p (bN _ m) y u q e) (λp m p' m'=>h3 p (bN _ m) p' (bN _ m'))
   refine⟨az,?_⟩;show((match bF kn z with|some u=>if v=u then aa kn else ab|none=>aa (kn++[(z,v)])).bind λb'=>eJ eT b' ps)=aa az
   rw[hl];exact e
end L2
namespace Aw
open PySem L2
variable {n i:Nat}{Y:List (Option aA)}{f:EF}{ds:List aA}{F:SF}
abbrev s0 (d:aA):L2.Slot:=aa (0,d)
abbrev lI (ms:List Int):aA:=.list (ms.map bA)
def Aw0 (n:Nat)(z:aE):Prop:=cI (.str z)=af/\z.length<=n
theorem Aw0.mono {m:Nat}{z:aE}(h:Aw0 n z)(hm:n<=m):Aw0 m z:=⟨h.1,cL h.2 hm⟩
theorem Aw0.cut{z:aE}(h:Aw0 n z)(lo hi:Option Int):Aw0 n (pL z lo hi):=⟨TC lo hi h.1,cL (SZ z lo hi) h.2⟩
theorem uW (a b:Int):cb (.int a) (.int b)=aa (.bool (decide (a=b))):=by
 congr 2
theorem Jm (p q:aA)(x:Int):ao (.list [p,q]) (.int (x%2))=aa (if x%2=0 then p else q):=by
 have h:=uN x (show(0:Int)<2 by decide)
 rcases(show x%2=0\/x%2=1 by lia) with e|e<;>rw[e]<;>rfl
theorem xV {α:Type}{q:α->aA}{xs:List α}{j:Nat}{x:α}(h:xs[j]?=aa x):ao (.list (xs.map q)) (.int j)=aa (q x):=BE (by rw[fN,h];rfl)
theorem RG {α:Type}{R:α->Prop}{xs:List α}{j:Nat}{x:α}(h:∀ y∈xs,R y)(hx:R x):∀ y∈xs.set j x,R y:=λy m=>by
 grind
theorem Oh {Y:aP}{P:Out->Prop}{d:aA}(h:f (vA Y)=aa d)(hf:fP n d=af)(hl:i<Y.length)(k:P (.nx (Y.set i (aa (n,d))))):Goes (bC i n .a f) Y P:=
 AY (by show((f (vA Y)).bind λd=>if fP n d=af then aa d else ab)=_;rw[h,bB,if_pos hf]) hl k
theorem Yc {Y:aP}{P:Out->Prop}{g:EF}{d:aA}{j:Int}{jn:Nat}(h:f (vA Y)=aa d)(hf:dS d=af)(hg:getL i Y=aa ds)(hk:g (vS Y)=aa (.int j))(hj:fg ds.length j=aa jn)(k:P (.nx (Y.set i (aa (1,.list (ds.set jn d)))))):Goes (rV i .a f .s g) Y P:=by
 refine⟨_,?_,k⟩;have e1:eV 0 .a f Y=aa d:=by
  show((f (vA Y)).bind λd=>if fP 0 d=af then aa d else ab)=_
  rw[h,bB,if_pos (show fP 0 d=af from hf)]
 have e2:eV 0 .s g Y=aa (.int j):=hk;unfold rV
 grind
abbrev tK (ks:List aH):aA:=.tuple (ks.map kD)
abbrev tI (row:List Int):aA:=.tuple (row.map bA)
def rU:Option (List (aE×Int))->aA
 |none=>.none
 |some kn=>.dict (DN kn)
def FY (p:aH×Int):aA:=pairD (kD p.1) (.int p.2)
theorem SK (ks:List aH)(row:List Int):wB pairD (ks.map kD) (row.map bA)=(ks.zip row).map FY:=by
 rw[List.zipWith_map,List.zip,List.map_zipWith]
 rfl
theorem uU (k:aH):fD "str" (kD k)=aa (.bool (match k with|.inr _=>af|.inl _=>ag)):=by
 cases k<;>simp[fD,nF,md,kD]
theorem ne_int (a b:Int):dg (.int a) (.int b)=aa (.bool (decide (a≠b))):=by
 have:bX (.int a) (.int b)=decide (a=b):=by
  rw[show bX (.int a) (.int b)=(a==b) by simp[bX],hJ]
  simp
 simp[dg,Ad2,noDict,lX,this]
def cH (ks:List aH)(row:List Int)(kn:List (aE×Int)):Option (List (aE×Int)):=if row.length=ks.length then eJ eT kn (ks.zip row) else ab
theorem lM (ds:List aA):bG [.tuple ds]=aa (.int ds.length):=by simp[bG]
theorem Iu {ks:List aH}{row:List Int}{g:EF}(h1:f Y=aa (tI row))(h2:g Y=aa (tK ks)) :
  ah dg (aJ bG (aC f aG)) (aJ bG (aC g aG)) Y=aa (.bool (decide (row.length≠ks.length))):=by
 refine aN (aT (aQ h1 rfl) (by rw[lM,bR])) (aT (aQ h2 rfl) (by rw[lM,bR])) ?_
 rw[ne_int]
 congr 2
 rw[hJ];simp
 lia
theorem cF{b:Bool}(h:f Y=aa (.bool b)):ak f Y=aa b:=by
 unfold ak;rw[h]
 rfl
theorem Zu (L:L2.Slot)(R K:L2.Slot)(kn:List (aE×Int))(o8:kn.length<=1000)(p:aH×Int)(x6:L2.Slot) :
  Goes (aO (mh 6 3 .s (ak (ff (fD "str") (aB 4))) .s (aB 4) .s (aB 5) .s (aB 4)) (bt .s (ak (ah dg (aB 5) (aB 6))) (bQ 1 .s (eC .none)) cQ)) [L,R,K,aa (1,.dict (DN kn)),aa (0,kD p.1),aa (0,.int p.2),x6]
   (qF (λaz Y'=>∃ x4 x5 x6:L2.Slot,Y'=[L,R,K,aa (1,.dict (DN az)),x4,x5,x6]) .none (eT kn p)):=by
 have lz:(DN kn).length<sizeLine:=nQ (by simp[DN];lia)
 obtain⟨t,v⟩:=p;cases t with
 |inl i=>
  have e1:mh 6 3 .s (ak (ff (fD "str") (aB 4))) .s (aB 4) .s (aB 5) .s (aB 4) [L,R,K,aa (1,.dict (DN kn)),aa (0,.int i),aa (0,.int v),x6]=aa (.nx [L,R,K,aa (1,.dict (DN kn)),aa (0,.int i),aa (0,.int v),aa (0,.int i)]):=by
   have b:bV .s (ak (ff (fD "str") (aB 4))) [L,R,K,aa (1,.dict (DN kn)),aa (0,.int i),aa (0,.int v),x6]=aa ag:=cF (uG (a:=.int i) rfl (uU (.inl i)));unfold mh;rw[b,bB,if_neg mB]
   rfl
  refine gX e1 ?_;have e2:bV .s (ak (ah dg (aB 5) (aB 6))) [L,R,K,aa (1,.dict (DN kn)),aa (0,.int i),aa (0,.int v),aa (0,.int i)]=aa (decide (v≠i)):=cF (aN (a:=.int v) (b:=.int i) rfl rfl (ne_int v i));by_cases h:v=i
  .refine eU (e2.trans (by simp[h])) (gH ?_)
   show qF _ _ (if v=i then aa kn else ab) _
   rw[if_pos h];exact⟨_,.inl rfl,_,_,_,rfl⟩
  .refine dC (e2.trans (by simp[h])) (cJ (d:=.none) rfl ?_)
   show qF _ _ (if v=i then aa kn else ab) _
   rw[if_neg h]
   rfl
 |inr z=>
  have b:bV .s (ak (ff (fD "str") (aB 4))) [L,R,K,aa (1,.dict (DN kn)),aa (0,.str z),aa (0,.int v),x6]=aa af:=cF (uG (a:=.str z) rfl (uU (.inr z)));cases hl:bF kn z with
  |some u=>
   have e1:mh 6 3 .s (ak (ff (fD "str") (aB 4))) .s (aB 4) .s (aB 5) .s (aB 4) [L,R,K,aa (1,.dict (DN kn)),aa (0,.str z),aa (0,.int v),x6]=aa (.nx [L,R,K,aa (1,.dict (DN kn)),aa (0,.str z),aa (0,.int v),aa (0,.int u)]):=by
    unfold mh;rw[b,bB,if_pos rfl];show(if 6<7/\(DN kn).length<sizeLine then aa (Out.nx (match bJ (DN kn) (.inr z) with
     |some u=>[L,R,K,aa (1,.dict (DN kn)),aa (0,.str z),aa (0,.int v),aa (0,u)]
     | none=>[L,R,K,aa (1,.dict (putD (DN kn) (.inr z) (.int v))),aa (0,.str z),aa (0,.int v),aa (0,.int v)])) else ab)=_
    rw[if_pos ⟨(),lz⟩,pI,hl]
    rfl
   refine gX e1 ?_;have e2:bV .s (ak (ah dg (aB 5) (aB 6))) [L,R,K,aa (1,.dict (DN kn)),aa (0,.str z),aa (0,.int v),aa (0,.int u)]=aa (decide (v≠u)):=cF (aN (a:=.int v) (b:=.int u) rfl rfl (ne_int v u));have ef:eT kn (.inr z,v)=if v=u then aa kn else ab:=by
    show(match bF kn z with|some u=>if v=u then aa kn else ab|none=>aa (kn++[(z,v)]))=_
    rw[hl]
   rw[ef];by_cases h:v=u
   .refine eU (e2.trans (by simp[h])) (gH ?_)
    rw[if_pos h];exact⟨_,.inl rfl,_,_,_,rfl⟩
   .refine dC (e2.trans (by simp[h])) (cJ (d:=.none) rfl ?_)
    rw[if_neg h]
    rfl
  |none=>
   have e1:mh 6 3 .s (ak (ff (fD "str") (aB 4))) .s (aB 4) .s (aB 5) .s (aB 4) [L,R,K,aa (1,.dict (DN kn)),aa (0,.str z),aa (0,.int v),x6]=aa (.nx [L,R,K,aa (1,.dict (DN (kn++[(z,v)]))),aa (0,.str z),aa (0,.int v),aa (0,.int v)]):=by
    unfold mh;rw[b,bB,if_pos rfl];show(if 6<7/\(DN kn).length<sizeLine then aa (Out.nx (match bJ (DN kn) (.inr z) with
     |some u=>[L,R,K,aa (1,.dict (DN kn)),aa (0,.str z),aa (0,.int v),aa (0,u)]
     | none=>[L,R,K,aa (1,.dict (putD (DN kn) (.inr z) (.int v))),aa (0,.str z),aa (0,.int v),aa (0,.int v)])) else ab)=_
    rw[if_pos ⟨(),lz⟩,pI,hl,GW hl]
    rfl
   refine gX e1 ?_;have e2:bV .s (ak (ah dg (aB 5) (aB 6))) [L,R,K,aa (1,.dict (DN (kn++[(z,v)]))),aa (0,.str z),aa (0,.int v),aa (0,.int v)]=aa (decide (v≠v)):=cF (aN (a:=.int v) (b:=.int v) rfl rfl (ne_int v v));have ef:eT kn (.inr z,v)=aa (kn++[(z,v)]):=by
    show(match bF kn z with|some u=>if v=u then aa kn else ab|none=>aa (kn++[(z,v)]))=_
    rw[hl]
   rw[ef];exact eU (e2.trans (by simp)) (gH ⟨_,.inl rfl,_,_,_,rfl⟩)
theorem BV:∀ {ps:List (aH×Int)} {kn az:List (aE×Int)},eJ eT kn ps=aa az->az.length<=kn.length+ps.length
 |[],kn,az,h=>by cases h;simp
 |p::ps,kn,az,h=>by
  obtain⟨k1,e1,e2⟩:=aj (show((eT kn p).bind λb'=>eJ eT b' ps)=aa az from h)
  have h1:=BV e2;have h2:k1.length<=kn.length+1:=by
   unfold eT at e1
   grind
  rw[fU]
  lia
def pQ (kn:List (aE×Int)):Prop:=∀ p∈kn,cI (.str p.1)=af
theorem ki (kn:List (aE×Int)):cz (DN kn)=af:=uM λkd m=>by
 obtain⟨p,_,rfl⟩:=bU.1 m;exact λq=>nomatch q
theorem Vf {kn:List (aE×Int)}(h:pQ kn)(e:f Y=aa (.dict (DN kn))):u5 f Y=aa ((kn.map (·.1)).map dF):=by
 unfold u5;rw[e,bB];show(if (cz (DN kn)&&(DN kn).all λkd=>cI kd.1)=af then aa ((DN kn).map (·.1)) else ab)=_
 rw[ki,pA,if_pos (gD.2 λkd m=>by
  obtain⟨p,mp,rfl⟩:=bU.1 m;exact h p mp)]
 unfold DN;rw[eE,eE]
 rfl
theorem xW {c:Prop}[Decidable c]{α:Type}{a:Option α}{b:α}(h:(if c then a else ab)=aa b):c/\a=aa b:=by
 grind
def putN (kn:List (aE×Int))(z:aE)(v:Int):List (aE×Int):=if (bF kn z).isSome=af then kn.map λp=>if p.1=z then(p.1,v) else p else kn++[(z,v)]
theorem Ap (kn:List (aE×Int))(z:aE)(v:Int):putD (DN kn) (.inr z) (.int v)=DN (putN kn z v):=by
 unfold putN;cases h:bF kn z with
 |none=>exact GW h v
 |some u=>
  rw[if_pos (show(aa u).isSome=af from rfl)]
  unfold putD DN;have hy:((kn.map dN).any λkd=>decide (bM kd.1=aa (.inr z)))=af:=by
   unfold bF at h;obtain⟨p,e,_⟩:=jR.1 h;refine iF.2 ⟨dN p,bU.2 ⟨p,wF e,rfl⟩,?_⟩;have:p.1=z:=by simpa using NJ e
   show decide (aa (jJ p.1:aH)=aa (jJ z))=af;rw[this];simp
  rw[if_pos hy,eE,eE];refine mV λp _=>?_
  show(if aa (jJ p.1:aH)=aa (jJ z) then((dN p).1,bA v) else dN p)=dN (if p.1=z then(p.1,v) else p)
  by_cases e:p.1=z
  .rw[if_pos (by rw[e]),if_pos e];rfl
  all_goals grind
theorem RP (kn:List (aE×Int))(z:aE)(v:Int):(putN kn z v).length<=kn.length+1:=by
 unfold putN;split<;>simp
theorem JX (kn:List (aE×Int))(z y:aE)(v:Int):bF (putN kn z v) y=if y=z then aa v else bF kn y:=by
 unfold putN;cases h:bF kn z with
 |none=>rw[if_neg (by simp)];exact yL h v y
 |some u=>
  rw[if_pos (show(aa u).isSome=af from rfl)]
  induction kn with
  |nil=>cases h
  |cons p r ih=>
   unfold bF at h ⊢;rw[cT,fH,fH];rw[fH] at h;have key:((if p.1=z then(p.1,v) else p).1:aE)=p.1:=by split<;>rfl
   by_cases hp:p.1=z
   .rw[if_pos hp];by_cases hy:y=z
    .grind
    .have n1:¬ p.1=y:=λq=>hy (by rw[<-q,hp])
     rw[decide_eq_false n1,if_neg hy];have gen:∀ r:List (aE×Int),(((r.map λp=>if p.1=z then(p.1,v) else p).find? λp=>decide (p.1=y)).map (·.2))=(r.find? λp=>decide (p.1=y)).map (·.2):=λr=>by
      induction r with
      |nil=>rfl
      |cons q t ih=>
       grind
     exact gen r
   .rw[if_neg hp];rw[decide_eq_false hp] at h;by_cases hy:p.1=y
    .grind
    .rw[decide_eq_false hy];exact ih h
def Be8 (I:aP->Prop)(t:Option aA)(o:Out):Prop:=match t with
 |some r=>o=.rt r
 |none=>∃ Y2,o=.nx Y2/\I Y2
def FS (I:aP->Prop)(t:Option aA)(o:Out):Prop:=match t with
 |some r=>o=.rt r
 |none=>∃ Y2,(o=.nx Y2\/o=.ct Y2)/\I Y2
theorem Be8.turn {I J:aP->Prop}{t:Option aA}{o:Out}(h:Be8 I t o)(gp:∀ Y,I Y->J Y):FS J t o:=by
 cases t with
 |some r=>exact h
 |none=>
  obtain⟨Y2,e,i⟩:=h;exact⟨Y2,.inl e,gp _ i⟩
theorem Bw{T:aA->aP->Option aP}{α:Type}{q:α->aA}(I:aP->Prop)(g:α->Option aA):∀ {xs:List α} {Y:aP},I Y ->
  (∀ x∈xs,∀ Y,I Y->∃ Y1,T (q x) Y=aa Y1/\Goes F Y1 (FS I (g x)))->∃ o,iW F T (xs.map q) Y=aa o/\Be8 I (xs.findSome? g) o
 |[],Y,h0,_=>⟨_,rfl,Y,rfl,h0⟩
 |x::xs,Y,h0,step=>by
  obtain⟨Y1,e1,o,e2,h⟩:=step x bO Y h0;have e:iW F T ((x::xs).map q) Y=xl F T (xs.map q) o:=by
   show((T (q x) Y).bind λY1=>(F Y1).bind λo=>_)=_
   rw[e1,bB,e2,bB];cases o<;>rfl
  rw[e,zR];cases hg:g x with
  |some r=>
   rw[hg] at h;have h:=h;subst h;exact⟨_,rfl,rfl⟩
  |none=>
   rw[hg] at h;obtain⟨Y2,ho,i2⟩:=h;obtain⟨o',e',h'⟩:=Bw I g i2 λy m=>step y (bN _ m)
   rcases ho with rfl|rfl
   .exact⟨o',e',h'⟩
   .exact⟨o',e',h'⟩
theorem sT {m:Md}{Y:aP}{α:Type}{fi:AF}{T:aA->aP->Option aP}{xs:List α}{q:α->aA}(I:aP->Prop)(g:α->Option aA)(h:aV m fi Y=aa (xs.map q))(h0:I Y)
  (step:∀ x∈xs,∀ Y,I Y->∃ Y1,T (q x) Y=aa Y1/\Goes F Y1 (FS I (g x))):Goes (cS m fi T F) Y (Be8 I (xs.findSome? g)):=by
 obtain⟨o,e,h'⟩:=Bw I g h0 step;exact⟨o,HK h e,h'⟩
theorem xR {G:SF}{Y:aP}{P:Out->Prop}(I:aP->Prop)(t:Option aA)(h:Goes F Y (Be8 I t))(k1:∀ r,t=aa r->P (.rt r))(k2:t=ab->∀ Y',I Y'->Goes G Y' P):Goes (aO F G) Y P:=by
 obtain⟨o,e,h⟩:=h;cases t with
 |some r=>
  have h:=h;subst h;exact BL e (k1 r rfl)
 |none=>
  obtain⟨Y2,rfl,i2⟩:=h;exact gX e (k2 rfl Y2 i2)
theorem LH {α β:Type}{f g:α->Option β}:∀ {xs:List α},(∀ x∈xs,f x=g x)->xs.findSome? f=xs.findSome? g
 |[],_=>rfl
 |x::xs,h=>by
  rw[zR,zR,h x bO,LH λy m=>h y (bN _ m)]
theorem getD_some {α:Type}{xs:List α}(d0:α)(h:i<xs.length):xs[i]?=aa (xs.getD i d0):=by
 rw[hG,eR h]
 rfl
theorem getD_mem {α:Type}{xs:List α}(d0:α)(h:i<xs.length):xs.getD i d0∈xs:=eX (getD_some d0 h)
theorem Vd {a:EF}{x:Bool}(h:a Y=aa (.bool x)):AK a Y=aa (.bool (!x)):=by
 unfold AK;rw[h]
 rfl
theorem lJ {fa:AF}(h:fa Y=aa ds)(hl:ds.length<=1000:=by simp):dI fa Y=aa (.tuple ds):=by
 unfold dI;rw[h,bB,if_pos (mK ())]
theorem uQ {fa:AF}(h:fa Y=aa ds)(hl:ds.length<=1000:=by simp):cU fa Y=aa (.list ds):=by
 unfold cU;rw[h,bB,if_pos (mK ())]
abbrev Ln:=aE×List aH
def bD (l:Ln):aA:=.tuple [.str l.1,.tuple (l.2.map kD)]
abbrev bo:Ln:=("",[])
theorem XT (xs:List aH):noDicts (xs.map kD)=af:=tD λt m=>by
 obtain⟨x,_,rfl⟩:=bU.1 m;cases x<;>rfl
end Aw
namespace L2
open PySem PySem.Spec PyProof.Rows
def OD (kvs:List (aH×V))(k:aH):List (aH×V):=kvs.filter λkv=>decide (kv.1≠k)
theorem KV.out (k:aH):∀ {kvs:List (aH×V)} {vs:List (aH×aF)},KV kvs vs->KV (OD kvs k) (without vs k)
 |_,_,.nil=>.nil
 |p::_,q::_,.cons h t=>by
  have e:=h.1;unfold OD without;rw[NK,NK];by_cases c:p.1=k
  .rw[if_neg (by simp[c]),if_neg (by rw[<-e];simp[c])]
   exact KV.out k t
  .rw[if_pos (by simp[c]),if_pos (by rw[<-e];simp[c])]
   exact .cons h (KV.out k t)
end L2
namespace Aw
open PySem L2
variable {R:List (List Int)}{n:Nat}{Y:List (Option aA)}{x:Bool}
def l7:aA->Int
 |.int i=>i
 |_=>0
theorem uZ (r:List Int):(r.map bA).map l7=r:=by
 rw[eE];have:(l7∘bA)=id:=rfl;rw[this,List.map_id]
theorem yE (r:List Int):bY (r.map bA)=af:=yB λt m=>by
 obtain⟨i,_,rfl⟩:=bU.1 m
 rfl
theorem CB (r:List Int):cY (r.map bA)<=1:=qW λt m=>by
 obtain⟨i,_,rfl⟩:=bU.1 m;simp[lX]
theorem JD (r:List Int):Ad2 (bH r)=af:=by
 have h1:noDicts (r.map bA)=af:=tD λt m=>by
  obtain⟨i,_,rfl⟩:=bU.1 m
  rfl
 have h2:cY (r.map bA)<=1:=qW λt m=>by
  obtain⟨i,_,rfl⟩:=bU.1 m;simp[lX]
 simp[Ad2,bH,noDict,h1,lX]
 lia
theorem Ly {a b:List Int}(h:bH a=bH b):a=b:=by
 have h:=Dz h;exact(uZ a).symm.trans ((congrArg (List.map l7) h).trans (uZ b))
theorem BN (a b:List Int):bX (bH a) (bH b)=decide (a=b):=by
 rw[BW _ _ (JA a) (JA b),decide_eq_decide];exact⟨Ly,λe=>by rw[e]⟩
def ql (R:List (List Int)):List (List Int):=(pD (R.map λr=>r.map bA)).map λk=>k.map l7
theorem RT (R:List (List Int)):(ql R).Perm R:=by
 have h:=(CL (R.map λr=>r.map bA)).map λk=>k.map l7
 rw[eE] at h;have e:(R.map ((λk=>k.map l7)∘λr=>r.map bA))=R:=by
  have:((λk=>k.map l7)∘λr=>r.map bA)=(id:List Int->List Int):=by funext r;exact uZ r
  rw[this,List.map_id]
 rw[e] at h;exact h
theorem Pb{r:List Int}:r∈ql R↔r∈R:=(RT R).mem_iff
theorem Pv (R:List (List Int)):(ql R).length=R.length:=(RT R).length_eq
theorem Yl (R:List (List Int)):oG (R.map bH)=aa (R.map λr=>r.map bA):=by
 have:=PY (kss:=R.map λr=>r.map bA) λk m=>by
  obtain⟨r,_,rfl⟩:=bU.1 m;have:=CB r;exact⟨yE r,()⟩
 rw[eE] at this;exact this
theorem UO:∀ (a b:List Int),a.length=b.length->hW (a.map bA) (b.map bA)=af
 |[],[],_=>rfl
 |x::a,y::b,h=>UO a b (by simpa using h)
 |[],_::_,h=>by simp at h
 |_::_,[],h=>by simp at h
theorem Dg(hn:1<=n)(hw:∀ r∈R,r.length=n)(hl:R.length<64):uL [aX R]=aa (aX (ql R)):=by
 show((oG (R.map bH)).bind λkss=>if k5 kss=af/\kss.length<64 then aa (vX ((pD kss).map dG)) else ab)=_
 rw[Yl,bB];have ok:k5 (R.map λr=>r.map bA)=af:=by
  unfold k5;rw[Bool.or_eq_true_iff];refine .inr (gE.2 ⟨gD.2 λk mk=>gD.2 λk' mk'=>?_,gD.2 λk mk=>?_⟩)
  .obtain⟨a,ma,rfl⟩:=bU.1 mk;obtain⟨b,mb,rfl⟩:=bU.1 mk';exact UO a b ((hw a ma).trans (hw b mb).symm)
  .obtain⟨a,ma,rfl⟩:=bU.1 mk;have:=hw a ma;cases a with
   |nil=>simp at this;lia
   |cons x r=>rfl
 rw[if_pos ⟨ok,by rw[bR];exact hl⟩]
 unfold aX ql;rw[eE]
 congr 2
 refine mV λk mk=>?_
 obtain⟨a,_,rfl⟩:=bU.1 ((CL _).mem_iff.1 mk);show _=dG (((a.map bA).map l7).map bA);rw[uZ]
structure Bk (kds:List (aA×aA))(B:aE->List (List Int))(wd:aE->Nat):Prop where
 pl:cz kds=af
 at_:∀ t,(bJ kds (.inr t)).getD (.list [])=aX (B t)
 few:∀ t,(B t).length<64
 pos:∀ t,1<=wd t
 wid:∀ t,∀ r∈B t,r.length=wd t
theorem Bk.get {kds:List (aA×aA)}{B:aE->List (List Int)}{wd:aE->Nat}(b:Bk kds B wd){fd fk:EF}{t:aE}(h1:fd Y=aa (.dict kds))(h2:fk Y=aa (.str t)):fW fd fk (cU aG) Y=aa (aX (B t)):=by
 rw[pH h1 h2 rfl rfl b.pl,b.at_]
theorem HU {v:Int}(h:kJ v<=n):v.natAbs<2^n:=by
 unfold kJ at h;by_cases q:v=0
 .subst q;exact Nat.two_pow_pos n
 .have q':¬ ((v==0)=af):=by simpa using q
  rw[if_neg q'] at h;exact(Nat.log2_lt ()).1 ()
theorem pB (c:Int)(n:Nat)(h:0<n):cC (.int c) (.int n)=aa (.int (c%n)):=by
 show(if 0<(n:Int) then aa (bA (c%(n:Int))) else ab)=_
 rw[if_pos ()]
theorem jC (c:Int)(n:Nat)(h:0<n)(h2:n<1000:=by lia):dY (.int c) (.int n)=aa (.int (c/n)):=by
 show(if 0<(n:Int)/\(n:Int)<1073741824 then aa (bA (c/(n:Int))) else ab)=_
 rw[if_pos ()]
theorem qG {a b:Int}(h:a.natAbs<2^64):iG (.int a) (.int b)=aa (.int (a*b)):=by
 show(if (a.natAbs<2^64\/b.natAbs<2^64)\/(a.natAbs<2^1000/\b.natAbs<2^1000) then aa (bA (a*b)) else ab)=_
 rw[if_pos (.inl (.inl h))]
theorem mul_r {a b:Int}(h:b.natAbs<2^64):iG (.int a) (.int b)=aa (.int (a*b)):=by
 show(if (a.natAbs<2^64\/b.natAbs<2^64)\/(a.natAbs<2^1000/\b.natAbs<2^1000) then aa (bA (a*b)) else ab)=_
 rw[if_pos (.inl (.inr h))]
theorem Cv {k:Nat}(h:k<=100):AN (.int 10) (.int k)=aa (.int (10^k)):=by
 show(if 0<=(k:Int)/\(k:Int)<=1000000/\(10:Int).natAbs<2^64 then aa (bA (10^(k:Int).toNat)) else ab)=_
 grind
theorem kT {a b:BF}{y:Bool}(h:a Y=aa x)(h2:x=af->b Y=aa y):dZ a b Y=aa (x&&y):=by
 unfold dZ
 grind
theorem Ky {a b:BF}{y:Bool}(h:a Y=aa x)(h2:x=ag->b Y=aa y):l9 a b Y=aa (x||y):=by
 unfold l9
 grind
theorem QM {f:EF}(h:f Y=aa (.bool x)):rQ (ak f) Y=aa (!x):=by
 unfold rQ;rw[cF h]
 rfl
theorem IM (r:List Int):dS (bH r)=af:=by
 show kR (r.map bA)=af;rw[WQ,gD];intro d m;obtain⟨i,_,rfl⟩:=bU.1 m
 rfl
theorem CQ (R:List (List Int)):noDicts (R.map bH)=af:=tD λt m=>by
 obtain⟨r,_,rfl⟩:=bU.1 m;have:=JD r;unfold Ad2 at this
 grind
theorem HS (neg:Bool)(r:List Int)(R:List (List Int)):dy neg (bH r) (aX R)=aa (.bool (neg != decide (r∈R))):=by
 show(if (Ad2 (bH r)&&noDicts (R.map bH))=af then aa (fA (neg != (R.map bH).any λz=>bX z (bH r))) else ab)=_
 rw[JD,CQ,wK,if_pos rfl];have:((R.map bH).any λz=>bX z (bH r))=decide (r∈R):=by
  rw[zT];by_cases h:r∈R
  .rw[decide_eq_true h];exact iF.2 ⟨r,h,by simp[BN]⟩
  .rw[decide_eq_false h,EO];intro x mx;simp only[Function.comp,BN,decide_eq_true_eq];exact λe=>h (e ▸ mx)
 rw[this]
theorem Hg {fa:AF}{x y:aA}{xs ys:List aA}(h:fa Y=aa [x,y])(hx:sP x=aa xs)(hy:sP y=aa ys):iZ fa Y=aa (wB pairD xs ys):=by
 unfold iZ
 grind
abbrev Tb:=aE×List (List Int)
def bb (L:List Tb):List (aA×aA):=L.map λp=>(dF p.1,aX p.2)
theorem GZ {Y:aP}{P:Out->Prop}{i:Nat}{d:aA}(h:Y[i]?=aa (aa (n,d)))(k:P (.rt d)):Goes (lF i n) Y P:=⟨_,by
 unfold lF;rw[h];show(if n=n then aa (Out.rt d) else ab)=_
 rw[if_pos rfl],k⟩
theorem RQ (a:List Int):(bH a).depth<=2:=by
 have:=CB a;show cY (a.map bA)+1<=2
 lia
theorem Ni (R:List (List Int)):Ad2 (aX R)=af:=by
 have h2:cY (R.map bH)<=2:=qW λt m=>by
  obtain⟨r,_,rfl⟩:=bU.1 m;exact RQ r
 unfold Ad2;show(noDicts (R.map bH)&&decide (cY (R.map bH)+1<=60))=af;rw[CQ,decide_eq_true ()]
 rfl
def bq (L:List Tb)(t:aE):List (List Int):=((L.find? λp=>decide (p.1=t)).map (·.2)).getD []
theorem BR (t:aE):∀ L:List Tb,bJ (bb L) (.inr t)=(L.find? λp=>decide (p.1=t)).map λp=>aX p.2
 |[]=>rfl
 |p::L=>by
  show bJ ((.str p.1,aX p.2)::bb L) (.inr t)=_;rw[KC,fH];by_cases h:p.1=t
  .rw[if_pos (by rw[h];rfl),decide_eq_true h];rfl
  .rw[if_neg (λe=>h (by injection e with e;injection e)),decide_eq_false h,BR t L]
theorem Ld (L:List Tb)(t:aE):(bJ (bb L) (.inr t)).getD (.list [])=aX (bq L t):=by
 rw[BR];unfold bq;cases L.find? λp=>decide (p.1=t)<;>rfl
theorem By (L:List Tb):cz (bb L)=af:=uM λkd m=>by
 obtain⟨p,_,rfl⟩:=bU.1 m;exact λq=>nomatch q
theorem IG {L:List Tb}{t:aE}{r:List Int}(h:r∈bq L t):∃ p∈L,p.1=t/\p.2=bq L t:=by
 unfold bq at h ⊢;cases e:L.find? λp=>decide (p.1=t) with
 |none=>rw[e] at h;simp at h
 |some p=>
  grind
theorem Jd {L:List Tb}{t:aE}(h:t∉L.map (·.1)):bq L t=[]:=by
 unfold bq;rw[rJ.2 λp m=>by
  simp only[decide_eq_true_eq];exact λe=>h (bU.2 ⟨p,m,e⟩)]
 rfl
theorem G1 {L:List Tb}{wd:aE->Nat}(h1:∀ t,1<=wd t)(hL:∀ p∈L,p.2.length<64/\∀ r∈p.2,r.length=wd p.1):Bk (bb L) (bq L) wd:=by
 refine⟨By L,Ld L,λt=>?_,h1,λt r m=>?_⟩
 .by_cases h:∃ r,r∈bq L t
  .obtain⟨r,m⟩:=h;obtain⟨p,mp,_,e⟩:=IG m;rw[<-e];exact(hL p mp).1
  .have:=List.eq_nil_iff_forall_not_mem.2 λr m=>h ⟨r,m⟩
   rw[this];simp
 .obtain⟨p,mp,e1,e2⟩:=IG m
  grind
theorem Iy {L:List Tb}(nd:(L.map (·.1)).Nodup):KnR (λd=>∃ T:List (List Int),d=aX T) (bb L):=by
 refine⟨λkd m=>?_,?_⟩
 .obtain⟨p,_,rfl⟩:=bU.1 m
  grind
 .unfold bb
  grind
theorem Jg {L:List Tb}(nd:(L.map (·.1)).Nodup):mD af (.dict (bb L)) (.dict (bb L))=aa (.bool ag):=
 (Iy nd).eqK (λd ⟨T,e⟩=>by rw[e];exact UV T) (λd ⟨T,e⟩=>by rw[e];exact Ni T) af
def iY:List Tb->aE->List (List Int)->List Tb
 |[],_,_=>[]
 |p::L,t,R=>if p.1=t then(p.1,R)::L else p::iY L t R
theorem GY (t:aE)(R:List (List Int)):∀ L:List Tb,kL (bb L) (.inr t) (aX R)=bb (iY L t R)
 |[]=>rfl
 |p::L=>by
  show(if bM (.str p.1)=aa (.inr t) then(dF p.1,aX R)::bb L else(dF p.1,aX p.2)::kL (bb L) (.inr t) (aX R))=bb (if p.1=t then(p.1,R)::L else p::iY L t R)
  by_cases h:p.1=t
  .rw[if_pos (by rw[h];rfl),if_pos h];rfl
  .rw[if_neg (λe=>h (by injection e with e;injection e)),if_neg h,GY t R L];rfl
theorem JI (t:aE)(R:List (List Int)):∀ L:List Tb,(iY L t R).map (·.1)=L.map (·.1)
 |[]=>rfl
 |p::L=>by
  show(if p.1=t then(p.1,R)::L else p::iY L t R).map (·.1)=_
  by_cases h:p.1=t
  .rw[if_pos h];rfl
  .rw[if_neg h,cT,JI t R L];rfl
theorem IB {t:aE}:∀ {L:List Tb} {p:Tb},p∈iY L t R->p∈L\/(p.1=t/\p.2=R)
 |[],p,m=>by simp[iY] at m
 |q::L,p,m=>by
  have m:p∈(if q.1=t then(q.1,R)::L else q::iY L t R):=m
  by_cases h:q.1=t
  .grind
  .rw[if_neg h] at m;rcases cZ.1 m with rfl|m
   .exact .inl bO
   .exact(IB m).imp (bN _) id
theorem RC {Y Y':aP}{P:Out->Prop}{G:SF}{f:EF}{T:aA->aP->Option aP}{d:aA}(h:f (vS Y)=aa d)(hT:T d Y=aa Y')(k:Goes G Y' P):Goes (aO (yV .s f T) G) Y P:=gX (by
 have e:eV 0 .s f Y=aa d:=h;unfold yV;rw[e,bB,hT]
 rfl) k
theorem find_key {L:List Tb}{t:aE}(h:t∈L.map (·.1)):∃ p,(L.find? λp=>decide (p.1=t))=aa p:=by
 cases e:L.find? λp=>decide (p.1=t) with
 |some p=>exact⟨p,rfl⟩
 |none=>
  grind
theorem Sm {L:List Tb}{t:aE}(h:t∉L.map (·.1)):(L.find? λp=>decide (p.1=t))=ab:=rJ.2 λp m=>by
 grind
theorem yA {L:List Tb}{t:aE}(h:t∈L.map (·.1)):bJ (bb L) (.inr t)=aa (aX (bq L t)):=by
 obtain⟨p,e⟩:=find_key h;rw[BR];unfold bq;rw[e]
 rfl
theorem VL {α β:Type}(f:α->β):∀ (xs:List α) (n:Nat),(xs.map f).eraseIdx n=(xs.eraseIdx n).map f
 |[],n=>by simp
 |x::xs,0=>rfl
 |x::xs,n+1=>by
  rw[cT,qA,qA,cT,VL f xs n]
end Aw
namespace L2
open PySem PySem.Spec PyProof.Rows
variable {l:List aH}{v:aE->Int}
def tv (v:aE->Int):aH->Int
 |.inl i=>i
 |.inr z=>v z
section
variable {ls:Nat->List aH}
abbrev Fb:=Nat->List Int->Prop
def Gh (ls:Nat->List aH)(S:Nat->Prop)(e p:Nat):Prop:=S e/\S p/\e≠p/\∀ z,(.inr z:aH)∈ls e->∀ k,S k->k≠e->(.inr z:aH)∈ls k->(.inr z:aH)∈ls p
def less (S:Nat->Prop)(e:Nat):Nat->Prop:=λk=>S k/\k≠e
theorem Mv{u:aE->Int}(h:∀ z,(.inr z:aH)∈l->v z=u z):l.map (tv v)=l.map (tv u):=mV λk m=>by
 cases k with
 |inl i=>rfl
 |inr z=>exact h z m
def xA (ls:Nat->List aH):(Nat->Prop)->List (Nat×Nat)->(Nat->Prop)->Prop
 |S,[],R=>∀ k,S k↔R k
 |S,q::es,R=>Gh ls S q.1 q.2/\xA ls (less S q.1) es R
theorem qT {R:Nat->Prop}:∀ {es:List (Nat×Nat)} {S:Nat->Prop},xA ls S es R->(∀ k,R k->S k)/\∀ q∈es,S q.1/\S q.2
 |[],S,h=>⟨λk r=>(h k).2 r,λq m=>by simp at m⟩
 |q::es,S,h=>by
  obtain⟨a,b⟩:=qT h.2;refine⟨λk r=>(a k r).1,λx m=>?_⟩
  rcases cZ.1 m with rfl|m
  .exact⟨h.1.1,h.1.2.1⟩
  .exact⟨(b x m).1.1,(b x m).2.1⟩
end
open PySem PySem.Spec PyProof.Rows Aw
theorem qX{p:aH×Int}(m:p∈l.zip (l.map (tv v))):p.1∈l/\p.2=tv v p.1:=by
 obtain⟨j,hj,rfl⟩:=rH m
 grind
theorem Uc{k:aH}(m:k∈l):(k,tv v k)∈l.zip (l.map (tv v)):=by
 obtain⟨j,hj,rfl⟩:=rH m;have h:j<(l.zip (l.map (tv v))).length:=by rw[oV,bR,Nat.min_self];exact hj
 have:=kH h
 grind
theorem AX (l:List aH)(v:aE->Int):∃ kn,cH l (l.map (tv v)) []=aa kn/\∀ z,(.inr z:aH)∈l->bF kn z=aa (v z):=by
 obtain⟨kn,e⟩:=xY (ps:=l.zip (l.map (tv v))) (kn:=[]) (λp m i q=>by rw[(qX m).2,q];rfl) (λp _ z u _ e=>by cases e) (λp m p' m' z q q'=>by rw[(qX m).2,(qX m').2,q,q'])
 refine⟨kn,?_,λz m=>?_⟩
 .unfold cH
  grind
 .exact((sY e).2.1 _ (Uc m)).2 z rfl
theorem QF{r:List Int}:(∃ kn,cH l r []=aa kn) ↔ ∃ v,r=l.map (tv v):=by
 constructor
 .rintro⟨kn,h⟩;unfold cH at h;by_cases hl:r.length=l.length
  .rw[if_pos hl] at h;obtain⟨_,b,_⟩:=sY h;refine⟨λz=>(bF kn z).getD 0,En (by rw[bR];exact hl) λj h1 h2=>?_⟩
   rw[List.getElem_map];have hj:j<l.length:=()
   have hz:j<(l.zip r).length:=by rw[oV];lia
   have:=b (l.zip r)[j] (kH hz);rw[Ei] at this;cases hk:l[j] with
   |inl i=>exact this.1 i hk
   |inr z=>
    have e:=this.2 z hk;show r[j]=(bF kn z).getD 0;rw[e]
    rfl
  all_goals grind
 .rintro⟨v,rfl⟩;obtain⟨kn,e,_⟩:=AX l v;exact⟨kn,e⟩
def iV (l:List aH)(zs:List aE)(r:List Int):List Int:=zs.map λz=>((cH l r []).bind λkn=>bF kn z).getD 0
theorem BI{zs:List aE}(h:∀ z∈zs,(.inr z:aH)∈l)(v:aE->Int):iV l zs (l.map (tv v))=zs.map v:=mV λz m=>by
 obtain⟨kn,e,hl⟩:=AX l v
 grind
def mI (a b:List aH)(zs:List aE)(R U:List (List Int)):List (List Int):=R.filter λr=>(U.map (iV b zs)).contains (iV a zs r)
theorem Alk {a b:List aH}{zs:List aE}{R U:List (List Int)}:(mI a b zs R U).Sublist R:=List.filter_sublist
abbrev cG:=List (List (List Int))
def tb (t:cG):Fb:=λk r=>r∈t.getD k []
def uB (ls:Nat->List aH)(t:cG):Prop:=∀ k r,r∈t.getD k []->∃ v,r=(ls k).map (tv v)
theorem vD {t:cG}{p:Nat}(hp:p<t.length)(R:List (List Int))(j:Nat):(t.set p R).getD j []=if j=p then R else t.getD j []:=by
 grind
section
variable {ls:Nat->List aH}{cm:Nat->Nat->List aE}
def Cm (ls:Nat->List aH)(cm:Nat->Nat->List aE):Prop:=∀ a b z,z∈cm a b↔(.inr z:aH)∈ls a/\(.inr z:aH)∈ls b
end
end L2
namespace J2
variable {Z:Type}(N:Nat->Z->Prop)
def Co (S:Nat->Prop)(k j:Nat):Prop:=∀ z,N k z->N j z\/∀ o,S o->o≠k->¬ N o z
def rm (S:Nat->Prop)(k:Nat):Nat->Prop:=λo=>S o/\o≠k
def P:Nat->(Nat->Prop)->Prop
 |0,S=>∀ a b,S a->S b->a=b
 |n+1,S=>(∀ a b,S a->S b->a=b)\/∃ k p,S k/\S p/\p≠k/\Co N S k p/\P n (rm S k)
end J2
namespace Aw
open PySem L2
variable {n i j m jn c:Nat}{f fk g:EF}{Y:aP}{d:aA}{ls:List Ln}{ds:List aA}{l a b:Ln}{z:aE}{L:List Nat}{ks:List aH}{kds:List (aA×aA)}{wd:aE->Nat}{r ns:List Int}{zs:List aE}{R:List (List Int)}{v:aE->Int}{F:SF}{C:Nat->Int}
theorem qe(h:f (vA Y)=aa d)(hf:fP n d=af):eV n .a f Y=aa d:=by
 show((f (vA Y)).bind λd=>if fP n d=af then aa d else ab)=_
 rw[h,bB,if_pos hf]
def fF (l:Ln):Prop:=l.2.length<=6/\∀ k∈l.2,cI (kD k)=af
abbrev lN (cs:List Nat):aA:=.list (cs.map λ(c:Nat)=>bA c)
abbrev aw (ls:List Ln):aA:=.tuple (ls.map bD)
abbrev lK (ks:List aH):aA:=.list (ks.map kD)
abbrev lZ (zs:List aE):aA:=.list (zs.map dF)
theorem LX (cs:List Nat):bG [lN cs]=aa (.int cs.length):=by simp[bG]
theorem OC {cs:List Nat}(h:i<cs.length):∃ c∈cs,ao (lN cs) (.int i)=aa (.int c):=⟨cs[i],kH h,xV (q:=λ(c:Nat)=>bA c) (eR h)⟩
theorem k3 (a b:Nat):cb (.int a) (.int b)=aa (.bool (decide (a=b))):=by
 rw[uW]
 congr 2
 rw[hJ];simp
 lia
def Gf:aH->Option aE
 |.inr z=>aa z
 |.inl _=>ab
def gM (ks:List aH):List aE:=ks.filterMap Gf
def eP (ls:List (aE×List aH)):List aE:=sG (ls.flatMap λl=>gM l.2)
def kt (z:aE):aA×aA:=(.str z,.bool af)
theorem Kp (ar:List aE)(z:aE):((ar.map kt).any λkd=>decide (bM kd.1=aa (.inr z)))=decide (z∈ar):=by
 induction ar with
 |nil=>rfl
 |cons y r ih=>
  rw[cT,rK,ih];have:bM (kt y).1=aa (.inr y):=rfl;rw[this];by_cases h:z=y
  .subst h;simp
  .have h':¬ y=z:=λe=>h e.symm
   simp[h,h']
theorem Mf (ar:List aE)(z:aE):putD (ar.map kt) (.inr z) (.bool af)=(fE ar z).map kt:=by
 unfold putD fE;rw[Kp];by_cases h:z∈ar
 .rw[if_pos (by simpa using h),if_pos h,eE]
  refine mV λy _=>?_
  show(if bM (kt y).1=aa (.inr z) then((kt y).1,fA af) else kt y)=kt y
  split<;>rfl
 .rw[if_neg (by simpa using h),if_neg h,gJ]
  rfl
def gN (ar:List aE)(k:aH):List aE:=match k with
 |.inr z=>fE ar z
 |.inl _=>ar
theorem LK:∀ (ks:List aH) (ar:List aE),ks.foldl gN ar=(gM ks).foldl fE ar
 |[],_=>rfl
 |.inl i::ks,ar=>LK ks ar
 |.inr z::ks,ar=>LK ks (fE ar z)
theorem Lh (ar:List aE)(k:aH):(gN ar k).length<=ar.length+1:=by
 cases k with
 |inl i=>exact zP _
 |inr z=>exact vG ar z
theorem La {ar:List aE}{k:aH}(h:∀ z∈ar,cI (.str z)=af)(hk:cI (kD k)=af):∀ z∈gN ar k,cI (.str z)=af:=by
 cases k with
 |inl i=>exact h
 |inr z=>exact λy m=>(Avl.1 m).elim (h y) λe=>e ▸ hk
theorem IZ {ls:List (aE×List aH)}(h:∀ l∈ls,fF l)(hn:ls.length<=100):yO [.tuple (ls.map bD)]=aa (.list ((eP ls).map dF)):=by
 have:∃ d,yO [.tuple (ls.map bD)]=aa d/\d=.list ((eP ls).map dF):=by
  rw[7];refine bT rfl (by simp) ?_
  refine eG (λY'=>∃ x2 x3:L2.Slot,(∀ z∈eP ls,cI (.str z)=af)/\Y'=[s0 (.tuple (ls.map bD)),aa (1,.dict ((eP ls).map kt)),x2,x3]) ?_ ?_
  .refine jG (b0:=[]) (λar l=>l.2.foldl gN ar) (λi ar Y'=>∃ x2 x3:L2.Slot,ar.length<=6*i/\(∀ z∈ar,cI (.str z)=af)/\Y'=[s0 (.tuple (ls.map bD)),aa (1,.dict (ar.map kt)),x2,x3]) (dm (jX rfl)) ⟨ab,ab,bI _,λ_ m=>by simp at m,rfl⟩ ?_ ?_
   .rintro i l ar _ hx ⟨x2,x3,ha,hy,rfl⟩;have hl:=h l (eX hx);have hi:=(cW.1 hx).1;refine⟨[s0 (.tuple (ls.map bD)),aa (1,.dict (ar.map kt)),s0 (bD l),x3],rfl,?_⟩;refine jG (xs:=l.2) (q:=kD) gN (λj de Y'=>∃ x3:L2.Slot,de.length<=6*i+j/\(∀ z∈de,cI (.str z)=af)/\Y'=[s0 (.tuple (ls.map bD)),aa (1,.dict (de.map kt)),s0 (bD l),x3]) (dm (jX (by simp[vS,ah,aB,eC,bD,ao,gc,fg]))) ⟨x3,ha,hy,rfl⟩ ?_ ?_
    .rintro j k de _ hk ⟨x3,u3,jg,rfl⟩;have hj:=(cW.1 hk).1;have h6:=hl.1;refine⟨[s0 (.tuple (ls.map bD)),aa (1,.dict (de.map kt)),s0 (bD l),s0 (kD k)],rfl,?_⟩;have g1:=Lh de k;have g2:=La jg (hl.2 k (eX hk));cases k with
     |inl v=>exact eU (by simp[bV,vS,ff,aB,ak,l5,fD,nF,md,kD]) (gH ⟨_,.inl rfl,_,(),g2,rfl⟩)
     |inr z=>
      refine dC (by simp[bV,vS,ff,aB,ak,l5,fD,nF,md,kD]) (QJ rfl rfl rfl rfl (by simp;lia) ⟨_,.inl rfl,s0 (.str z),(),g2,?_⟩)
      rw[Mf]
      rfl
    .rintro _ ⟨x3,u3,jg,rfl⟩;have h6:=hl.1;exact⟨_,.inl rfl,_,_,(),jg,rfl⟩
   .rintro _ ⟨x2,x3,ha,hy,rfl⟩;have e:ls.foldl (λar l=>l.2.foldl gN ar) []=eP ls:=by
     unfold eP sG;rw[List.foldl_flatMap]
     congr 1
     funext ar l;exact LK l.2 ar
    rw[e] at hy ⊢;exact⟨_,rfl,x2,x3,hy,rfl⟩
  rintro _ ⟨x2,x3,hy,rfl⟩;refine gG (cJ (aT rfl ?_) ⟨_,rfl,rfl⟩);have hp:cz ((eP ls).map kt)=af:=uM λkd m=>by
   obtain⟨z,_,rfl⟩:=bU.1 m;exact λq=>nomatch q
  show(if (cz ((eP ls).map kt)&&((eP ls).map kt).all (λkd=>cI kd.1))=af then aa (vX (((eP ls).map kt).map (·.1))) else ab)=_
  rw[hp,pA,if_pos (gD.2 λkd m=>by
   obtain⟨z,mz,rfl⟩:=bU.1 m;exact hy z mz),eE]
  rfl
 rw[1]
theorem HX (y z:aE):bX (.str y) (.str z)=decide (y=z):=by
 rw[show bX (.str y) (.str z)=(y==z) by simp[bX],hJ]
 simp
theorem Lz (zs:List aE)(z:aE):((zs.map dF).any λd=>bX d (.str z))=decide (z∈zs):=by
 rw[zT,hJ];simp[HX]
theorem Te (zs:List aE):noDicts (zs.map dF)=af:=tD λt m=>by
 obtain⟨z,_,rfl⟩:=bU.1 m
 rfl
theorem Pm (neg:Bool)(zs:List aE)(z:aE):dy neg (.str z) (.list (zs.map dF))=aa (.bool (neg != decide (z∈zs))):=by
 show(if (Ad2 (.str z)&&noDicts (zs.map dF))=af then aa (fA (neg != (zs.map dF).any λd=>bX d (.str z))) else ab)=_
 rw[Te,Lz,show Ad2 (.str z)=af from rfl,wK,if_pos rfl]
theorem any_keys (ks:List aH)(z:aE):((ks.map kD).any λd=>bX d (.str z))=decide (z∈gM ks):=by
 induction ks with
 |nil=>rfl
 |cons k r ih=>
  rw[cT,rK,ih];cases k with
  |inl i=>
   have:bX (kD (.inl i)) (.str z)=ag:=by simp[kD,bX]
   rw[this]
   rfl
  |inr y=>
   have:bX (kD (.inr y)) (.str z)=decide (y=z):=HX y z;rw[this];show(decide (y=z)||decide (z∈gM r))=decide (z∈y::gM r);by_cases e:y=z
   .subst e;simp
   .have e':¬ z=y:=λq=>e q.symm
    simp[e,e']
theorem QO (z:aE)(ks:List aH):dy ag (.str z) (.tuple (ks.map kD))=aa (.bool (decide (z∈gM ks))):=by
 show(if (Ad2 (.str z)&&noDicts (ks.map kD))=af then aa (fA (ag != (ks.map kD).any λd=>bX d (.str z))) else ab)=_
 rw[XT,any_keys,show Ad2 (.str z)=af from rfl,wK,if_pos rfl]
 simp
def pE (ls:List (aE×List aH))(k:Nat):List (aE×List aH):=ls.take k++ls.drop (k+1)
def HA (ls:List (aE×List aH))(k:Nat)(l:aE×List aH):List aE:=(eP [l]).filter λz=>decide (z∈eP (pE ls k))
theorem PZ{lo hi:OF}{Y:List (Option aA)}{l u:Option Int}(e1:f Y=aa (.tuple ds))(e2:lo Y=aa l)(e3:hi Y=aa u):wO f lo hi Y=aa (.tuple (cutD ds l u)):=by
 unfold wO;rw[e1,bB,e2,bB,e3,bB]
theorem SE(k:Nat)(h:k<=ds.length):cutD ds (aa (k:Int)) ab=ds.drop k:=by
 unfold cutD;rw[HT.Azz,HT.Avi,Nat.min_eq_left h];exact List.take_of_length_le (by simp)
theorem Zh {ls:List (aE×List aH)}(h:∀ l∈ls,fF l)(hn:ls.length<=50){k:Nat}{l:aE×List aH}(hk:ls[k]?=aa l):IT [.tuple (ls.map bD),.int k]=aa (.list ((HA ls k l).map dF)):=by
 have cr:=(cW.1 hk).1;have EQ:(pE ls k).length<=100:=by
  unfold pE;rw[jS,EK,Eh]
  lia
 have:∃ d,IT [.tuple (ls.map bD),.int k]=aa d/\d=.list ((HA ls k l).map dF):=by
  rw[7];have er:=IZ (λx m=>h x (by
   rcases dH.1 m with m|m
   .exact List.mem_of_mem_take m
   .exact List.mem_of_mem_drop m)) EQ
  have el:=IZ (λx m=>by rw[cM.1 m];exact h l (eX hk)) (by simp)
  refine bT (aT (aQ (aN (a:=.tuple ((ls.take k).map bD)) (b:=.tuple ((ls.drop (k+1)).map bD)) ?_ ?_ ?_) rfl) er) (by simp) ?_
  .have:=PZ (f:=aB 0) (lo:=oN) (hi:=oS (aB 1)) (Y:=vS [s0 (.tuple (ls.map bD)),s0 (.int k),ab]) rfl rfl rfl;rw[Mn (by simpa using pY cr),<-List.map_take] at this
   exact this
  .have:=PZ (f:=aB 0) (lo:=oS (ah dA (aB 1) (eC (.int 1)))) (hi:=oN) (Y:=vS [s0 (.tuple (ls.map bD)),s0 (.int k),ab]) (l:=aa ((k+1:Nat):Int)) rfl rfl rfl;rw[SE _ (by simp;lia),<-List.map_drop] at this
   exact this
  .show(if ((ls.take k).map bD).length+((ls.drop (k+1)).map bD).length<=sizeLine then aa (dG ((ls.take k).map bD++(ls.drop (k+1)).map bD)) else ab)=_
   rw[if_pos (mK (by simp;lia)),<-gJ]
   rfl
  refine cJ ?_ ⟨_,rfl,rfl⟩;refine dU (λz=>decide (z∈eP (pE ls k))) dF (dE (aT ?_ el)) ?_ λz _=>?_
  .have:ao (.tuple (ls.map bD)) (.int k)=aa (bD l):=BE (by rw[fN,hk];rfl)
   refine aQ ?_ rfl;have h2:(1:Nat)<=sizeLine:=mK ()
   unfold dI;rw[aQ (aN rfl rfl this) rfl];simp[h2]
  .have:(eP [l]).length<=6:=by
    have h1:=CJ (gM l.2) [];have h2:(gM l.2).length<=l.2.length:=wH _ _;have h3:=(h l (eX hk)).1;have e:eP [l]=(gM l.2).foldl fE []:=by
     unfold eP sG;simp
    rw[e];simp at h1
    lia
   lia
  .refine⟨[aa (.str z),aa (.list ((eP (pE ls k)).map dF))],rfl,?_,λ_=>rfl⟩
   have:=Pm ag (eP (pE ls k)) z;simp[eV,bV,aV,vS,ah,ff,aB,eC,aJ,cU,aC,aG,ak,l5,ay,itemsOf,dA,qJ,iG,cC,dY,uc,nk,k4,dw,bG,fD,nF,md,cb,Ad2,noDict,noDicts,lX,cY,bX,this]
 rw[1]
theorem Aia {ls:List (aE×List aH)}:z∈eP ls ↔ ∃ l∈ls,z∈gM l.2:=by
 unfold eP;rw[Yt,wG]
theorem Auu {ls:List (aE×List aH)}{k:Nat}{l:aE×List aH}:l∈pE ls k ↔ ∃ j,j≠k/\ls[j]?=aa l:=by
 unfold pE;rw[dH,Ee,Ee];constructor
 .rintro(⟨j,hj⟩|⟨j,hj⟩)
  .rw[List.getElem?_take] at hj;by_cases h:j<k
   .rw[if_pos h] at hj;exact⟨j,(),hj⟩
   .rw[if_neg h] at hj;cases hj
  .rw[List.getElem?_drop] at hj;exact⟨_,(),hj⟩
 .rintro⟨j,dk,hj⟩;by_cases h:j<k
  .exact .inl ⟨j,by rw[List.getElem?_take,if_pos h];exact hj⟩
  .exact .inr ⟨j-(k+1),by rw[List.getElem?_drop,show k+1+(j-(k+1))=j by lia];exact hj⟩
theorem jZ(h:i<ls.length):ao (aw ls) (.int i)=aa (bD (ls.getD i bo)):=BE (by rw[fN,getD_some bo h];rfl)
def me (ls:List Ln)(i:Nat):List aE:=gM (ls.getD i bo).2
def rP (ls:List Ln)(L:List Nat)(k j:Nat):Prop:=∀ z∈me ls k,z∈me ls j\/∀ o∈L,o≠k->z∉me ls o
instance (ls:List Ln)(L:List Nat)(k j:Nat):Decidable (rP ls L k j):=by unfold rP;infer_instance
def fC (ls:List Ln)(L:List Nat)(k j:Nat):Bool:=decide (j≠k)&&decide (rP ls L k j)
def fX (p:Nat×Nat):aA:=.tuple [.int p.1,.int p.2]
def nA:Option (Nat×Nat)->aA
 |none=>.none
 |some p=>fX p
def fY (ls:List Ln)(L:List Nat):Option (Nat×Nat):=L.findSome? λk=>(L.find? (fC ls L k)).map λj=>(k,j)
theorem qh (a b:Nat):dg (.int a) (.int b)=aa (.bool (decide (a≠b))):=by
 rw[ne_int]
 congr 2
 rw[hJ];simp
 lia
theorem Jv{k:Nat}(h:k∈L):∃ i:Nat,L[i]?=aa k/\IE (lN L) (.int k)=aa (.int i):=by
 have e1:∀ xs:List Nat,mJ (xs.map λ(c:Nat)=>bA c)=aa (xs.map λ(c:Nat)=>(.inl (c:Int):aH)):=λxs=>by
  induction xs with
  |nil=>rfl
  |cons x xs ih=>
   show((bM (.int (x:Int))).bind λk=>(mJ (xs.map λ(c:Nat)=>bA c)).bind λks=>aa (k::ks))=_
   rw[ih]
   rfl
 obtain⟨i,hi⟩:∃ i,ik (L.map λ(c:Nat)=>(.inl (c:Int):aH)) (.inl (k:Int))=aa i:=by
  unfold ik;cases e:(L.map λ(c:Nat)=>(.inl (c:Int):aH)).findIdx? λy=>decide (y=.inl (k:Int)) with
  |some i=>exact⟨i,rfl⟩
  |none=>
   have:=List.findIdx?_eq_none_iff.1 e (.inl (k:Int)) (bU.2 ⟨k,h,rfl⟩);simp at this
 refine⟨i,?_,?_⟩
 .have:=(RO hi).1;rw[fN] at this;obtain⟨x,ex,e⟩:=jR.1 this;have:x=k:=by
   have:(x:Int)=k:=by injection e
   lia
  rw[ex,this]
 .show((mJ (L.map λ(c:Nat)=>bA c)).bind λks=>(bM (.int (k:Int))).bind λk=>(ik ks k).bind λj=>aa (bA j))=_
  rw[e1,bB];show((ik _ (.inl (k:Int))).bind λj=>aa (bA j))=_
  rw[hi]
  rfl
theorem Qr(nd:L.Nodup){k:Nat}(h1:L[i]?=aa k)(h2:L[j]?=aa k):i=j:=by
 obtain⟨a1,a2⟩:=cW.1 h1;obtain⟨b1,b2⟩:=cW.1 h2;have pw:=b8.1 nd;rcases Ea i j with h|h|h
 .exact absurd (a2.trans b2.symm) (pw i j a1 b1 h)
 .exact h
 .exact absurd (b2.trans a2.symm) (pw j i b1 a1 h)
theorem IF {α:Type}(g:α->Bool):∀ xs:List α,pO (xs.map λx=>fA (g x))=aa (xs.map g)
 |[]=>rfl
 |x::xs=>by
  show((pO (xs.map λx=>fA (g x))).bind λbs=>aa (g x::bs))=_
  rw[IF g xs]
  rfl
theorem Yk(ho:∀ l∈ls,fF l)(hL:∀ o∈L,o<ls.length)(nd:L.Nodup)(hl:L.length<=50){k:Nat}(hk:k∈L):KR [aw ls,lN L,.int k]=aa (match L.find? (fC ls L k) with|some j=>.int j|none=>.none):=by
 have:∃ d,KR [aw ls,lN L,.int k]=aa d/\d=(match L.find? (fC ls L k) with|some j=>.int j|none=>.none):=by
  rw[7]
  let sub:List Ln:=L.map λj=>ls.getD j bo
  obtain⟨i,hi,ei⟩:=Jv hk;have cw:∀ l∈sub,fF l:=λl m=>by
   obtain⟨j,mj,rfl⟩:=bU.1 m;exact ho _ (getD_mem bo (hL j mj))
  have E1:sub[i]?=aa (ls.getD k bo):=by
   rw[fN,hi]
   rfl
  have es:=Zh cw (by show(L.map _).length<=50;simpa using hl) E1
  let W:List aE:=HA sub i (ls.getD k bo)
  have lc:bu [ab,aa 0] (ay (aB 1)) (gB 0) cN (ah ao (aB 1) (aB 0)) (vS [s0 (aw ls),s0 (lN L),s0 (.int k),ab,ab])=aa (.list (sub.map bD)):=by
   have:=dU (cap:=[ab,aa 0]) (fi:=ay (aB 1)) (T:=gB 0) (t:=cN) (f:=ah ao (aB 1) (aB 0)) (Y:=vS [s0 (aw ls),s0 (lN L),s0 (.int k),ab,ab]) (λ_=>af) (λj=>bD (ls.getD j bo)) (dE rfl) () λj mj=>⟨[aa (.int j),aa (aw ls)],rfl,rfl,λ_=>aN rfl rfl (jZ (hL j mj))⟩
   rw[this,iK.2 (by simp)]
   rw[eE]
   rfl
  refine bT (aT (aQ (aT (aQ lc rfl) rfl) (aQ (aN rfl rfl ei) rfl)) es) (by simp) ?_
  have tq:∀ z,z∈W↔z∈me ls k/\∃ o∈L,o≠k/\z∈me ls o:=λz=>by
   show z∈(eP [ls.getD k bo]).filter (λz=>decide (z∈eP (pE sub i)))↔_
   rw[gC,Aia];constructor
   .rintro⟨⟨l,ml,hz⟩,h2⟩;rw[cM.1 ml] at hz;refine⟨hz,?_⟩;obtain⟨l',E2,qc⟩:=Aia.1 (of_decide_eq_true h2);obtain⟨j,hj,ej⟩:=Auu.1 E2;have ej:=ej;rw[fN] at ej;obtain⟨o,eo,rfl⟩:=jR.1 ej;refine⟨o,eX eo,λq=>hj ?_,qc⟩
    exact Qr nd (by rw[<-q];exact eo) hi
   .rintro⟨hz,o,mo,ne,qc⟩;refine⟨⟨_,cM.2 rfl,hz⟩,decide_eq_true (Aia.2 ⟨ls.getD o bo,Auu.2 ?_,qc⟩)⟩;obtain⟨j,hj,ej⟩:=rH mo;refine⟨j,λq=>ne ?_,?_⟩
    .obtain⟨b1,b2⟩:=cW.1 hi;subst q;rw[<-ej,b2]
    .rw[fN,eR hj,ej]
     rfl
  have hWl:W.length<=100:=by
   have h1:W.length<=(eP [ls.getD k bo]).length:=oW _ _;have h2:=CJ (gM (ls.getD k bo).2) [];have h3:(gM (ls.getD k bo).2).length<=(ls.getD k bo).2.length:=wH _ _;have h4:=(ho _ (getD_mem bo (hL k hk))).1;have e:eP [ls.getD k bo]=(gM (ls.getD k bo).2).foldl fE []:=by
    unfold eP sG;simp
   rw[e] at h1;simp only[List.length_nil,Nat.zero_add] at h2
   lia
  let A:L2.Slot:=s0 (aw ls)
  let B:L2.Slot:=s0 (lN L)
  let C:L2.Slot:=s0 (.int k)
  let E:L2.Slot:=s0 (lZ W)
  refine xR (λY'=>∃ x4:L2.Slot,Y'=[A,B,C,E,x4]) (L.findSome? λj=>if fC ls L k j=af then aa (.int j) else ab) (sT (λY'=>∃ x4:L2.Slot,Y'=[A,B,C,E,x4]) _ (dm (dE rfl)) ⟨ab,rfl⟩ ?_) ?_ ?_
  .rintro j mj _ ⟨x4,rfl⟩;refine⟨[A,B,C,E,s0 (.int j)],rfl,?_⟩;have f1:ah dg (aB 4) (aB 2) (vS [A,B,C,E,s0 (.int j)])=aa (.bool (decide (j≠k))):=aN rfl rfl (qh j k);have yv:=dU (cap:=[ab,aa 0,aa 4]) (fi:=ay (aB 3)) (T:=gB 0) (t:=cN) (f:=ah (dy ag) (aB 0) (ah ao (ah ao (aB 1) (aB 2)) (eC (.int 1)))) (Y:=vS [A,B,C,E,s0 (.int j)]) (λ_=>af) (λz=>.bool (decide (z∈me ls j))) (dE rfl) () λz mz=>⟨[aa (.str z),aa (aw ls),aa (.int j)],rfl,rfl,λ_=>aN rfl (aN (aN rfl rfl (jZ (hL j mj))) rfl rfl) (QO z _)⟩
   rw[iK.2 (by simp)] at yv
   have f2:aJ wU (aC (bu [ab,aa 0,aa 4] (ay (aB 3)) (gB 0) cN (ah (dy ag) (aB 0) (ah ao (ah ao (aB 1) (aB 2)) (eC (.int 1))))) aG) (vS [A,B,C,E,s0 (.int j)])=aa (.bool (decide (rP ls L k j))):=by
    refine aT (aQ yv rfl) ?_;show((pO (W.map λz=>fA (decide (z∈me ls j)))).bind λbs=>aa (fA (bs.all id)))=_
    rw[IF,bB,List.all_map]
    congr 2
    rw[hJ,gD,decide_eq_true_eq];constructor
    .intro h z mz;by_cases q:∃ o∈L,o≠k/\z∈me ls o
     .exact .inl (of_decide_eq_true (h z ((tq z).2 ⟨mz,q⟩)))
     .exact .inr λo mo ne hz=>q ⟨o,mo,ne,hz⟩
    .intro h z mz;obtain⟨h1,o,mo,ne,hz⟩:=(tq z).1 mz;rcases h z h1 with q|q
     .exact decide_eq_true q
     .exact absurd hz (q o mo ne)
   have tb:bV .s (dZ (ak (ah dg (aB 4) (aB 2))) (ak (aJ wU (aC (bu [ab,aa 0,aa 4] (ay (aB 3)) (gB 0) cN (ah (dy ag) (aB 0) (ah ao (ah ao (aB 1) (aB 2)) (eC (.int 1))))) aG)))) [A,B,C,E,s0 (.int j)]=aa (fC ls L k j):=by
    simp only[bV,dZ,ak,f1,f2,bB,l5];unfold fC;cases decide (j≠k)<;>rfl
   cases hb:fC ls L k j with
   |true=>exact dC (tb.trans (by rw[hb])) (cJ rfl rfl)
   |false=>exact eU (tb.trans (by rw[hb])) (gH ⟨_,.inl rfl,_,rfl⟩)
  .intro r hr;refine⟨_,rfl,?_⟩;have:∀ xs:List Nat,(xs.findSome? λj=>if fC ls L k j=af then aa (bA j) else ab)=(xs.find? (fC ls L k)).map λ(j:Nat)=>bA j:=λxs=>by
    induction xs with
    |nil=>rfl
    |cons x xs ih=>
     rw[fH,zR];cases fC ls L k x with
     |true=>rfl
     |false=>exact ih
   rw[this] at hr;obtain⟨j,e,rfl⟩:=jR.1 hr;rw[e]
  .rintro hz _ ⟨x4,rfl⟩;refine cJ rfl ⟨_,rfl,?_⟩;have:∀ xs:List Nat,(xs.findSome? λj=>if fC ls L k j=af then aa (bA j) else ab)=(xs.find? (fC ls L k)).map λ(j:Nat)=>bA j:=λxs=>by
    induction xs with
    |nil=>rfl
    |cons x xs ih=>
     rw[fH,zR];cases fC ls L k x with
     |true=>rfl
     |false=>exact ih
   rw[this] at hz;rw[tX.1 hz]
 rw[1]
theorem YO(ho:∀ l∈ls,fF l)(hL:∀ o∈L,o<ls.length)(nd:L.Nodup)(hl:L.length<=50):pJ [aw ls,lN L]=aa (nA (fY ls L)):=by
 have:∃ d,pJ [aw ls,lN L]=aa d/\d=nA (fY ls L):=by
  rw[7]
  let A:L2.Slot:=s0 (aw ls)
  let B:L2.Slot:=s0 (lN L)
  have key:(L.findSome? λk=>((L.find? (fC ls L k)).map λj=>fX (k,j)))=(fY ls L).map fX:=by
   unfold fY;rw[List.map_findSome?];refine LH λk _=>?_
   show _=Option.map fX ((L.find? (fC ls L k)).map λj=>(k,j))
   rw[Option.map_map]
   rfl
  refine xR (λY'=>∃ x2 x3:L2.Slot,Y'=[A,B,x2,x3]) (L.findSome? λk=>((L.find? (fC ls L k)).map λj=>fX (k,j))) (sT (λY'=>∃ x2 x3:L2.Slot,Y'=[A,B,x2,x3]) _ (dm (dE rfl)) ⟨ab,ab,rfl⟩ ?_) ?_ ?_
  .rintro k mk _ ⟨x2,x3,rfl⟩;refine⟨[A,B,s0 (.int k),x3],rfl,?_⟩;have ep:=Yk ho hL nd hl mk;cases hf:L.find? (fC ls L k) with
   |none=>
    rw[hf] at ep;exact bT (aT rfl ep) (by simp) (eU rfl (gH ⟨_,.inl rfl,_,_,rfl⟩))
   |some j=>
    rw[hf] at ep;exact bT (aT rfl ep) (by simp) (dC rfl (cJ rfl rfl))
  .intro r hr;rw[key] at hr;obtain⟨p,e,rfl⟩:=jR.1 hr;exact⟨_,rfl,by rw[e];rfl⟩
  .rintro hz _ ⟨x2,x3,rfl⟩;rw[key] at hz;exact cJ rfl ⟨_,rfl,by rw[tX.1 hz];rfl⟩
 rw[1]
def e8 (ls:List Ln):Nat->List Nat->List (Nat×Nat)×List Nat
 |0,L=>([],L)
 |n+1,L=>match fY ls L with
  |none=>([],L)
  |some p=>(p::(e8 ls n (L.erase p.1)).1,(e8 ls n (L.erase p.1)).2)
theorem JN{p:Nat×Nat}(h:fY ls L=aa p):p.1∈L/\p.2∈L:=by
 unfold fY at h;obtain⟨k,mk,h⟩:=c7 h;obtain⟨j,hj,rfl⟩:=jR.1 h;exact⟨mk,wF hj⟩
theorem GT:∀ {n:Nat} {L:List Nat},(e8 ls n L).1.length<=n/\(e8 ls n L).2.length<=L.length
 |0,L=>⟨by simp[e8],bI _⟩
 |n+1,L=>by
  unfold e8;cases hf:fY ls L with
  |none=>exact⟨by simp,bI _⟩
  |some p=>
   obtain⟨h1,h2⟩:=GT;have:=List.length_erase_le (a:=p.1) (l:=L);exact⟨by simp;omega,by show(e8 ls n (L.erase p.1)).2.length<=L.length;lia⟩
theorem Rl{k:Nat}(h:k∈L):∃ i,ik (L.map λ(c:Nat)=>(.inl (c:Int):aH)) (.inl (k:Int))=aa i/\L.eraseIdx i=L.erase k:=by
 induction L with
 |nil=>simp at h
 |cons x xs ih=>
  by_cases q:x=k
  .subst q;exact⟨0,by simp[ik,List.findIdx?_cons],by simp⟩
  .have hm:k∈xs:=by
    rcases cZ.1 h with e|m
    .exact absurd e.symm q
    .exact m
   obtain⟨i,e1,e2⟩:=ih hm;refine⟨i+1,?_,?_⟩
   .unfold ik at e1 ⊢;rw[cT,List.findIdx?_cons];have:decide ((.inl (x:Int):aH)=.inl (k:Int))=ag:=decide_eq_false λe=>q (by
     have:(x:Int)=k:=by injection e
     lia)
    rw[this];simp only[qC,if_false];rw[e1]
    rfl
   .rw[qA,e2,List.erase_cons_tail (by simpa using q)]
theorem OP:∀ xs:List Nat,mJ (xs.map λ(c:Nat)=>bA c)=aa (xs.map λ(c:Nat)=>(.inl (c:Int):aH))
 |[]=>rfl
 |x::xs=>by
  show((bM (.int (x:Int))).bind λk=>(mJ (xs.map λ(c:Nat)=>bA c)).bind λks=>aa (k::ks))=_
  rw[OP xs]
  rfl
theorem Bx{P:Out->Prop}{k:Nat}(h:f (vS Y)=aa (.int k))(hg:getL i Y=aa (L.map λ(c:Nat)=>bA c))(hk:k∈L)(kk:P (.nx (Y.set i (aa (1,lN (L.erase k)))))):Goes (mP i .s f) Y P:=by
 obtain⟨j,e1,e2⟩:=Rl hk;refine⟨_,?_,kk⟩;have e0:eV 0 .s f Y=aa (.int k):=h;unfold mP;rw[e0,bB,hg,bB,OP,bB];show((ik _ (.inl (k:Int))).bind λj=>aa (Out.nx (Y.set i (aa (1,.list ((L.map λ(c:Nat)=>bA c).eraseIdx j))))))=_
 rw[e1,bB];have:(L.map λ(c:Nat)=>bA c).eraseIdx j=(L.erase k).map λ(c:Nat)=>bA c:=by
  rw[<-e2];have go:∀ (xs:List Nat) (n:Nat),(xs.map λ(c:Nat)=>bA c).eraseIdx n=(xs.eraseIdx n).map λ(c:Nat)=>bA c:=by
   intro xs;induction xs with
   |nil=>intro n;simp
   |cons x xs ih=>
    intro n;cases n with
    |zero=>rfl
    |succ n=>rw[cT,qA,qA,cT,ih]
  exact go L j
 rw[this]
abbrev lP (ps:List (Nat×Nat)):aA:=.list (ps.map fX)
theorem CF (t:Option (Nat×Nat)):fP 0 (nA t)=af:=by cases t<;>rfl
theorem Cs {ls:List Ln}(ho:∀ l∈ls,fF l):∀ (n fuel:Nat) {L:List Nat} {ps:List (Nat×Nat)},L.length<=n->n<fuel->(∀ o∈L,o<ls.length)->L.Nodup->L.length<=50->ps.length+n<=100 ->
  ∃ x3,iq .s (ak (ah fJ (aB 3) (eC .none))) (aO (gS 1 .s (aB 3)) (aO (mP 2 .s (ah ao (aB 3) (eC (.int 0)))) (bC 3 0 .a (aJ pJ (aC (aB 0) (aC (aB 2) aG)))))) fuel [s0 (aw ls),aa (1,lP ps),aa (1,lN L),s0 (nA (fY ls L))]
   = aa (.nx [s0 (aw ls),aa (1,lP (ps++(e8 ls n L).1)),aa (1,lN (e8 ls n L).2),x3])
 |n,0,L,ps,_,hf,_,_,_,_=>()
 |0,fuel+1,L,ps,h0,_,_,_,_,_=>by
  have:L=[]:=EM.1 ()
  rw[10];refine⟨s0 (nA (fY ls [])),?_⟩;rw[show(e8 ls 0 []).1=[] from rfl,lY]
  rfl
 |n+1,fuel+1,L,ps,hn,hf,hL,nd,hl,hp=>by
  unfold e8;cases xc:fY ls L with
  |none=>
   refine⟨s0 (nA ab),?_⟩;rw[lY]
   rfl
  |some p=>
   obtain⟨m1,m2⟩:=JN xc;have yw:=nd.erase p.1;have tu:∀ o∈L.erase p.1,o<ls.length:=λo m=>hL o (List.mem_of_mem_erase m)
   have bj:(L.erase p.1).length<=n:=by rw[Eg m1];lia
   have g7:(L.erase p.1).length<=50:=by rw[Eg m1];lia
   obtain⟨x3,ih⟩:=Cs ho n fuel (ps:=ps++[p]) bj () tu yw g7 (by simp;lia)
   have body:Goes (aO (gS 1 .s (aB 3)) (aO (mP 2 .s (ah ao (aB 3) (eC (.int 0)))) (bC 3 0 .a (aJ pJ (aC (aB 0) (aC (aB 2) aG)))))) [s0 (aw ls),aa (1,lP ps),aa (1,lN L),s0 (fX p)]
     λo=>o=.nx [s0 (aw ls),aa (1,lP (ps++[p])),aa (1,lN (L.erase p.1)),s0 (nA (fY ls (L.erase p.1)))]:=by
    refine eG (λY'=>Y'=[s0 (aw ls),aa (1,lP (ps++[p])),aa (1,lN L),s0 (fX p)]) (qN rfl rfl (by simp;lia) ⟨_,rfl,by simp⟩) ?_
    rintro _ rfl;refine eG (λY'=>Y'=[s0 (aw ls),aa (1,lP (ps++[p])),aa (1,lN (L.erase p.1)),s0 (fX p)]) (Bx rfl rfl m1 ⟨_,rfl,rfl⟩) ?_
    rintro _ rfl;refine AY ?_ (by simp) rfl
    exact qe (aT rfl (YO ho tu yw g7)) (CF _)
   obtain⟨o,eo,rfl⟩:=body;refine⟨x3,?_⟩;show((aO (gS 1 .s (aB 3)) (aO (mP 2 .s (ah ao (aB 3) (eC (.int 0)))) (bC 3 0 .a (aJ pJ (aC (aB 0) (aC (aB 2) aG))))) [s0 (aw ls),aa (1,lP ps),aa (1,lN L),s0 (fX p)]).bind λo=>match o with
    |.nx Y'=>iq .s (ak (ah fJ (aB 3) (eC .none))) (aO (gS 1 .s (aB 3)) (aO (mP 2 .s (ah ao (aB 3) (eC (.int 0)))) (bC 3 0 .a (aJ pJ (aC (aB 0) (aC (aB 2) aG)))))) fuel Y'
    |.ct Y'=>iq .s (ak (ah fJ (aB 3) (eC .none))) (aO (gS 1 .s (aB 3)) (aO (mP 2 .s (ah ao (aB 3) (eC (.int 0)))) (bC 3 0 .a (aJ pJ (aC (aB 0) (aC (aB 2) aG)))))) fuel Y'
    |.bk Y'=>aa (.nx Y')
    | .rt d=>aa (.rt d))=_
   rw[eo,bB];show iq .s _ _ fuel _=_;rw[ih,wI]
   rfl
def cB (ls:List Ln):List (Nat×Nat)×List Nat:=e8 ls ls.length (cP ls.length)
theorem QC(ho:∀ l∈ls,fF l)(hn:ls.length<=50):sL [aw ls]=aa (.tuple [lP (cB ls).1,lN (cB ls).2]):=by
 have:∃ d,sL [aw ls]=aa d/\d=.tuple [lP (cB ls).1,lN (cB ls).2]:=by
  rw[7];refine bT rfl (by simp) ?_
  refine bT (d:=lN (cP ls.length)) (aT (aQ (aT rfl (by rw[lM,bR])) rfl) ?_) (by simp) ?_
  .show(if -4096<=(ls.length:Int)/\(ls.length:Int)<=4096 then aa (vX (L2.upTo (ls.length:Int).toNat)) else ab)=_
   rw[if_pos ⟨(),()⟩]
   rfl
  have hL:∀ o∈cP ls.length,o<ls.length:=λo m=>iS.1 m
  have nd:(cP ls.length).Nodup:=List.nodup_range;have hl:(cP ls.length).length<=50:=by simpa using hn
  refine HG (aT rfl (YO ho hL nd hl)) (CF _) (by simp) ?_
  obtain⟨x3,e⟩:=Cs ho ls.length 100 (ps:=[]) (by simp) () hL nd hl (by simp;lia)
  refine gX e ?_;exact⟨_,rfl,_,rfl,rfl⟩
 rw[1]
theorem Ze{p:Nat×Nat}(h:fY ls L=aa p):p.2≠p.1/\rP ls L p.1 p.2:=by
 unfold fY at h;obtain⟨k,mk,h⟩:=c7 h;obtain⟨j,hj,rfl⟩:=jR.1 h;have:=NJ hj;unfold fC at this;obtain⟨h1,h2⟩:=gE.1 this;exact⟨of_decide_eq_true h1,of_decide_eq_true h2⟩
theorem Ade:z∈gM ks↔(.inr z:aH)∈ks:=by
 unfold gM;rw[rF];constructor
 .rintro⟨k,m,e⟩;cases k with
  |inl i=>cases e
  |inr y=>cases e;exact m
 .exact λm=>⟨_,m,rfl⟩
def ba (ls:List Ln):Nat->List aH:=λk=>(ls.getD k bo).2
theorem Da:∀ {n:Nat} {L:List Nat},L.Nodup->xA (ba ls) (λk=>k∈L) (e8 ls n L).1 (λk=>k∈(e8 ls n L).2)
 |0,L,_=>λk=>Iff.rfl
 |n+1,L,nd=>by
  cases h:fY ls L with
  |none=>
   have e:e8 ls (n+1) L=([],L):=by
    show(match fY ls L with|none=>([],L)|some p=>(p::(e8 ls n (L.erase p.1)).1,(e8 ls n (L.erase p.1)).2))=_
    rw[h]
   rw[e];exact λk=>Iff.rfl
  |some p=>
   have e:e8 ls (n+1) L=(p::(e8 ls n (L.erase p.1)).1,(e8 ls n (L.erase p.1)).2):=by
    show(match fY ls L with|none=>([],L)|some p=>(p::(e8 ls n (L.erase p.1)).1,(e8 ls n (L.erase p.1)).2))=_
    rw[h]
   rw[e];obtain⟨m1,m2⟩:=JN h;obtain⟨ne,E3⟩:=Ze h;refine⟨⟨m1,m2,kF ne,λz mz k hk dk E4=>?_⟩,?_⟩
   .rcases E3 z (Ade.2 mz) with c|c
    .exact Ade.1 c
    .exact absurd (Ade.2 E4) (c k hk dk)
   .have e2:less (λk=>k∈L) p.1=λk=>k∈L.erase p.1:=funext λk=>propext (by rw[nd.mem_erase_iff];exact And.comm)
    rw[e2];exact Da (nd.erase _)
theorem sX (ls:List Ln):xA (ba ls) (λk=>k<ls.length) (cB ls).1 (λk=>k∈(cB ls).2):=by
 have:=Da (ls:=ls) (n:=ls.length) (L:=cP ls.length) List.nodup_range;have e:(λk=>k∈cP ls.length)=λk=>k<ls.length:=funext λk=>propext iS
 rw[e] at this;exact this
theorem xS (T:aA)(ks:List aH)(row:List Int)(kn:List (aE×Int))(hk:ks.length<=100)(hn:kn.length<=100):nL [.tuple [T,tK ks],tI row,.dict (DN kn)]=aa (rU (cH ks row kn)):=by
 have:∃ d,nL [.tuple [T,tK ks],tI row,.dict (DN kn)]=aa d/\d=rU (cH ks row kn):=by
  rw[7];have e1:bV .s (ak (ah dg (aJ bG (aC (aB 1) aG)) (aJ bG (aC (ah ao (aB 0) (eC (.int 1))) aG)))) [aa (0,.tuple [T,tK ks]),aa (0,tI row),aa (0,.dict (DN kn)),ab,ab,ab,ab]=aa (decide (row.length≠ks.length)):=cF (Iu rfl rfl);by_cases hl:row.length=ks.length
  .refine gX (nG (e1.trans (by simp[hl]))) ?_
   refine bT (aT rfl (by show(if cz (DN kn)=af then aa (PyData.dict (DN kn)) else ab)=_;rw[ki];rfl)) (by simp) ?_
   have lz:(ks.zip row).length<=100:=by rw[oV];lia
   refine GU (λaz Y'=>∃ x4 x5 x6:L2.Slot,Y'=[aa (0,.tuple [T,tK ks]),aa (0,tI row),aa (0,.dict (DN kn)),aa (1,.dict (DN az)),x4,x5,x6]) .none (eJ eT kn (ks.zip row)) (HZ (q:=FY) eT _ .none (dm ?_) ⟨ab,ab,ab,rfl⟩ ?_) ?_ ?_
   .show iZ (aC (ah ao (aB 0) (eC (.int 1))) (aC (aB 1) aG)) (vS [aa (0,.tuple [T,tK ks]),aa (0,tI row),aa (0,.dict (DN kn)),aa (1,.dict (DN kn)),ab,ab,ab])=_;unfold iZ;rw[show aC (ah ao (aB 0) (eC (.int 1))) (aC (aB 1) aG) (vS [aa (0,.tuple [T,tK ks]),aa (0,tI row),aa (0,.dict (DN kn)),aa (1,.dict (DN kn)),ab,ab,ab])=aa [tK ks,tI row] from rfl,<-SK]
    rfl
   .rintro pre p post az _ gb hf ⟨x4,x5,x6,rfl⟩;have o4:az.length<=1000:=by
     have h1:=BV hf;have h2:pre.length<=(ks.zip row).length:=by rw[gb];simp
     lia
    exact⟨[aa (0,.tuple [T,tK ks]),aa (0,tI row),aa (0,.dict (DN kn)),aa (1,.dict (DN az)),aa (0,kD p.1),aa (0,.int p.2),x6],rfl,Zu _ _ _ az o4 p x6⟩
   .intro hf;refine⟨_,rfl,?_⟩;unfold cH;rw[if_pos hl,hf]
    rfl
   .rintro az hf _ ⟨x4,x5,x6,rfl⟩;refine⟨_,rfl,_,rfl,?_⟩;unfold cH;rw[if_pos hl,hf]
    rfl
  .refine qO (dC (e1.trans (by simp[hl])) (cJ rfl ⟨_,rfl,_,rfl,?_⟩))
   unfold cH;rw[if_neg hl]
   rfl
 rw[1]
theorem Rt{B:aE->List (List Int)}(b:Bk kds B wd)(t:aE)(K:aA):CC [.dict kds,.tuple [.str t,K]]=aa (aX (B t)):=by
 have:∃ d,CC [.dict kds,.tuple [.str t,K]]=aa d/\d=aX (B t):=by
  refine dB rfl (cJ (b.get rfl rfl) ⟨_,rfl,rfl⟩)
 rw[1]
abbrev Kn:=List (aE×Int)
def ax (kn:Kn):aA:=.dict (DN kn)
def pP (br:List Kn)(ks:List aH)(ck:List (List Int)):List Kn:=br.flatMap λkn=>ck.filterMap λr=>cH ks r kn
theorem IJ {α β:Type}(f:α->Option β):∀ (xs:List α) (ar:List β),xs.foldl (λa x=>a++(f x).toList) ar=ar++xs.filterMap f
 |[],ar=>by simp
 |x::xs,ar=>by
  rw[oX,IJ f xs,NL];cases f x<;>simp
theorem VA {α β:Type}(f:α->List β):∀ (xs:List α) (ar:List β),xs.foldl (λa x=>a++f x) ar=ar++xs.flatMap f
 |[],ar=>by simp
 |x::xs,ar=>by
  rw[oX,VA f xs,Ek,wI]
theorem Tz (t:aE)(ks:List aH)(ck:List (List Int))(br:List Kn)(hk:ks.length<=100)(hn:∀ kn∈br,kn.length<=100)(hm:br.length*ck.length<=90000) :
  KI [.list (br.map ax),bD (t,ks),aX ck]=aa (.list ((pP br ks ck).map ax)):=by
 have:∃ d,KI [.list (br.map ax),bD (t,ks),aX ck]=aa d/\d=.list ((pP br ks ck).map ax):=by
  rw[7];refine bT rfl (by simp) ?_
  let A:List L2.Slot:=[s0 (.list (br.map ax)),s0 (bD (t,ks)),s0 (aX ck)]
  refine eG (λY'=>∃ x4 x5 x6:L2.Slot,Y'=A++[aa (1,.list ((pP br ks ck).map ax)),x4,x5,x6]) ?_ ?_
  .refine jG (b0:=[]) (λar kn=>ar++ck.filterMap λr=>cH ks r kn) (λi ar Y'=>∃ x4 x5 x6:L2.Slot,ar.length<=i*ck.length/\Y'=A++[aa (1,.list (ar.map ax)),x4,x5,x6]) (dm (dE rfl)) ⟨ab,ab,ab,eB _,rfl⟩ ?_ ?_
   .rintro i kn ar _ hx ⟨x4,x5,x6,ha,rfl⟩;have hi:=(cW.1 hx).1;have o8:=hn kn (eX hx);have o4:(i+1)*ck.length<=90000:=cL (Nat.mul_le_mul_right _ hi) hm;have hs:(i+1)*ck.length=i*ck.length+ck.length:=MV _ _;refine⟨A++[aa (1,.list (ar.map ax)),s0 (ax kn),x5,x6],rfl,?_⟩;refine jG (λar r=>ar++(cH ks r kn).toList) (λj de Y'=>∃ x5 x6:L2.Slot,de.length<=ar.length+j/\Y'=A++[aa (1,.list (de.map ax)),s0 (ax kn),x5,x6]) (dm (dE rfl)) ⟨x5,x6,bI _,rfl⟩ ?_ ?_
    .rintro j r de _ hr ⟨x5,x6,u3,rfl⟩;have hj:=(cW.1 hr).1;refine⟨A++[aa (1,.list (de.map ax)),s0 (ax kn),s0 (bH r),x6],rfl,?_⟩;have hf:=xS (.str t) ks r kn hk o8;refine bT (aT rfl hf) (by simp[A]) ?_
     cases yx:cH ks r kn with
     |none=>exact eU (cF (aN rfl rfl rfl)) (gH ⟨_,.inl rfl,_,_,by simpa using(by lia:de.length<=ar.length+(j+1)),by rw[Option.toList_none,lY];rfl⟩)
     |some az=>
      refine dC (cF (aN rfl rfl rfl)) (qN rfl rfl (by simp;lia) ⟨_,.inl rfl,_,_,by simp;lia,by rw[Option.toList_some,gJ];rfl⟩)
    .rintro _ ⟨x5,x6,u3,rfl⟩;refine⟨_,.inl rfl,_,_,_,?_,by rw[IJ]⟩
     rw[IJ] at u3
     lia
   .rintro _ ⟨x4,x5,x6,ha,rfl⟩;rw[VA];exact⟨_,rfl,_,_,_,rfl⟩
  rintro _ ⟨x4,x5,x6,rfl⟩;exact GZ rfl ⟨_,rfl,rfl⟩
 rw[1]
theorem kN (ds:List aA):bG [.list ds]=aa (.int ds.length):=by simp[bG]
theorem Nj (br:List Kn)(ks:List aH)(ck:List (List Int)):(pP br ks ck).length<=br.length*ck.length:=by
 unfold pP;induction br with
 |nil=>simp
 |cons kn r ih=>
  rw[Ek,jS,fU,MV];have:=wH (λr=>cH ks r kn) ck
  lia
theorem HC{kn az:Kn}(h:cH ks r kn=aa az):az.length<=kn.length+ks.length:=by
 unfold cH at h;obtain⟨h1,h2⟩:=xW h;have:=BV h2;rw[oV] at this
 lia
def rowOf (zs:List aE)(kn:Kn):List Int:=zs.map λz=>(bF kn z).getD 0
theorem Zm{kn:Kn}(hl:zs.length<=1000)(h:∀ z∈zs,∃ v,bF kn z=aa v):sV [.list (zs.map dF),ax kn]=aa (bH (rowOf zs kn)):=by
 have:∃ d,sV [.list (zs.map dF),ax kn]=aa d/\d=bH (rowOf zs kn):=by
  rw[7];have e:=Kx (cap:=[ab,aa 1]) (fi:=ay (aB 0)) (T:=gB 0) (t:=cN) (f:=fW (aB 1) (aB 0) (aB 0)) (Y:=vS [s0 (.list (zs.map dF)),s0 (ax kn)]) (λd=>match d with|.str z=>.int ((bF kn z).getD 0)|d=>d) (dE rfl) (by rw[bR];lia) (λd m=>by
   obtain⟨z,mz,rfl⟩:=bU.1 m;obtain⟨v,hv⟩:=h z mz;refine⟨[aa (.str z),aa (ax kn)],rfl,rfl,?_⟩;have:=pH (fd:=aB 1) (fk:=aB 0) (fx:=aB 0) (Y:=[aa (.str z),aa (ax kn)]) rfl rfl rfl rfl (ki kn);rw[this,pI];show _=aa (bA ((bF kn z).getD 0));rw[hv]
   rfl)
  rw[eE] at e;have e':zs.map ((λd=>match d with|.str z=>bA ((bF kn z).getD 0)|d=>d)∘dF)=(rowOf zs kn).map bA:=by
   unfold rowOf;rw[eE]
   rfl
  rw[e'] at e;exact cJ (aT (aQ e rfl) rfl) ⟨_,rfl,rfl⟩
 rw[1]
def jm (a b:Ln):List aE:=(eP [a]).filter λz=>decide (z∈gM b.2)
theorem A0z:z∈jm a b↔(.inr z:aH)∈a.2/\(.inr z:aH)∈b.2:=by
 unfold jm;rw[gC,Aia,decide_eq_true_eq,Ade];refine and_congr_left λ_=>?_
 constructor
 .rintro⟨l,m,h⟩;rw[cM.1 m] at h;exact Ade.1 h
 .exact λh=>⟨a,cM.2 rfl,Ade.2 h⟩
theorem WM(h:fF l):(eP [l]).length<=6:=by
 have h1:=CJ (gM l.2) [];have h2:(gM l.2).length<=l.2.length:=wH _ _;have h3:=h.1;have e:eP [l]=(gM l.2).foldl fE []:=by
  unfold eP sG;simp
 rw[e];simp at h1
 lia
theorem Im(h:fF a):(jm a b).length<=6:=cL (oW _ _) (WM h)
theorem Zv(ha:fF a):IH [bD a,bD b]=aa (.list ((jm a b).map dF)):=by
 have el:=IZ (λx m=>by rw[cM.1 m];exact ha) (by simp)
 have:∃ d,IH [bD a,bD b]=aa d/\d=.list ((jm a b).map dF):=by
  rw[7];refine cJ ?_ ⟨_,rfl,rfl⟩;refine dU (λz=>decide (z∈gM b.2)) dF (dE (aT (aQ (lJ rfl) rfl) el)) (cL (WM ha) nofun) λz _=>?_
  refine⟨[aa (.str z),aa (bD b)],rfl,?_,λ_=>rfl⟩
  exact cF (aN rfl rfl (QO z b.2))
 rw[1]
theorem Ax(h6:l.2.length<=6)(hz:∀ z∈zs,(.inr z:aH)∈l.2)(hl:zs.length<=1000)(hr:∃ v,r=l.2.map (tv v)):sW [bD l,tI r,.list (zs.map dF)]=aa (bH (iV l.2 zs r)):=by
 obtain⟨v,rfl⟩:=hr;obtain⟨kn,ef,hk⟩:=AX l.2 v;have e1:=xS (.str l.1) l.2 (l.2.map (tv v)) [] () (by simp)
 rw[ef] at e1;have e2:=Zm hl λz m=>⟨_,hk z (hz z m)⟩
 have e3:rowOf zs kn=iV l.2 zs (l.2.map (tv v)):=by
  rw[BI hz];exact mV λz m=>by rw[hk z (hz z m)];rfl
 have:∃ d,sW [bD l,tI (l.2.map (tv v)),.list (zs.map dF)]=aa d/\d=bH (iV l.2 zs (l.2.map (tv v))):=by
  rw[7];refine cJ (aT (aQ rfl (aQ (aT rfl e1) rfl)) (by rw[<-e3];exact e2)) ⟨_,rfl,rfl⟩
 rw[1]
def pq (r:List Int):List aA×aA:=(r.map bA,.bool af)
theorem UX:∀ (U:List (List Int)),rT (U.map λr=>dG [bH r,.bool af])=aa (U.map pq)
 |[]=>rfl
 |r::U=>by
  show(if (bY (r.map bA)&&decide (cY (r.map bA)<=6))=af then(rT (U.map λr=>dG [bH r,.bool af])).bind λps=>aa ((r.map bA,fA af)::ps) else ab)=_
  rw[yE,pA,if_pos (decide_eq_true (cL (CB r) nofun)),UX U]
  rfl
theorem Wo {a b:List Int}(h:a.map bA=b.map bA):a=b:=by
 have:=congrArg (List.map l7) h
 rwa [uZ,uZ] at this
theorem Qa (K:List (List Int))(k:List Int):dy ag (bH k) (.dict ((.none,.none)::lH (K.map pq) []))=aa (.bool (K.contains k)):=by
 show(if (bY (k.map bA)&&decide (cY (k.map bA)<=6))=af then aa (fA (ag != (Ahz (lH (K.map pq) []) (k.map bA)).isSome)) else ab)=_
 have hk:∀ p∈K.map pq,bY p.1=af:=λp m=>by
  obtain⟨r,_,rfl⟩:=bU.1 m;exact yE r
 rw[yE,pA,if_pos (decide_eq_true (cL (CB k) nofun)),Tx hk (yE k)]
 have e:decide (k.map bA∈(K.map pq).map (·.1))=K.contains k:=by
  rw[hJ,decide_eq_true_eq,List.contains_iff_mem,eE,bU];constructor
  .rintro⟨r,m,e⟩;exact Wo e ▸ m
  .exact λm=>⟨k,m,rfl⟩
 rw[e];cases K.contains k<;>rfl
theorem Rv(ha:fF a)(hb:fF b){U:List (List Int)}(hR:∀ r∈R,∃ v,r=a.2.map (tv v))(hU:∀ r∈U,∃ v,r=b.2.map (tv v))(lR:R.length<=1000)(lU:U.length<=1000) :
  CY [bD a,aX R,bD b,aX U]=aa (aX (mI a.2 b.2 (jm a b) R U)):=by
 have hl:(jm a b).length<=1000:=cL (Im ha) nofun
 have ka:∀ r∈R,sW [bD a,tI r,.list ((jm a b).map dF)]=aa (bH (iV a.2 (jm a b) r)):=λr m=>Ax ha.1 (λz mz=>(A0z.1 mz).1) hl (hR r m)
 have kb:∀ r∈U,sW [bD b,tI r,.list ((jm a b).map dF)]=aa (bH (iV b.2 (jm a b) r)):=λr m=>Ax hb.1 (λz mz=>(A0z.1 mz).2) hl (hU r m)
 have ec:=Zv (b:=b) ha;unfold mI;generalize jm a b=zs at ka kb ec;have:∃ d,CY [bD a,aX R,bD b,aX U]=aa d/\d=aX (R.filter λr=>(U.map (iV b.2 zs)).contains (iV a.2 zs r)):=by
  rw[7];refine bT (aT rfl ec) (by simp) ?_
  refine bT (d:=.dict ((.none,.none)::lH ((U.map (iV b.2 zs)).map pq) [])) (aT (ds:=[.list ((U.map (iV b.2 zs)).map λr=>dG [bH r,.bool af])]) (aQ ?_ rfl) ?_) (by simp) ?_
  .have:=dU (cap:=[ab,aa 2,aa 4]) (fi:=ay (aB 3)) (T:=gB 0) (t:=cN) (f:=dI (aC (aJ sW (aC (aB 1) (aC (aB 0) (aC (aB 2) aG)))) (aC (eC (.bool af)) aG)))
    (Y:=vS [s0 (bD a),s0 (aX R),s0 (bD b),s0 (aX U),s0 (.list (zs.map dF)),ab]) (λ_=>af) (λr=>dG [bH (iV b.2 zs r),.bool af]) (dE rfl) () λr m=>⟨[aa (bH r),aa (bD b),aa (.list (zs.map dF))],rfl,rfl,λ_=>lJ (aQ (aT rfl (kb r m)) rfl)⟩
   rw[iK.2 λ_ _=>rfl] at this
   rw[eE];exact this
  .show(rT _).bind _=_;rw[UX]
   rfl
  refine cJ ?_ ⟨_,rfl,rfl⟩;refine dU (λr=>(U.map (iV b.2 zs)).contains (iV a.2 zs r)) bH (dE rfl) () λr m=>⟨[aa (bH r),aa (.dict ((.none,.none)::lH ((U.map (iV b.2 zs)).map pq) [])),aa (bD a),aa (.list (zs.map dF))],rfl,?_,λ_=>rfl⟩
  exact cF (aN (aT rfl (ka r m)) rfl (Qa _ _))
 rw[1]
def au (t:cG):aA:=.list (t.map aX)
def pd (ls:List Ln)(a b:Nat):List aE:=jm (ls.getD a bo) (ls.getD b bo)
theorem Kv (ls:List Ln):Cm (ba ls) (pd ls):=λa b z=>A0z
theorem nK {t:cG}{k:Nat}(h:k<t.length):ao (au t) (.int k)=aa (aX (t.getD k [])):=by
 refine BE ?_;rw[fN,eR h];simp[hG,h]
theorem wY {t:cG}{k:Nat}(R:List (List Int)):(t.map aX).set k (aX R)=(t.set k R).map aX:=by rw[List.map_set]
theorem Ce (R:List (List Int)):fP 1 (aX R)=af:=by
 exact gD.2 λd m=>by
  obtain⟨r,_,rfl⟩:=bU.1 m;exact IM r
def gr (B:aE->List (List Int))(l:Ln):List (List Int):=ql ((B l.1).filter λr=>(cH l.2 r []).isSome)
theorem An7 {B:aE->List (List Int)}:r∈gr B l↔r∈B l.1/\∃ v,r=l.2.map (tv v):=by
 unfold gr;rw[Pb,gC];refine and_congr_right λ_=>?_
 rw[vY];exact QF
theorem HE (B:aE->List (List Int))(l:Ln):(gr B l).length<=(B l.1).length:=by
 unfold gr;rw[Pv];exact oW _ _
section
variable {B:aE->List (List Int)}
theorem Ry (b:Bk kds B wd)(h6:l.2.length<=6):yI [.dict kds,bD l]=aa (aX (gr B l)):=by
 have es:uL [aX ((B l.1).filter λr=>(cH l.2 r []).isSome)]=aa (aX (gr B l)):=Dg (b.pos l.1) (λr m=>b.wid l.1 r (gC.1 m).1) (EJ (oW _ _) (b.few l.1))
 have:∃ d,yI [.dict kds,bD l]=aa d/\d=aX (gr B l):=by
  have e:=dU (cap:=[ab,aa 1]) (fi:=ay (aJ CC (aC (aB 0) (aC (aB 1) aG)))) (T:=gB 0) (t:=ak (ah fJ (aJ nL (aC (aB 1) (aC (aB 0) (aC (eC (.dict [])) aG)))) (eC .none))) (f:=aB 0)
   (Y:=vS [s0 (.dict kds),s0 (bD l)]) (λr=>(cH l.2 r []).isSome) bH (dE (aT rfl (Rt b l.1 _))) (by have:=b.few l.1;lia) (λr m=>by
    refine⟨[aa (bH r),aa (bD l)],rfl,?_,λ_=>rfl⟩
    have hf:=xS (.str l.1) l.2 r [] () (by simp)
    refine cF (aN (aT rfl hf) rfl ?_);cases cH l.2 r []<;>rfl)
  refine dB rfl (cJ (aT (aQ e rfl) es) ⟨_,rfl,rfl⟩)
 rw[1]
theorem Lx (ls:List Ln):uB (ba ls) (ls.map (gr B)):=λk r m=>by
 rw[hG,fN] at m;unfold ba;rw[hG];cases h:ls[k]? with
 |none=>rw[h] at m;simp at m
 |some l=>
  rw[h] at m;exact(An7.1 m).2
end
abbrev LR:=Ln×List (List Int)
def fV:List LR->Nat
 |[]=>1
 |p::r=>max 1 p.2.length*fV r
theorem SV:∀ ps,1<=fV ps
 |[]=>bI _
 |p::r=>EH (Nat.le_max_left 1 p.2.length) (SV r)
theorem IP:∀ xs ys,fV (xs++ys)=fV xs*fV ys
 |[],ys=>(Nat.one_mul _).symm
 |p::r,ys=>by
  show max 1 p.2.length*fV (r++ys)=max 1 p.2.length*fV r*fV ys;rw[IP r ys,Nat.mul_assoc]
theorem Rb (ps:List LR)(i:Nat):fV (ps.take i)<=fV ps:=by
 have e:fV ps=fV (ps.take i)*fV (ps.drop i):=by rw[<-IP,List.take_append_drop]
 rw[e];exact Nat.le_mul_of_pos_right _ (SV _)
def jU (ps:List LR):List Kn:=ps.foldl (λbr p=>pP br p.1.2 p.2) [[]]
theorem SA (f g:LR->aA):∀ ps:List LR,wB pairD (ps.map f) (ps.map g)=ps.map λp=>pairD (f p) (g p)
 |[]=>rfl
 |p::r=>by
  rw[cT,cT,List.zipWith_cons_cons,SA f g r,cT]
theorem Su (ps:List LR)(hl:ps.length<=16)(h6:∀ p∈ps,p.1.2.length<=6)(hw:fV ps<=4096) :
  IL [.tuple (ps.map λp=>bD p.1),.list (ps.map λp=>aX p.2)]=aa (.list ((jU ps).map ax))/\(jU ps).length<=fV ps/\∀ kn∈jU ps,kn.length<=96:=by
 have:∃ d,IL [.tuple (ps.map λp=>bD p.1),.list (ps.map λp=>aX p.2)]=aa d/\d=.list ((jU ps).map ax)/\(jU ps).length<=fV ps/\∀ kn∈jU ps,kn.length<=96:=by
  rw[7];refine bT (uQ rfl) (by simp) ?_
  let A:List L2.Slot:=[s0 (.tuple (ps.map λp=>bD p.1)),s0 (.list (ps.map λp=>aX p.2))]
  refine eG (λY'=>∃ x3 x4:L2.Slot,(jU ps).length<=fV ps/\(∀ kn∈jU ps,kn.length<=96)/\Y'=A++[s0 (.list ((jU ps).map ax)),x3,x4]) ?_ ?_
  .refine jG (xs:=ps) (q:=λp=>pairD (bD p.1) (aX p.2)) (b0:=[[]]) (λbr p=>pP br p.1.2 p.2) (λi br Y'=>∃ x3 x4:L2.Slot,br.length<=fV (ps.take i)/\(∀ kn∈br,kn.length<=6*i)/\Y'=A++[s0 (.list (br.map ax)),x3,x4]) (dm ?_) ⟨ab,ab,bI _,λkn m=>by rw[cM.1 m];simp,rfl⟩ ?_ ?_
   .rw[<-SA];exact Hg rfl rfl rfl
   .rintro i p br _ hx ⟨x3,x4,hk,o8,rfl⟩;have hi:=(cW.1 hx).1;have E5:=h6 p (eX hx);have ht:ps.take (i+1)=ps.take i++[p]:=by rw[NC,hx];rfl
    have xf:fV (ps.take (i+1))=fV (ps.take i)*max 1 p.2.length:=by
     rw[ht,IP];show _*(max 1 p.2.length*1)=_;rw[Nat.mul_one]
    have hm:br.length*p.2.length<=fV (ps.take (i+1)):=by
     rw[xf];exact EH hk (Nat.le_max_right _ _)
    have o4:=Rb ps (i+1);refine⟨A++[s0 (.list (br.map ax)),s0 (bD p.1),s0 (aX p.2)],rfl,?_⟩;refine sU (aT rfl (Tz p.1.1 p.1.2 p.2 br () (λkn m=>by have:=o8 kn m;lia) ())) (by simp[A]) ⟨_,.inl rfl,_,_,cL (Nj _ _ _) hm,λaz m=>?_,rfl⟩
    obtain⟨kn,mk,m⟩:=wG.1 m;obtain⟨r,_,e⟩:=rF.1 m;have:=HC e;have:=o8 kn mk
    lia
   .rintro _ ⟨x3,x4,h1,h2,rfl⟩;rw[rE] at h1;exact⟨_,rfl,_,_,h1,λkn m=>by have:=h2 kn m;lia,rfl⟩
  rintro _ ⟨x3,x4,h1,h2,rfl⟩;exact cJ rfl ⟨_,rfl,rfl,h1,h2⟩
 obtain⟨d,e,rfl,h1,h2⟩:=this;exact⟨e,h1,h2⟩
def eY (kn:Kn):aE->Int:=λz=>(bF kn z).getD 0
def qE (kn:Kn)(v:aE->Int)(ks:List aH):Prop:=∀ z,(.inr z:aH)∈ks->bF kn z=aa (v z)
theorem YT{kn az:Kn}(h:cH ks r kn=aa az):r.length=ks.length/\(∀ z u,bF kn z=aa u->bF az z=aa u)/\∀ p∈ks.zip r,(∀ i,p.1=.inl i->p.2=i)/\∀ z,p.1=.inr z->bF az z=aa p.2:=by
 unfold cH at h;obtain⟨h1,h2⟩:=xW h;obtain⟨a,b,_⟩:=sY h2;exact⟨h1,a,b⟩
theorem SG{kn az:Kn}(h:cH ks r kn=aa az):r=ks.map (tv (eY az))/\qE az (eY az) ks:=by
 obtain⟨hl,_,b⟩:=YT h;have key:∀ j (hj:j<ks.length) (hr:j<r.length),(∀ i,ks[j]=.inl i->r[j]=i)/\∀ z,ks[j]=.inr z->bF az z=aa r[j]:=λj hj hr=>by
  have hz:j<(ks.zip r).length:=by rw[oV];lia
  have:=b (ks.zip r)[j] (kH hz);rw[Ei] at this;exact this
 refine⟨En (by rw[bR];exact hl) λj h1 h2=>?_,λz mz=>?_⟩
 .rw[List.getElem_map];have hj:j<ks.length:=()
  obtain⟨k1,k2⟩:=key j hj h1;cases hk:ks[j] with
  |inl i=>exact k1 i hk
  |inr z=>
   show r[j]=(bF az z).getD 0;rw[k2 z hk]
   rfl
 .obtain⟨j,hj,e⟩:=rH mz;have:=(key j hj ()).2 z e
  unfold eY;rw[this]
  rfl
theorem LM {kn az:Kn}(h:qE kn (eY kn) ks)(k:∀ z u,bF kn z=aa u->bF az z=aa u):qE az (eY az) ks/\ks.map (tv (eY az))=ks.map (tv (eY kn)):=by
 have e:∀ z,(.inr z:aH)∈ks->bF az z=aa (eY kn z):=λz m=>k z _ (h z m)
 have e2:∀ z,(.inr z:aH)∈ks->eY az z=eY kn z:=λz m=>by
  show(bF az z).getD 0=_;rw[e z m]
  rfl
 exact⟨λz m=>by rw[e2 z m];exact e z m,Mv e2⟩
def FF (ps:List LR)(kn:Kn):Prop:=∀ p∈ps,qE kn (eY kn) p.1.2/\p.1.2.map (tv (eY kn))∈p.2
theorem WE:∀ (rest ji:List LR) (br:List Kn),(∀ kn∈br,FF ji kn)->∀ kn∈rest.foldl (λbr p=>pP br p.1.2 p.2) br,FF (ji++rest) kn
 |[],ji,br,h=>by rw[lY];exact h
 |q::rest,ji,br,h=>by
  have e:ji++q::rest=(ji++[q])++rest:=by simp
  rw[e,oX];refine WE rest (ji++[q]) _ λkn m=>?_
  obtain⟨k0,mk,m⟩:=wG.1 m;obtain⟨r,mr,ef⟩:=rF.1 m;intro p mp;rcases dH.1 mp with mp|mp
  .obtain⟨a,b⟩:=h k0 mk p mp;obtain⟨c,d⟩:=LM a (YT ef).2.1;exact⟨c,d ▸ b⟩
  .rw[cM.1 mp];obtain⟨a,b⟩:=SG ef;exact⟨b,a ▸ mr⟩
theorem Yr (ps:List LR):∀ kn∈jU ps,FF ps kn:=by
 have:=WE ps [] [[]] λkn _ p m=>by simp at m
 rwa [List.nil_append] at this
def sS (kn:Kn)(v:aE->Int):Prop:=∀ z u,bF kn z=aa u->u=v z
theorem Vl{kn:Kn}(h:sS kn v):∃ az,cH ks (ks.map (tv v)) kn=aa az/\sS az v:=by
 obtain⟨az,e⟩:=xY (ps:=ks.zip (ks.map (tv v))) (λp m i q=>by rw[(qX m).2,q];rfl) (λp m z u q e=>by rw[(qX m).2,q,h z u e];rfl) (λp m p' m' z q q'=>by rw[(qX m).2,(qX m').2,q,q'])
 refine⟨az,?_,λz u eu=>?_⟩
 .unfold cH;rw[if_pos (by rw[bR])]
  exact e
 .obtain⟨_,b,c⟩:=sY e;rcases c z u eu with c|⟨p,mp,q⟩
  .exact h z u c
  .have e1:=(b p mp).2 z q;rw[eu] at e1;rw[gQ e1,(qX mp).2,q]
   rfl
theorem WZ:∀ (rest:List LR) (br:List Kn),(∃ kn∈br,sS kn v)->(∀ p∈rest,p.1.2.map (tv v)∈p.2)->∃ kn∈rest.foldl (λbr p=>pP br p.1.2 p.2) br,sS kn v
 |[],br,h,_=>h
 |q::rest,br,⟨k0,m0,h0⟩,h=>by
  rw[oX];refine WZ rest _ ?_ λp m=>h p (bN _ m)
  obtain⟨k1,e1,h1⟩:=Vl h0;exact⟨k1,wG.2 ⟨k0,m0,rF.2 ⟨_,h q bO,e1⟩⟩,h1⟩
theorem Pt {kn:Kn}(h:qE kn v ks){k:aH}(mk:k∈ks):fW (aB 1) (aB 0) (aB 0) [aa (kD k),aa (ax kn)]=aa (.int (tv v k)):=by
 cases k with
 |inl i=>
  rw[pH rfl rfl rfl rfl (ki kn),II]
  rfl
 |inr z=>
  rw[pH rfl rfl rfl rfl (ki kn),pI,h z mk]
  rfl
def jV (ls:List Ln)(t:cG):List LR:=(cB ls).2.map λk=>(ls.getD k bo,t.getD k [])
theorem uS{k:Nat}(h:k∈(cB ls).2):k<ls.length:=(qT (sX ls)).1 k h
theorem IY (ls:List Ln):(cB ls).2.length<=ls.length:=by
 have:=(GT (ls:=ls) (n:=ls.length) (L:=cP ls.length)).2;rw[EL] at this;exact this
theorem Dc(ho:∀ l∈ls,fF l)(hn:ls.length<=50){Y:List (Option aA)}(h:Y[0]?.join=aa (aw ls)):uE 1 (aJ sL (aC (aB 0) aG)) Y=aa (lN (cB ls).2):=by
 unfold uE;rw[aT (aQ h rfl) (QC ho hn)]
 rfl
theorem PQ(hm:1<=m):∀ {ps:List LR},(∀ p∈ps,p.2.length<=m)->fV ps<=m^ps.length
 |[],_=>bI _
 |p::ps,h=>by
  rw[fU,vZ,Nat.mul_comm];exact EH (Nat.max_le.2 ⟨hm,h p bO⟩) (PQ hm λq mq=>h q (bN _ mq))
structure Lok (ls:List Ln):Prop where
 ok:∀ l∈ls,fF l
 w1:∀ l∈ls,1<=l.2.length
 n4:ls.length<=5
theorem Lok.atR(h:Lok ls){k:Nat}(hk:k<ls.length):fF (ls.getD k bo)/\1<=(ls.getD k bo).2.length:=by
 have e:ls.getD k bo=ls[k]:=by simp[hG,hk]
 rw[e];exact⟨h.ok _ (kH hk),h.w1 _ (kH hk)⟩
theorem Ui(L:Lok ls){t:cG}(hl:t.length=ls.length)(m1:1<=m)(hm:m^ls.length<=4096)(hs:∀ k,(t.getD k []).length<=m) :
  KP [aw ls,au t]=aa (.list ((jU (jV ls t)).map ax))/\(jU (jV ls t)).length<=4096:=by
 have hr:=IY ls;have n4:=L.n4;have hw:fV (jV ls t)<=4096:=cL (PQ m1 λp m=>by
  obtain⟨k,_,rfl⟩:=bU.1 m;exact hs k) (cL (MW m1 (by unfold jV;rw[bR];lia)) hm)
 obtain⟨e,h1,_⟩:=Su (jV ls t) (by unfold jV;rw[bR];lia) (λp m=>by
  obtain⟨k,mk,rfl⟩:=bU.1 m;exact(L.atR (uS mk)).1.1) hw
 refine⟨?_,()⟩
 have:∃ d,KP [aw ls,au t]=aa d/\d=.list ((jU (jV ls t)).map ax):=by
  rw[7];refine bT (Dc L.ok () rfl) (by simp) ?_
  have e1:=dU (cap:=[ab,aa 0]) (fi:=ay (aB 2)) (T:=gB 0) (t:=cN) (f:=ah ao (aB 1) (aB 0)) (Y:=vS [s0 (aw ls),s0 (au t),s0 (lN (cB ls).2)]) (λ_=>af) (λk=>bD (ls.getD k bo)) (dE rfl) () λk mk=>⟨[aa (.int k),aa (aw ls)],rfl,rfl,λ_=>aN rfl rfl (jZ (uS mk))⟩
  have e2:=dU (cap:=[ab,aa 1]) (fi:=ay (aB 2)) (T:=gB 0) (t:=cN) (f:=ah ao (aB 1) (aB 0)) (Y:=vS [s0 (aw ls),s0 (au t),s0 (lN (cB ls).2)]) (λ_=>af) (λk=>aX (t.getD k [])) (dE rfl) () λk mk=>⟨[aa (.int k),aa (au t)],rfl,rfl,λ_=>aN rfl rfl (nK (by rw[hl];exact uS mk))⟩
  rw[iK.2 λ_ _=>rfl] at e1 e2
  have q1:((jV ls t).map λp=>bD p.1)=(cB ls).2.map λk=>bD (ls.getD k bo):=by unfold jV;rw[eE];rfl
  have q2:((jV ls t).map λp=>aX p.2)=(cB ls).2.map λk=>aX (t.getD k []):=by unfold jV;rw[eE];rfl
  rw[q1,q2] at e;exact cJ (aT (aQ (aT (aQ e1 rfl) rfl) (aQ e2 rfl)) e) ⟨_,rfl,rfl⟩
 rw[1]
def sA (ls:List Ln):List Nat:=if 1<(cB ls).2.length then(cB ls).2 else []
theorem Pd(L:Lok ls):AR [aw ls]=aa (lN (sA ls)):=by
 have n4:=L.n4;have:∃ d,AR [aw ls]=aa d/\d=lN (sA ls):=by
  rw[7];refine bT (Dc L.ok () rfl) (by simp) ?_
  have c:bV .a (ak (ah dw (aJ bG (aC (aB 1) aG)) (eC (.int 1)))) [s0 (aw ls),aa (1,lN (cB ls).2)]=aa (decide (1<(cB ls).2.length)):=cF (aN (aT rfl (LX _)) rfl (by
   show aa (fA (decide (((cB ls).2.length:Int) > 1)))=_
   congr 2
   rw[hJ,decide_eq_true_eq,decide_eq_true_eq]
   lia))
  unfold sA;by_cases h:1<(cB ls).2.length
  .rw[if_pos h];rw[decide_eq_true h] at c;refine⟨.rt (lN (cB ls).2),?_,_,rfl,rfl⟩;show(bV .a _ [s0 (aw ls),aa (1,lN (cB ls).2)]).bind _=_;rw[c]
   rfl
  .rw[if_neg h];rw[decide_eq_false h] at c;refine⟨.rt (lN []),?_,_,rfl,rfl⟩;show(bV .a _ [s0 (aw ls),aa (1,lN (cB ls).2)]).bind _=_;rw[c]
   rfl
 rw[1]
abbrev xK:=List aH×List Ln
def jA (a:xK):aA:=.tuple [tK a.1,aw a.2]
def mE (kn:Kn):aH->aH
 |.inl i=>.inl i
 |.inr z=>match bF kn z with
  |some u=>.inl u
  |none=>.inr z
def jM (kn:Kn)(l:Ln):Ln:=(l.1,l.2.map (mE kn))
theorem Ck(L:Lok ls)(kn:Kn):Lok (ls.map (jM kn)):=by
 refine⟨λl m=>?_,λl m=>?_,by rw[bR];exact L.n4⟩<;>obtain⟨l,ml,rfl⟩:=bU.1 m
 .refine⟨by unfold jM;rw[bR];exact(L.ok l ml).1,λk mk=>?_⟩
  obtain⟨k,m2,rfl⟩:=bU.1 mk;have:=(L.ok l ml).2 k m2;cases k with
  |inl i=>exact this
  |inr z=>
   unfold mE;dsimp only;cases bF kn z with
   |none=>exact this
   |some u=>rfl
 .unfold jM;rw[bR];exact L.w1 l ml
theorem TR (h:List aH)(row:List Int)(hl:h.length<=6):HN [tK h,tI row]=aa (rU (cH h row [])):=by
 have:∃ d,HN [tK h,tI row]=aa d/\d=rU (cH h row []):=by
  rw[7];exact cJ (aT rfl (xS (.str "head") h row [] () (by simp))) ⟨_,rfl,rfl⟩
 rw[1]
theorem Ts{kn:Kn}(hl:ks.length<=6):sV [tK ks,ax kn]=aa (tK (ks.map (mE kn))):=by
 have:∃ d,sV [tK ks,ax kn]=aa d/\d=tK (ks.map (mE kn)):=by
  rw[7];have e:=dU (cap:=[ab,aa 1]) (fi:=ay (aB 0)) (T:=gB 0) (t:=cN) (f:=fW (aB 1) (aB 0) (aB 0)) (Y:=vS [s0 (tK ks),s0 (ax kn)]) (λ_=>af) (λk=>kD (mE kn k)) (jX rfl) () λk mk=>⟨[aa (kD k),aa (ax kn)],rfl,rfl,λ_=>by
   cases k with
   |inl i=>
    rw[pH rfl rfl rfl rfl (ki kn),II]
    rfl
   |inr z=>
    rw[pH rfl rfl rfl rfl (ki kn),pI];unfold mE;dsimp only;cases bF kn z<;>rfl⟩
  rw[iK.2 λ_ _=>rfl] at e
  refine cJ (aT (aQ e rfl) ?_) ⟨_,rfl,rfl⟩;show aa (dG _)=aa (dG ((ks.map (mE kn)).map kD));rw[eE]
  rfl
 rw[1]
theorem Ud(L:Lok ls)(kn:Kn):LI [aw ls,ax kn]=aa (aw (ls.map (jM kn))):=by
 have n4:=L.n4;have:∃ d,LI [aw ls,ax kn]=aa d/\d=aw (ls.map (jM kn)):=by
  rw[7];have e:=dU (cap:=[ab,aa 1]) (fi:=ay (aB 0)) (T:=gB 0) (t:=cN) (f:=dI (aC (ah ao (aB 0) (eC (.int 0))) (aC (aJ sV (aC (ah ao (aB 0) (eC (.int 1))) (aC (aB 1) aG))) aG))) (Y:=vS [s0 (aw ls),s0 (ax kn)]) (λ_=>af) (λl=>bD (jM kn l)) (jX rfl) () λl ml=>⟨[aa (bD l),aa (ax kn)],rfl,rfl,λ_=>lJ (aQ (aN rfl rfl rfl) (aQ (aT (aQ (aN rfl rfl rfl) rfl) (Ts (L.ok l ml).1)) rfl))⟩
  rw[iK.2 λ_ _=>rfl] at e
  refine cJ (aT (aQ e rfl) ?_) ⟨_,rfl,rfl⟩;show aa (dG _)=aa (dG ((ls.map (jM kn)).map bD));rw[eE]
  rfl
 rw[1]
theorem Pa{P:Out->Prop}(h:f (vS Y)=aa d)(k:P (.nx Y)):Goes (DK .s f) Y P:=⟨_,by
 unfold DK eV;simp only[h,bB],k⟩
theorem xF {G:SF}{P:Out->Prop}(h:Goes F Y λo=>∃ d,o=.rt d/\P (.rt d)):Goes (aO F G) Y P:=by
 obtain⟨o,e,d,rfl,p⟩:=h;exact BL e p
theorem rY {G:SF}{P:Out->Prop}{m:Md}{t:BF}(h:bV m t Y=aa ag)(k:Goes G Y P):Goes (aO (bt m t F cQ) G) Y P:=gX (nG h) k
abbrev fS (ks:List aH)(row:List Int)(kn:Kn)(x y:L2.Slot):aP:=[s0 (tK ks),s0 (tI row),aa (1,.dict (DN kn)),x,y]
theorem Qt (ks:List aH)(row:List Int)(kn:Kn)(hl:kn.length<=1000)(p:aH×Int):Goes (bt .s (ak (ff (fD "str") (aB 3))) (uD 2 .s (aB 3) .s (aB 4) .s (aB 4) (bQ 1 .s (eC .none))) (bt .s (ak (ah dg (aB 3) (aB 4))) (bQ 1 .s (eC .none)) cQ))
  (fS ks row kn (s0 (kD p.1)) (s0 (.int p.2))) (qF (λaz Y'=>∃ x y:L2.Slot,Y'=fS ks row az x y) .none (eT kn p)):=by
 have lz:(DN kn).length<sizeLine:=nQ (by simp[DN];lia)
 obtain⟨k,v⟩:=p;cases k with
 |inl i=>
  refine eU (cF (uG rfl (uU (.inl i)))) ?_;have c:bV .s (ak (ah dg (aB 3) (aB 4))) (fS ks row kn (s0 (.int i)) (s0 (.int v)))=aa (decide (i≠v)):=cF (aN rfl rfl (ne_int i v));show Goes _ _ (qF _ _ (if v=i then aa kn else ab))
  by_cases h:v=i
  .rw[if_pos h];rw[show decide (i≠v)=ag by simp[h]] at c
   exact eU c (gH ⟨_,.inl rfl,_,_,rfl⟩)
  .rw[if_neg h];rw[show decide (i≠v)=af by simpa using λq=>h q.symm] at c
   exact dC c (cJ rfl rfl)
 |inr z=>
  refine dC (cF (uG rfl (uU (.inr z)))) ?_;have e1:uD 2 .s (aB 3) .s (aB 4) .s (aB 4) (bQ 1 .s (eC .none)) (fS ks row kn (s0 (.str z)) (s0 (.int v)))=if (DN kn).length<sizeLine then match bJ (DN kn) (.inr z) with
    |some (.int u)=>wN .s (aB 4) (bQ 1 .s (eC .none)) u (fS ks row kn (s0 (.str z)) (s0 (.int v)))
    |some _=>ab
    |none=>wN .s (aB 4) (bQ 1 .s (eC .none)) v ((fS ks row kn (s0 (.str z)) (s0 (.int v))).set 2 (aa (1,.dict (putD (DN kn) (.inr z) (.int v))))) else ab:=rfl
  rw[if_pos lz,pI] at e1;show Goes _ _ (qF _ _ (match bF kn z with|some u=>if v=u then aa kn else ab|none=>aa (kn++[(z,v)])))
  cases hl:bF kn z with
  |some u=>
   rw[hl] at e1;have e1:uD 2 .s (aB 3) .s (aB 4) .s (aB 4) (bQ 1 .s (eC .none)) (fS ks row kn (s0 (.str z)) (s0 (.int v)))=if u≠v then aa (.rt .none) else aa (.nx (fS ks row kn (s0 (.str z)) (s0 (.int v)))):=e1
   dsimp only;by_cases h:v=u
   .rw[if_pos h];rw[if_neg (λq=>q h.symm)] at e1
    exact⟨_,e1,_,.inl rfl,_,_,rfl⟩
   .rw[if_neg h];rw[if_pos (λq=>h q.symm)] at e1
    exact⟨_,e1,rfl⟩
  |none=>
   rw[hl] at e1;have e1:=e1;rw[GW hl] at e1;have e1:uD 2 .s (aB 3) .s (aB 4) .s (aB 4) (bQ 1 .s (eC .none)) (fS ks row kn (s0 (.str z)) (s0 (.int v)))=if v≠v then aa (.rt .none) else aa (.nx (fS ks row (kn++[(z,v)]) (s0 (.str z)) (s0 (.int v)))):=e1
   rw[if_neg (λq=>q rfl)] at e1
   exact⟨_,e1,_,.inl rfl,_,_,rfl⟩
theorem uR (ks:List aH)(row:List Int)(hk:ks.length<=100):mO [tK ks,tI row]=aa (rU (cH ks row [])):=by
 have:∃ d,mO [tK ks,tI row]=aa d/\d=rU (cH ks row []):=by
  rw[7];refine bT rfl (by simp) ?_
  have c:bV .s (ak (ah dg (aJ bG (aC (aB 0) aG)) (aJ bG (aC (aB 1) aG)))) (fS ks row [] ab ab)=aa (decide (ks.length≠row.length)):=cF (aN (aT rfl (by rw[lM,bR])) (aT rfl (by rw[lM,bR])) (qh _ _))
  by_cases hl:ks.length=row.length
  .refine gX (nG (c.trans (by rw[decide_eq_false λz=>z hl]))) ?_
   rw[cH,if_pos hl.symm];have lz:(ks.zip row).length<=100:=by rw[oV];lia
   refine GU (λaz Y'=>∃ x y:L2.Slot,Y'=fS ks row az x y) .none (eJ eT [] (ks.zip row)) (HZ (q:=FY) eT _ .none (dm ?_) ⟨ab,ab,rfl⟩ ?_) ?_ ?_
   .show iZ (aC (aB 0) (aC (aB 1) aG)) (vS (fS ks row [] ab ab))=_;unfold iZ;rw[show aC (aB 0) (aC (aB 1) aG) (vS (fS ks row [] ab ab))=aa [tK ks,tI row] from rfl,<-SK]
    rfl
   .rintro pre p post az _ gb hf ⟨x,y,rfl⟩;have o4:az.length<=1000:=by
     have h1:=BV hf;have h2:pre.length<=(ks.zip row).length:=by rw[gb];simp
     simp at h1
     lia
    exact⟨fS ks row az (s0 (kD p.1)) (s0 (.int p.2)),rfl,Qt ks row az o4 p⟩
   .intro hf;exact⟨_,rfl,by rw[hf];rfl⟩
   .rintro az hf _ ⟨x,y,rfl⟩;exact⟨_,rfl,_,rfl,by rw[hf];rfl⟩
  .refine qO (dC (c.trans (by rw[decide_eq_true hl])) (cJ rfl ⟨_,rfl,_,rfl,?_⟩))
   rw[cH,if_neg λz=>hl z.symm]
   rfl
 rw[1]
def rR (a b:Kn)(z:aE):Bool:=match bF b z with
 |some u=>decide (aa u≠bF a z)
 |none=>ag
def jb (a b:Kn):Bool:=!(a.map (·.1)).any (rR a b)
theorem Afe {a:Kn}:z∈a.map (·.1) ↔ ∃ w,bF a z=aa w:=by
 induction a with
 |nil=>simp[bF]
 |cons p r ih=>
  have e:bF (p::r) z=if p.1=z then aa p.2 else bF r z:=by
   unfold bF;rw[fH];by_cases h:p.1=z<;>simp[h]
  rw[e,cT,cZ,ih];by_cases h:p.1=z
  .rw[if_pos h];exact⟨λ_=>⟨_,rfl⟩,λ_=>.inl h.symm⟩
  .rw[if_neg h];exact⟨λq=>q.elim (λq=>absurd q.symm h) id,.inr⟩
theorem Atp {a b:Kn}:jb a b=af ↔ ∀ z u w,bF a z=aa w->bF b z=aa u->u=w:=by
 unfold jb;rw[Ey,EO];constructor
 .intro h z u w ha hb;have:=h z (Afe.2 ⟨w,ha⟩);unfold rR at this;rw[hb,ha] at this;simpa using this
 .intro h z m;obtain⟨w,ha⟩:=Afe.1 m;unfold rR;cases hb:bF b z with
  |none=>simp
  |some u=>simp[ha,h z u w ha hb]
theorem PF {kn:Kn}{u:Int}(h:bF kn z=aa u):ao (ax kn) (.str z)=aa (.int u):=by
 show bJ (DN kn) (.inr z)=_;rw[pI,h]
 rfl
theorem Ay {a b:Kn}(la:pQ a):tM [ax a,ax b]=aa (.bool (jb a b)):=by
 have:∃ d,tM [ax a,ax b]=aa d/\d=.bool (jb a b):=by
  rw[7];refine GU (λ(_:Unit) Y'=>∃ x:L2.Slot,Y'=[s0 (ax a),s0 (ax b),x]) (.bool ag) (eJ (λ(_:Unit) z=>if rR a b z=af then ab else aa Unit.unit) Unit.unit (a.map (·.1))) (HZ (q:=dF) _ _ (.bool ag) (dm (Vf la rfl)) ⟨ab,rfl⟩ ?_) ?_ ?_
  .rintro pre z post _ _ gb _ ⟨x,rfl⟩;refine⟨[s0 (ax a),s0 (ax b),s0 (.str z)],rfl,?_⟩;obtain⟨w,ha⟩:=Afe.1 (show z∈a.map (·.1) by rw[gb];simp)
   have c:bV .s (ak (ah dg (fW (aB 1) (aB 2) (ah ao (aB 0) (aB 2))) (ah ao (aB 0) (aB 2)))) [s0 (ax a),s0 (ax b),s0 (.str z)]=aa (rR a b z):=by
    refine cF (aN (pH rfl rfl rfl (aN rfl rfl (PF ha)) (ki b)) (aN rfl rfl (PF ha)) ?_);rw[pI];unfold rR;cases hb:bF b z with
    |none=>
     show dg (.int w) (.int w)=_;rw[ne_int];simp
    |some u=>
     show dg (.int u) (.int w)=_;rw[ne_int,ha];simp
   cases hz:rR a b z with
   |true=>
    rw[hz] at c;exact dC c (cJ rfl rfl)
   |false=>
    rw[hz] at c;exact eU c (gH ⟨_,.inl rfl,_,rfl⟩)
  .intro h;rw[KM] at h;refine⟨_,rfl,?_⟩;unfold jb;split at h
   .rename_i q;rw[q];rfl
   .cases h
  .rintro _ h _ ⟨x,rfl⟩;rw[KM] at h;refine⟨_,rfl,_,rfl,?_⟩;unfold jb;split at h
   .cases h
   .rename_i q;rw[Bool.not_eq_true] at q;rw[q];rfl
 rw[1]
def kK (k:aH):aA×aA:=(kD k,.bool af)
theorem Bn (E:List aH)(k:aH):((E.map kK).any λkd=>decide (bM kd.1=aa k))=decide (k∈E):=by
 induction E with
 |nil=>rfl
 |cons y r ih=>
  rw[cT,rK,ih,show bM (kK y).1=aa y from iN y]
  by_cases h:k=y
  .subst h;simp
  .have h':¬ y=k:=λe=>h e.symm
   simp[h,h']
theorem On (E:List aH)(k:aH):putD (E.map kK) k (.bool af)=(fE E k).map kK:=by
 unfold putD fE;rw[Bn];by_cases h:k∈E
 .rw[if_pos (by simpa using h),if_pos h,eE]
  refine mV λy _=>?_
  show(if bM (kK y).1=aa k then((kK y).1,fA af) else kK y)=kK y
  split<;>rfl
 .rw[if_neg (by simpa using h),if_neg h,gJ]
  rfl
theorem IQ:∀ (ks E:List aH),jD (ks.map λk=>(k,.bool af)) (E.map kK)=(ks.foldl fE E).map kK
 |[],_=>rfl
 |k::ks,E=>by
  show jD (ks.map λk=>(k,.bool af)) (putD (E.map kK) k (.bool af))=_
  rw[On];exact IQ ks _
theorem QL:∀ ks:List aH,oD (ks.map λk=>dG [kD k,.bool af])=aa (ks.map λk=>(k,.bool af))
 |[]=>rfl
 |k::ks=>by
  show((bM (kD k)).bind λk=>(oD (ks.map λk=>dG [kD k,.bool af])).bind λps=>aa ((k,fA af)::ps))=_
  rw[iN,QL ks]
  rfl
theorem Bz:∀ ks:List aH,mQ (ks.map kK)=aa (ks.map λk=>(k,.bool af))
 |[]=>rfl
 |k::ks=>by
  show((bM (kD k)).bind λk=>(mQ (ks.map kK)).bind λps=>aa ((k,fA af)::ps))=_
  rw[iN,Bz ks]
  rfl
theorem Oy (ks:List aH):qL [.list (ks.map λk=>dG [kD k,.bool af])]=aa (.dict ((ks.foldl fE []).map kK)):=by
 show((oD (ks.map λk=>dG [kD k,.bool af])).bind λps=>aa (PyData.dict (jD ps [])))=_
 rw[QL,bB,show([]:List (aA×aA))=([]:List aH).map kK from rfl,IQ]
theorem PM (E:List aH):cz (E.map kK)=af:=uM λkd m=>by
 obtain⟨k,_,rfl⟩:=bU.1 m;cases k<;>exact λq=>nomatch q
theorem vG {α:Type}[DecidableEq α]:∀ (zs ar:List α),(zs.foldl fE ar).length<=ar.length+zs.length
 |[],ar=>bI _
 |z::zs,ar=>by
  rw[oX,fU];refine cL (vG zs _) ?_;unfold fE;split
  .lia
  .rw[jS,Ef];lia
theorem Vi{P:Out->Prop}{D E:List aH}(h:f (vS Y)=aa (.dict (D.map kK)))(hg:lB i Y=aa (E.map kK))(hl:E.length+D.length<=1000)(k:P (.nx (Y.set i (aa (1,.dict ((D.foldl fE E).map kK)))))):Goes (pM i .s f) Y P:=⟨_,by
 unfold pM;rw[show eV 0 .s f Y=aa (.dict (D.map kK)) from h,bB,hg,bB]
 show((mQ (D.map kK)).bind λps=>if cz (D.map kK)=af/\(E.map kK).length+(D.map kK).length<=sizeLine then aa (Out.nx (Y.set i (aa (1,.dict (jD ps (E.map kK)))))) else ab)=_
 rw[Bz,bB,if_pos ⟨PM D,mK (by simp;lia)⟩,IQ],k⟩
theorem Ox (E:List aH)(k:aH):(bJ (E.map kK) k).isSome=decide (k∈E):=by
 unfold bJ;rw[MT,<-Bn,hJ,List.find?_isSome,iF]
theorem Hl (E:List aH)(k:aH):dy ag (kD k) (.dict (E.map kK))=aa (.bool (decide (k∈E))):=by
 have e:dy ag (kD k) (.dict (E.map kK))=(if cz (E.map kK)=af then(bM (kD k)).bind λk=>aa (.bool (ag != (bJ (E.map kK) k).isSome)) else FM ag (kD k) (E.map kK)):=by cases k<;>rfl
 rw[e,PM,if_pos rfl,iN,bB,Ox];simp
theorem Nz (a b:aH):bX (kD a) (kD b)=decide (a=b):=by
 cases a with
 |inl i=>
  cases b with
  |inl j=>
   have:bX (.int i) (.int j)=decide (i=j):=by
    simp only[bX]
    rfl
   rw[show bX (kD (.inl i)) (kD (.inl j))=decide (i=j) from this]
   by_cases h:i=j<;>simp[h]
  |inr z=>simp[kD,bX]
 |inr y=>
  cases b with
  |inl j=>simp[kD,bX]
  |inr z=>
   rw[show bX (kD (.inr y)) (kD (.inr z))=decide (y=z) from HX y z]
   by_cases h:y=z<;>simp[h]
theorem Xs (k:aH)(ks:List aH):dy af (kD k) (.tuple (ks.map kD))=aa (.bool (!decide (k∈ks))):=by
 show(if (Ad2 (kD k)&&noDicts (ks.map kD))=af then aa (fA (af != (ks.map kD).any λd=>bX d (kD k))) else ab)=_
 rw[XT,show Ad2 (kD k)=af by cases k<;>rfl,wK,if_pos rfl,zT]
 congr 2
 rw[show(ks.any ((λd=>bX d (kD k))∘kD))=decide (k∈ks) by
  rw[hJ,iF];simp[Nz]]
 cases decide (k∈ks)<;>rfl
def qg:aH->Bool
 |.inr _=>af
 |.inl _=>ag
abbrev eS (ls:List Ln)(L:List Nat)(a b c d:L2.Slot):aP:=[s0 (aw ls),s0 (lN L),a,b,c,d]
theorem xT{k:Nat}(h:k<ls.length){Y:List (Option aA)}{fa:EF}(e0:fa Y=aa (aw ls))(e1:fk Y=aa (.int k)):ah ao (ah ao fa fk) (eC (.int 1)) Y=aa (tK (ba ls k)):=
 aN (aN e0 e1 (jZ h)) rfl rfl
theorem Oo(ho:∀ l∈ls,fF l)(hL:∀ o∈L,o<ls.length)(hl:L.length<=50)(k:Nat)(x4 x5:L2.Slot) :
  Goes (cS .s (ay (aB 1)) (dq 4) (bt .s (ak (ah dg (aB 4) (aB 2))) (pM 3 .s (aJ qL (aC (bu [ab] (ay (ah ao (ah ao (aB 0) (aB 4)) (eC (.int 1)))) (gB 0) cN (dI (aC (aB 0) (aC (eC (.bool af)) aG)))) aG))) cQ))
   (eS ls L (s0 (.int k)) (aa (1,.dict [])) x4 x5) λo=>∃ Y',o=.nx Y'/\∃ (E:List aH) (x4:L2.Slot),Y'=eS ls L (s0 (.int k)) (aa (1,.dict (E.map kK))) x4 x5/\∀ t,t∈E ↔ ∃ o∈L,o≠k/\t∈ba ls o:=by
 refine jG (xs:=L) (q:=λ(c:Nat)=>bA c) (λE j=>if j≠k then((ba ls j).foldl fE []).foldl fE E else E) (λi E Y'=>E.length<=6*i/\(∀ t,t∈E ↔ ∃ o∈L.take i,o≠k/\t∈ba ls o)/\∃ x4:L2.Slot,Y'=eS ls L (s0 (.int k)) (aa (1,.dict (E.map kK))) x4 x5) (b0:=[]) (dm (dE rfl)) ⟨bI _,λt=>by simp,x4,rfl⟩ ?_ ?_
 .rintro i j E _ hj ⟨hE,hm,x,rfl⟩;have mj:=eX hj;have hi:=(cW.1 hj).1;have lj:(ba ls j).length<=6:=(ho _ (getD_mem bo (hL j mj))).1;have tk:L.take (i+1)=L.take i++[j]:=by rw[wC,hj];rfl
  refine⟨eS ls L (s0 (.int k)) (aa (1,.dict (E.map kK))) (s0 (.int j)) x5,rfl,?_⟩;have c:bV .s (ak (ah dg (aB 4) (aB 2))) (eS ls L (s0 (.int k)) (aa (1,.dict (E.map kK))) (s0 (.int j)) x5)=aa (decide (j≠k)):=cF (aN rfl rfl (qh j k));by_cases h:j=k
  .rw[show decide (j≠k)=ag by simp[h]] at c
   refine eU c (gH ⟨_,.inl rfl,?_⟩);rw[if_neg (λq=>q h)]
   refine⟨(),λt=>?_,_,rfl⟩
   rw[hm,tk];constructor
   .rintro⟨o,mo,q⟩;exact⟨o,NF _ mo,q⟩
   .rintro⟨o,mo,q1,q2⟩;rcases dH.1 mo with mo|mo
    .exact⟨o,mo,q1,q2⟩
    .exact absurd (by rw[cM.1 mo];exact h) q1
  .rw[show decide (j≠k)=af by simp[h]] at c
   refine dC c ?_;have e:=dU (cap:=[ab]) (fi:=ay (ah ao (ah ao (aB 0) (aB 4)) (eC (.int 1)))) (T:=gB 0) (t:=cN) (f:=dI (aC (aB 0) (aC (eC (.bool af)) aG))) (Y:=vS (eS ls L (s0 (.int k)) (aa (1,.dict (E.map kK))) (s0 (.int j)) x5)) (λ_=>af) (λt=>dG [kD t,.bool af]) (jX (xT (hL j mj) rfl rfl)) () λt _=>⟨[aa (kD t)],rfl,rfl,λ_=>rfl⟩
   rw[iK.2 λ_ _=>rfl] at e
   have l0:((ba ls j).foldl fE []).length<=6:=by
    have:=vG (ba ls j) [];simp at this
    lia
   refine Vi (aT (aQ e rfl) (Oy (ba ls j))) rfl () ⟨_,.inl rfl,?_⟩
   rw[if_pos h];refine⟨cL (vG _ _) (),λt=>?_,_,rfl⟩
   rw[CG,CG,hm,tk];constructor
   .rintro(⟨o,mo,q⟩|q)
    .exact⟨o,NF _ mo,q⟩
    .exact⟨j,mU _ bO,h,q.elim (λz=>by simp at z) id⟩
   .rintro⟨o,mo,q1,q2⟩;rcases dH.1 mo with mo|mo
    .exact .inl ⟨o,mo,q1,q2⟩
    .rw[cM.1 mo] at q2;exact .inr (.inr q2)
 .rintro _ ⟨_,hm,x,rfl⟩;rw[rE] at hm;exact⟨_,rfl,_,x,rfl,hm⟩
theorem Zf{k:Nat}{E:List aH}(hm:∀ t,t∈E ↔ ∃ o∈L,o≠k/\t∈ba ls o) :
  ((((ba ls k).filter λt=>decide (t∈E)&&!decide (t∈ba ls j)).filter qg).length=0)↔rP ls L k j:=by
 rw[EM,List.filter_eq_nil_iff];unfold rP me;constructor
 .intro h z mz;rw[Ade] at mz ⊢;by_cases q:(.inr z:aH)∈ba ls j
  .exact .inl q
  .refine .inr λo mo ok z2=>?_
   rw[Ade] at z2;exact h (.inr z) (gC.2 ⟨mz,by simp[q,(hm (.inr z)).2 ⟨o,mo,ok,z2⟩]⟩) rfl
 .intro h t mt hN;obtain⟨m1,m2⟩:=gC.1 mt;cases t with
  |inl i=>cases hN
  |inr z=>
   simp only[tZ,decide_eq_true_eq,Ey,decide_eq_false_iff_not] at m2;rcases h z (Ade.2 m1) with q|q
   .exact m2.2 (Ade.1 q)
   .obtain⟨o,mo,ok,z2⟩:=(hm _).1 m2.1;exact q o mo ok (Ade.2 z2)
theorem yD {α β:Type}(p:α->Bool)(f:α->β):∀ L:List α,(L.findSome? λj=>if p j=af then aa (f j) else ab)=(L.find? p).map f
 |[]=>rfl
 |x::L=>by
  rw[zR,fH];cases h:p x with
  |true=>rfl
  |false=>exact yD p f L
theorem QX(ho:∀ l∈ls,fF l)(hL:∀ o∈L,o<ls.length)(hl:L.length<=50):yM [aw ls,lN L]=aa (nA (fY ls L)):=by
 have:∃ d,yM [aw ls,lN L]=aa d/\d=nA (fY ls L):=by
  rw[7];have key:(L.findSome? λk=>((L.find? (fC ls L k)).map λj=>fX (k,j)))=(fY ls L).map fX:=by
   unfold fY;rw[List.map_findSome?];refine LH λk _=>?_
   show _=Option.map fX ((L.find? (fC ls L k)).map λj=>(k,j))
   rw[Option.map_map]
   rfl
  refine xR (λY'=>∃ a b c d:L2.Slot,Y'=eS ls L a b c d) (L.findSome? λk=>((L.find? (fC ls L k)).map λj=>fX (k,j))) (sT (λY'=>∃ a b c d:L2.Slot,Y'=eS ls L a b c d) _ (dm (dE rfl)) ⟨ab,ab,ab,ab,rfl⟩ ?_) ?_ ?_
  .rintro k mk _ ⟨a,b,c,d,rfl⟩;refine⟨eS ls L (s0 (.int k)) b c d,rfl,?_⟩;refine bT rfl (by simp) ?_
   refine eG _ (Oo ho hL hl k c d) ?_;rintro _ ⟨E,x4,rfl,hm⟩;refine gG ?_;show Goes _ (eS ls L (s0 (.int k)) (s0 (.dict (E.map kK))) x4 d) _;have lk:(ba ls k).length<=6:=(ho _ (getD_mem bo (hL k mk))).1;have fs:=yD (fC ls L k) (λj=>fX (k,j)) L
   rw[<-fs];refine(sT (λY'=>∃ c d:L2.Slot,Y'=eS ls L (s0 (.int k)) (s0 (.dict (E.map kK))) c d) (λj=>if fC ls L k j=af then aa (fX (k,j)) else ab) (dm (dE rfl)) ⟨x4,d,rfl⟩ ?_).mono ?_
   .rintro j mj _ ⟨c',d',rfl⟩;refine⟨eS ls L (s0 (.int k)) (s0 (.dict (E.map kK))) (s0 (.int j)) d',rfl,?_⟩;have e1:=dU (cap:=[ab,aa 3,aa 0,aa 4]) (fi:=ay (ah ao (ah ao (aB 0) (aB 2)) (eC (.int 1)))) (T:=gB 0) (t:=dZ (ak (ah (dy ag) (aB 0) (aB 1))) (ak (ah (dy af) (aB 0) (ah ao (ah ao (aB 2) (aB 3)) (eC (.int 1)))))) (f:=aB 0)
     (Y:=vS (eS ls L (s0 (.int k)) (s0 (.dict (E.map kK))) (s0 (.int j)) d')) (λt=>decide (t∈E)&&!decide (t∈ba ls j)) kD (jX (xT (hL k mk) rfl rfl)) () λt _=>⟨[aa (kD t),aa (.dict (E.map kK)),aa (aw ls),aa (.int j)],rfl,kT (cF (aN rfl rfl (Hl E t))) λ_=>cF (aN rfl (xT (hL j mj) rfl rfl) (Xs t _)),λ_=>rfl⟩
    refine bT e1 (by simp) ?_
    generalize hD:(ba ls k).filter (λt=>decide (t∈E)&&!decide (t∈ba ls j))=D
    have lD:D.length<=6:=by rw[<-hD];exact cL (oW _ _) lk
    refine gG ?_;show Goes _ (eS ls L (s0 (.int k)) (s0 (.dict (E.map kK))) (s0 (.int j)) (s0 (lK D))) _;have e2:=dU (cap:=[ab]) (fi:=ay (aB 5)) (T:=gB 0) (t:=ak (ff (fD "str") (aB 0))) (f:=aB 0) (Y:=vS (eS ls L (s0 (.int k)) (s0 (.dict (E.map kK))) (s0 (.int j)) (s0 (lK D)))) qg kD (dE rfl) () λt _=>⟨[aa (kD t)],rfl,cF (uG rfl (by rw[uU];cases t<;>rfl)),λ_=>rfl⟩
    have c1:bV .s (dZ (ak (ah dg (aB 4) (aB 2))) (ak (ah cb (aJ bG (aC (bu [ab] (ay (aB 5)) (gB 0) (ak (ff (fD "str") (aB 0))) (aB 0)) aG)) (eC (.int 0))))) (eS ls L (s0 (.int k)) (s0 (.dict (E.map kK))) (s0 (.int j)) (s0 (lK D)))=aa (fC ls L k j):=by
     refine(kT (cF (aN rfl rfl (qh j k))) λ_=>cF (aN (aT (aQ e2 rfl) (kN _)) rfl (k3 _ 0))).trans ?_
     unfold fC
     congr 2
     rw[bR,<-hD,hJ,decide_eq_true_eq,decide_eq_true_eq];exact Zf hm
    cases hb:fC ls L k j with
    |true=>
     rw[hb] at c1;exact dC c1 (cJ rfl rfl)
    |false=>
     rw[hb] at c1;exact eU c1 (gH ⟨_,.inl rfl,_,_,rfl⟩)
   .exact λo ho=>ho.turn λY ⟨c',d',e⟩=>⟨_,_,c',d',e⟩
  .intro r hr;rw[key] at hr;obtain⟨p,e,rfl⟩:=jR.1 hr;exact⟨_,rfl,by rw[e];rfl⟩
  .rintro hz _ ⟨a,b,c,d,rfl⟩;rw[key] at hz;exact cJ rfl ⟨_,rfl,by rw[tX.1 hz];rfl⟩
 rw[1]
section
variable {m:Md}{t:BF}{P:Out->Prop}
theorem Jy (h:bV m t Y=aa af)(k:Goes F Y λo=>∃ Y',o=.nx Y'/\Goes (iq m t F n) Y' P):Goes (iq m t F (n+1)) Y P:=by
 obtain⟨o,e,Y',rfl,o2,e2,p⟩:=k;refine⟨o2,?_,p⟩;show((bV m t Y).bind _)=_;rw[h,bB,if_pos rfl,e];exact e2
theorem Ao (h:bV m t Y=aa ag)(k:P (.nx Y)):Goes (iq m t F (n+1)) Y P:=⟨_,by
 show((bV m t Y).bind _)=_;rw[h]
 rfl,k⟩
end
theorem RM {ls:List Ln}(ho:∀ l∈ls,fF l):∀ (n fuel:Nat) {L:List Nat} {ps:List (Nat×Nat)},L.length<=n->n<fuel->(∀ o∈L,o<ls.length)->L.length<=50->ps.length+n<=100 ->
  Goes (iq .s (ak (ah fJ (aB 3) (eC .none))) (aO (gS 2 .s (aB 3)) (aO (mP 1 .s (ah ao (aB 3) (eC (.int 0)))) (bC 3 0 .a (aJ yM (aC (aB 0) (aC (aB 1) aG)))))) fuel) [s0 (aw ls),aa (1,lN L),aa (1,lP ps),s0 (nA (fY ls L))]
   λo=>∃ Y',o=.nx Y'/\∃ x3:L2.Slot,Y'=[s0 (aw ls),aa (1,lN (e8 ls n L).2),aa (1,lP (ps++(e8 ls n L).1)),x3]
 |n,0,L,ps,_,hf,_,_,_=>()
 |0,fuel+1,L,ps,h0,_,_,_,_=>by
  have:L=[]:=EM.1 ()
  rw[10];exact Ao rfl ⟨_,rfl,_,by rw[show(e8 ls 0 []).1=[] from rfl,lY];rfl⟩
 |n+1,fuel+1,L,ps,hn,hf,hL,hl,hp=>by
  unfold e8;cases xc:fY ls L with
  |none=>exact Ao rfl ⟨_,rfl,_,by rw[lY]⟩
  |some p=>
   obtain⟨m1,m2⟩:=JN xc;have tu:∀ o∈L.erase p.1,o<ls.length:=λo m=>hL o (List.mem_of_mem_erase m)
   have bj:(L.erase p.1).length<=n:=by rw[Eg m1];lia
   have g7:(L.erase p.1).length<=50:=cL List.length_erase_le hl;refine Jy rfl ?_;show Goes _ [s0 (aw ls),aa (1,lN L),aa (1,lP ps),s0 (fX p)] _;refine eG (λY'=>Y'=[s0 (aw ls),aa (1,lN L),aa (1,lP (ps++[p])),s0 (fX p)]) (qN rfl rfl (by simp;lia) ⟨_,rfl,by simp⟩) ?_
   rintro _ rfl;refine eG (λY'=>Y'=[s0 (aw ls),aa (1,lN (L.erase p.1)),aa (1,lP (ps++[p])),s0 (fX p)]) (Bx rfl rfl m1 ⟨_,rfl,rfl⟩) ?_
   rintro _ rfl;refine Oh (aT rfl (QX ho tu g7)) (CF _) (by simp) ⟨_,rfl,?_⟩
   have ih:=RM ho n fuel (ps:=ps++[p]) bj () tu g7 (by simp;lia)
   rw[wI] at ih;exact ih
theorem RV(ho:∀ l∈ls,fF l)(hn:ls.length<=50):CP [aw ls]=aa (.list [lP (cB ls).1,lN (cB ls).2]):=by
 have:∃ d,CP [aw ls]=aa d/\d=.list [lP (cB ls).1,lN (cB ls).2]:=by
  rw[7];refine bT (d:=lN (cP ls.length)) (aT (aQ (aT rfl (by rw[lM,bR])) rfl) ?_) (by simp) ?_
  .show(if -4096<=(ls.length:Int)/\(ls.length:Int)<=4096 then aa (vX (L2.upTo (ls.length:Int).toNat)) else ab)=_
   rw[if_pos ⟨(),()⟩]
   rfl
  have hL:∀ o∈cP ls.length,o<ls.length:=λo m=>iS.1 m
  have hl:(cP ls.length).length<=50:=by simpa using hn
  refine bT (d:=lP []) rfl (by simp) ?_
  refine HG (aT rfl (QX ho hL hl)) (CF _) (by simp) ?_
  refine eG _ (RM ho ls.length 100 (ps:=[]) (by simp) () hL hl (by simp;lia)) ?_
  rintro _ ⟨x3,rfl⟩;exact gG (gG (cJ (uQ (aQ rfl (aQ rfl rfl))) ⟨_,rfl,rfl⟩))
 rw[1]
def i9 (ks:List aH)(r:List Int):Kn:=(cH ks r []).getD []
theorem GX{kn:Kn}(h:cH ks r []=aa kn){u:Int}(e:bF kn z=aa u):(.inr z:aH)∈ks:=by
 unfold cH at h;obtain⟨_,h2⟩:=xW h;rcases(sY h2).2.2 z u e with q|⟨p,mp,q⟩
 .cases q
 .rw[<-q];exact(wD (show(p.1,p.2)∈ks.zip r from mp)).1
theorem lay_of {kn:Kn}(h:∀ z u,bF kn z=aa u->cI (.str z)=af):pQ kn:=λp m=>by
 obtain⟨w,e⟩:=Afe.1 (bU.2 ⟨p,m,rfl⟩);exact h _ w e
theorem Pf(h:∀ k∈ks,cI (kD k)=af){kn:Kn}(e:cH ks r []=aa kn):pQ kn:=lay_of λz _ q=>h _ (GX e q)
theorem GJ (a:List aH)(v:aE->Int):cH a (a.map (tv v)) []=aa (i9 a (a.map (tv v)))/\(∀ z,(.inr z:aH)∈a->bF (i9 a (a.map (tv v))) z=aa (v z))/\∀ z u,bF (i9 a (a.map (tv v))) z=aa u->(.inr z:aH)∈a:=by
 obtain⟨kn,e,t⟩:=AX a v;unfold i9;rw[e];exact⟨rfl,t,λz u q=>GX e q⟩
theorem Ayz {a b:List aH}{u:aE->Int}:jb (i9 a (a.map (tv v))) (i9 b (b.map (tv u)))=af ↔ ∀ z,(.inr z:aH)∈a->(.inr z:aH)∈b->u z=v z:=by
 obtain⟨_,t1,d1⟩:=GJ a v;obtain⟨_,t2,d2⟩:=GJ b u;rw[Atp];constructor
 .exact λh z m1 m2=>h z _ _ (t1 z m1) (t2 z m2)
 .intro h z x y h1 h2;have m1:=d1 z y h1;have m2:=d2 z x h2;rw[t1 z m1] at h1;rw[t2 z m2] at h2;cases h1;cases h2;exact h z m1 m2
def iL (b:List aH)(u:List Int):Bool:=(cH b u []).isSome
theorem Afn {b:List aH}{u:List Int}:iL b u=af ↔ ∃ v,u=b.map (tv v):=by
 unfold iL;rw[vY];exact QF
def rB (a b:List aH)(r:List Int)(u:List Int):Bool:=iL b u&&jb (i9 a r) (i9 b u)
def iM (a b:List aH)(r:List Int)(U:List (List Int)):Bool:=U.any (rB a b r)
theorem Yi {a b:List aH}{U:List (List Int)}(hz:∀ z,z∈zs↔(.inr z:aH)∈a/\(.inr z:aH)∈b)(hR:∀ r∈R,∃ v,r=a.map (tv v)) :
  mI a b zs R (U.filter (iL b))=R.filter λr=>iM a b r U:=by
 unfold mI;refine List.filter_congr λr mr=>?_
 obtain⟨v,rfl⟩:=hR r mr;unfold iM rB;rw[hJ,List.contains_iff_mem,BI λz m=>((hz z).1 m).1,iF]
 constructor
 .intro m;obtain⟨r',m',e⟩:=bU.1 m;obtain⟨m1,m2⟩:=gC.1 m';obtain⟨u,rfl⟩:=Afn.1 m2;rw[BI λz m=>((hz z).1 m).2] at e
  exact⟨_,m1,by rw[m2,pA];exact Ayz.2 λz m1 m2=>List.map_inj_left.1 e z ((hz z).2 ⟨m1,m2⟩)⟩
 .rintro⟨r',m',e⟩;obtain⟨e1,e2⟩:=gE.1 e;obtain⟨u,rfl⟩:=Afn.1 e1;refine bU.2 ⟨_,gC.2 ⟨m',e1⟩,?_⟩;rw[BI λz m=>((hz z).1 m).2]
  exact mV λz m=>Ayz.1 e2 z ((hz z).1 m).1 ((hz z).1 m).2
theorem nr (n:Nat):dw (.int n) (.int 0)=aa (.bool (decide (0<n))):=by
 show aa (fA (decide ((n:Int) > 0)))=_
 congr 2
 rw[hJ,decide_eq_true_eq,decide_eq_true_eq]
 lia
theorem RD(ha:fF a)(hb:fF b)(hr:iL a.2 r=af)(U:List (List Int)):vJ [bD a,tI r,bD b,aX U]=aa (.bool (iM a.2 b.2 r U)):=by
 have a6:=ha.1;have b6:=hb.1;obtain⟨kn,hk⟩:=vY.1 hr;have ek:i9 a.2 r=kn:=by unfold i9;rw[hk];rfl
 have ly:pQ kn:=Pf ha.2 hk;have:∃ d,vJ [bD a,tI r,bD b,aX U]=aa d/\d=.bool (iM a.2 b.2 r U):=by
  rw[7];refine bT (d:=ax kn) (aT (aQ (aN rfl rfl rfl) rfl) ((uR a.2 r ()).trans (by rw[hk];rfl))) (by simp) ?_
  have fm:=yD (rB a.2 b.2 r) (λ_=>fA af) U
  refine xR (λY'=>∃ x y:L2.Slot,Y'=[s0 (bD a),s0 (tI r),s0 (bD b),s0 (aX U),s0 (ax kn),x,y]) (U.findSome? λu=>if rB a.2 b.2 r u=af then aa (.bool af) else ab) (sT (q:=bH) _ _ (dm (dE rfl)) ⟨ab,ab,rfl⟩ ?_) ?_ ?_
  .rintro u mu _ ⟨x,y,rfl⟩;refine⟨[s0 (bD a),s0 (tI r),s0 (bD b),s0 (aX U),s0 (ax kn),s0 (bH u),y],rfl,?_⟩;refine bT (aT (aQ (aN rfl rfl rfl) rfl) (uR b.2 u ())) (by simp) ?_
   have c:bV .s (dZ (ak (ah fJ (aB 6) (eC .none))) (ak (aJ tM (aC (aB 4) (aC (aB 6) aG))))) [s0 (bD a),s0 (tI r),s0 (bD b),s0 (aX U),s0 (ax kn),s0 (bH u),s0 (rU (cH b.2 u []))]=aa (rB a.2 b.2 r u):=by
    unfold rB iL i9;rw[hk];cases hf:cH b.2 u [] with
    |none=>exact kT (x:=ag) (y:=ag) rfl λh=>nomatch h
    |some more=>exact kT (x:=af) rfl λ_=>cF (aT rfl (Ay ly))
   cases hw:rB a.2 b.2 r u with
   |true=>
    rw[hw] at c;exact dC c (cJ rfl rfl)
   |false=>
    rw[hw] at c;exact eU c (gH ⟨_,.inl rfl,_,_,rfl⟩)
  .intro d hd;rw[fm] at hd;obtain⟨u,e,rfl⟩:=jR.1 hd;exact⟨_,rfl,by rw[iM,iF.2 ⟨u,wF e,NJ e⟩]⟩
  .rintro hz _ ⟨x,y,rfl⟩;rw[fm] at hz;refine cJ rfl ⟨_,rfl,?_⟩;have:=rJ.1 (tX.1 hz);rw[iM,EO.2 this]
 rw[1]
theorem Yd{P:Out->Prop}{j:Int}(h:f (vA Y)=aa d)(hf:fP 1 d=af)(hg:mF i Y=aa ds)(hk:g (vS Y)=aa (.int j))(hj:fg ds.length j=aa jn)(k:P (.nx (Y.set i (aa (2,.list (ds.set jn d)))))):Goes (sO i .a f .s g) Y P:=by
 refine⟨_,?_,k⟩;unfold sO;rw[qe h hf,bB,hg,bB];show((g (vS Y)).bind _)=_;rw[hk,bB];show((fg ds.length j).bind _)=_;rw[hj]
 rfl
theorem Pj{P:Out->Prop}(h:f (vS Y)=aa d)(hg:mF i Y=aa ds)(hl:ds.length<=1000)(k:P (.nx (Y.set i (aa (2,.list (ds++[d])))))):Goes (DJ i .s f) Y P:=⟨_,by
 unfold DJ;rw[show eV 1 .s f Y=aa d from h,bB,hg,bB,if_pos (nQ ())],k⟩
abbrev kS (kds:List (aA×aA))(ls:List Ln)(t:cG)(x3 x4 x5 x6 x7:L2.Slot):aP:=[s0 (.dict kds),s0 (aw ls),aa (2,au t),x3,x4,x5,x6,x7]
section
variable {B:aE->List (List Int)}
theorem Cf (b:Bk kds B wd)(hm:m<=1000)(h6:∀ t,(B t).length<=m)(L:Lok ls):∃ t:cG,CO [.dict kds,aw ls]=aa (au t)/\t.length=ls.length/\∀ k,(t.getD k []).length<=m:=by
 have n5:=L.n4;have:∃ d,CO [.dict kds,aw ls]=aa d/\∃ t:cG,d=au t/\t.length=ls.length/\∀ k,(t.getD k []).length<=m:=by
  rw[7];refine bT (d:=au []) rfl (by simp) ?_
  refine eG (λY'=>∃ x3 x4 x5:L2.Slot,Y'=kS kds ls (ls.map (gr B)) x3 x4 x5 ab ab) ?_ ?_
  .refine jG (xs:=ls) (q:=bD) (λar r=>ar) (λi (_:Unit) Y'=>∃ x3 x4 x5:L2.Slot,Y'=kS kds ls ((ls.take i).map (gr B)) x3 x4 x5 ab ab) (b0:=Unit.unit) (dm (jX rfl)) ⟨ab,ab,ab,rfl⟩ ?_ ?_
   .rintro i l _ _ hi ⟨x3,x4,x5,rfl⟩;have ml:=eX hi;have l6:=(L.ok l ml).1;have tk:ls.take (i+1)=ls.take i++[l]:=by rw[wC,hi];rfl
    refine⟨kS kds ls ((ls.take i).map (gr B)) (s0 (.str l.1)) (s0 (tK l.2)) x5 ab ab,rfl,?_⟩;have e:=dU (cap:=[ab,aa 4]) (fi:=ay (fW (aB 0) (aB 3) (cU aG))) (T:=gB 0) (t:=ak (ah fJ (aJ mO (aC (aB 1) (aC (aB 0) aG))) (eC .none))) (f:=aB 0) (Y:=vS (kS kds ls ((ls.take i).map (gr B)) (s0 (.str l.1)) (s0 (tK l.2)) x5 ab ab))
     (λr=>(cH l.2 r []).isSome) bH (dE (b.get rfl rfl)) (by have:=b.few l.1;lia) λr mr=>⟨[aa (bH r),aa (tK l.2)],rfl,by
      refine cF (aN (aT rfl (uR l.2 r ())) rfl ?_)
      cases cH l.2 r []<;>rfl,λ_=>rfl⟩
    refine bT e (by simp) (gG ?_)
    refine Pj (d:=aX (gr B l)) (aT rfl (Dg (b.pos l.1) (λr m=>b.wid l.1 r (gC.1 m).1) (EJ (oW _ _) (b.few l.1)))) rfl (by simp;lia) ⟨_,.inl rfl,s0 (.str l.1),s0 (tK l.2),s0 (aX ((B l.1).filter λr=>(cH l.2 r []).isSome)),?_⟩
    rw[show vX (((ls.take i).map (gr B)).map aX++[aX (gr B l)])=au ((ls.take (i+1)).map (gr B)) by rw[tk,au,gJ,gJ];rfl]
    rfl
   .rintro _ ⟨x3,x4,x5,rfl⟩;rw[rE];exact⟨_,rfl,x3,x4,x5,rfl⟩
  rintro _ ⟨x3,x4,x5,rfl⟩;have s2:=(qT (sX ls)).2;refine eG (λY'=>∃ (t:cG) (x6 x7:L2.Slot),(uB (ba ls) t/\t.length=ls.length/\∀ k,(t.getD k []).length<=m)/\Y'=kS kds ls t x3 x4 x5 x6 x7) ?_ ?_
  .refine jG (xs:=(cB ls).1) (q:=fX) (λar r=>ar) (λi (_:Unit) Y'=>∃ (t:cG) (x6 x7:L2.Slot),(uB (ba ls) t/\t.length=ls.length/\∀ k,(t.getD k []).length<=m)/\Y'=kS kds ls t x3 x4 x5 x6 x7) (b0:=Unit.unit) (dm (dE (aN (aT rfl (RV L.ok ())) rfl rfl))) ⟨_,ab,ab,⟨Lx ls,bR _,λk=>?_⟩,rfl⟩ ?_ λ_ ⟨t,x6,x7,h,e⟩=>⟨_,rfl,t,x6,x7,h,e⟩
   .rw[hG,fN];cases ls[k]? with
    |none=>exact eB _
    |some l=>exact cL (HE B l) (h6 l.1)
   rintro i q _ _ hq ⟨t,x6,x7,⟨g1,g2,g3⟩,rfl⟩;obtain⟨m1,m2⟩:=s2 q (eX hq);have k1:q.1<t.length:=by rw[g2];exact m1
   have k2:q.2<t.length:=by rw[g2];exact m2
   refine⟨kS kds ls t x3 x4 x5 (s0 (.int q.1)) (s0 (.int q.2)),rfl,?_⟩;have o1:=L.ok _ (getD_mem bo m1);have o2:=L.ok _ (getD_mem bo m2);have e:=dU (cap:=[ab,aa 1,aa 7,aa 6,aa 2]) (fi:=ay (ah ao (aB 2) (aB 7))) (T:=gB 0) (t:=ak (aJ vJ (aC (ah ao (aB 1) (aB 2)) (aC (aB 0) (aC (ah ao (aB 1) (aB 3)) (aC (ah ao (aB 4) (aB 3)) aG)))))) (f:=aB 0) (Y:=vA (kS kds ls t x3 x4 x5 (s0 (.int q.1)) (s0 (.int q.2))))
    (λr=>iM (ls.getD q.2 bo).2 (ls.getD q.1 bo).2 r (t.getD q.1 [])) bH (dE (aN rfl rfl (nK k2))) (by have:=g3 q.2;lia) λr mr=>⟨[aa (bH r),aa (aw ls),aa (.int q.2),aa (.int q.1),aa (au t)],rfl,cF (aT (aQ (aN rfl rfl (jZ m2)) (aQ rfl (aQ (aN rfl rfl (jZ m1)) (aQ (aN rfl rfl (nK k1)) rfl)))) (RD o2 o1 (Afn.2 (g1 q.2 r mr)) _)),λ_=>rfl⟩
   refine Yd (d:=aX ((t.getD q.2 []).filter λr=>iM (ls.getD q.2 bo).2 (ls.getD q.1 bo).2 r (t.getD q.1 []))) e (Ce _) rfl rfl (qM (by rw[bR];exact k2)) ⟨_,.inl rfl,t.set q.2 ((t.getD q.2 []).filter λr=>iM (ls.getD q.2 bo).2 (ls.getD q.1 bo).2 r (t.getD q.1 [])),_,_,⟨λk r mr=>?_,by rw[rG];exact g2,λk=>?_⟩,by rw[wY];rfl⟩
   .rw[vD k2] at mr;split at mr
    .rename_i e;rw[e];exact g1 q.2 r (gC.1 mr).1
    .exact g1 k r mr
   .rw[vD k2];split
    .exact cL (oW _ _) (g3 q.2)
    .exact g3 k
  rintro _ ⟨t,x6,x7,⟨_,g2,g3⟩,rfl⟩;exact GZ rfl ⟨_,rfl,t,rfl,g2,g3⟩
 obtain⟨d,e,t,rfl,h⟩:=this;exact⟨t,e,h⟩
end
def Cn (kn:Kn):Prop:=∀ p∈kn,bF kn p.1=aa p.2
theorem Ad {kn:Kn}(h:Cn kn)(z:aE)(v:Int):Cn (putN kn z v):=λp m=>by
 rw[JX];unfold putN at m;split at m
 .obtain⟨q,mq,e⟩:=bU.1 m;have:=h q mq
  grind
 .rcases dH.1 m with m|m
  .have:=h p m
   grind
  .cases cM.1 m;rw[if_pos rfl]
theorem BK:∀ {ps:List (aH×Int)} {kn az:Kn},Cn kn->eJ eT kn ps=aa az->Cn az
 |[],kn,az,h,e=>by cases e;exact h
 |(.inl i,v)::ps,kn,az,h,e=>by
  obtain⟨k1,e1,e2⟩:=aj (show((eT kn (.inl i,v)).bind λb'=>eJ eT b' ps)=aa az from e)
  have e1:(if v=i then aa kn else ab)=aa k1:=e1
  split at e1
  .cases e1;exact BK h e2
  .cases e1
 |(.inr z,v)::ps,kn,az,h,e=>by
  obtain⟨k1,e1,e2⟩:=aj (show((eT kn (.inr z,v)).bind λb'=>eJ eT b' ps)=aa az from e)
  have e1:(match bF kn z with|some u=>if v=u then aa kn else ab|none=>aa (kn++[(z,v)]))=aa k1:=e1
  cases hz:bF kn z with
  |none=>
   rw[hz] at e1;cases e1;have:=Ad h z v;unfold putN at this;rw[hz,if_neg (by simp)] at this
   exact BK this e2
  |some u=>
   rw[hz] at e1;dsimp only at e1;split at e1
   .cases e1;exact BK h e2
   .cases e1
theorem LW{kn:Kn}(h:cH ks r []=aa kn):Cn kn:=by
 unfold cH at h;exact BK (λ_ m=>by cases m) (xW h).2
def hV (more bz:Kn):Kn:=bz.foldl (λa p=>putN a p.1 p.2) more
theorem VF{V:aE->Int}:∀ (ps ar:Kn),(∀ p∈ps,p.2=V p.1)->bF (ps.foldl (λa p=>putN a p.1 p.2) ar) z=if z∈ps.map (·.1) then aa (V z) else bF ar z
 |[],ar,_=>by simp
 |p::ps,ar,h=>by
  rw[oX,VF ps _ (λq m=>h q (bN _ m)),JX]
  have:=h p bO
  grind
theorem BU {more bz:Kn}(h:Cn bz)(z:aE):bF (hV more bz) z=(bF bz z).or (bF more z):=by
 unfold hV;rw[VF (V:=eY bz) bz more λp m=>by unfold eY;rw[h p m];rfl]
 cases e:bF bz z with
 |none=>rw[if_neg (λq=>by obtain⟨w,e2⟩:=Afe.1 q;rw[e] at e2;cases e2)];rfl
 |some u=>rw[if_pos (Afe.2 ⟨u,e⟩)];unfold eY;rw[e];rfl
theorem LQ {more:Kn}(h:Cn more):∀ bz:Kn,Cn (hV more bz):=λbz=>by
 unfold hV;induction bz generalizing more with
 |nil=>exact h
 |cons p r ih=>exact ih (Ad h p.1 p.2)
theorem Xv {more:Kn}:∀ bz:Kn,(hV more bz).length<=more.length+bz.length:=λbz=>by
 unfold hV;induction bz generalizing more with
 |nil=>simp
 |cons p r ih=>
  have:=RP more p.1 p.2;have:=ih (more:=putN more p.1 p.2);rw[oX,fU]
  lia
theorem QG:∀ kn:Kn,mQ (DN kn)=aa (kn.map λp=>(.inr p.1,.int p.2))
 |[]=>rfl
 |p::kn=>by
  show((bM (.str p.1)).bind λk=>(mQ (DN kn)).bind λps=>aa ((k,bA p.2)::ps))=_
  rw[QG kn]
  rfl
theorem SQ:∀ kn more:Kn,jD (kn.map λp=>(.inr p.1,.int p.2)) (DN more)=DN (hV more kn)
 |[],_=>rfl
 |p::kn,more=>by
  show jD (kn.map λp=>(.inr p.1,.int p.2)) (putD (DN more) (.inr p.1) (.int p.2))=_
  rw[Ap];exact SQ kn _
theorem Lw{P:Out->Prop}{kn more:Kn}(h:f (vS Y)=aa (ax kn))(hg:lB i Y=aa (DN more))(hl:more.length+kn.length<=1000)(k:P (.nx (Y.set i (aa (1,ax (hV more kn)))))):Goes (pM i .s f) Y P:=⟨_,by
 unfold pM;rw[show eV 0 .s f Y=aa (.dict (DN kn)) from h,bB,hg,bB]
 show((mQ (DN kn)).bind λps=>if cz (DN kn)=af/\(DN more).length+(DN kn).length<=sizeLine then aa (Out.nx (Y.set i (aa (1,.dict (jD ps (DN more)))))) else ab)=_
 rw[QG,bB,if_pos ⟨ki kn,mK (by simp[DN];lia)⟩,SQ]
 rfl,k⟩
def h3 (kn:Kn)(ks:List aH)(r:List Int):Option Kn:=(cH ks r []).bind λmore=>if jb kn more=af then aa (hV more kn) else ab
def ext3 (br:List Kn)(ks:List aH)(ck:List (List Int)):List Kn:=br.flatMap λkn=>ck.filterMap (h3 kn ks)
def kP (ps:List LR):List Kn:=ps.foldl (λbr p=>ext3 br p.1.2 p.2) [[]]
theorem QP {kn az:Kn}(h:h3 kn ks r=aa az):∃ more,cH ks r []=aa more/\jb kn more=af/\az=hV more kn:=by
 obtain⟨more,e,h⟩:=aj h;obtain⟨a,b⟩:=xW h;cases b;exact⟨more,e,a,rfl⟩
theorem Ij {kn az:Kn}(ho:fF l)(h:h3 kn l.2 r=aa az)(c:Cn kn)(hl:kn.length<=n)(ly:pQ kn):Cn az/\az.length<=n+6/\pQ az:=by
 obtain⟨more,e,_,rfl⟩:=QP h;have l1:=HC e;have l2:=Xv (more:=more) kn;have:=ho.1;refine⟨LQ (LW e) kn,by simp at l1;lia,lay_of λz u q=>?_⟩
 rw[BU c] at q;cases e1:bF kn z with
 |some w=>
  obtain⟨p,mp,rfl⟩:=bU.1 (Afe.2 ⟨w,e1⟩);exact ly p mp
 |none=>
  rw[e1] at q;exact ho.2 _ (GX e q)
theorem UP:∀ (rest ji:List LR) (br:List Kn),(∀ kn∈br,Cn kn/\∀ p∈ji,qE kn (eY kn) p.1.2/\p.1.2.map (tv (eY kn))∈p.2)->∀ kn∈rest.foldl (λbr p=>ext3 br p.1.2 p.2) br,∀ p∈ji++rest,p.1.2.map (tv (eY kn))∈p.2
 |[],ji,br,h,kn,m=>λl ml=>((h kn m).2 l (by simpa using ml)).2
 |l::rest,ji,br,h,kn,m=>by
  have:=UP rest (ji++[l]) (ext3 br l.1.2 l.2) (λk1 m1=>by
   obtain⟨k0,m0,m1⟩:=wG.1 m1;obtain⟨r,mr,e0⟩:=rF.1 m1;obtain⟨more,e,tg,rfl⟩:=QP e0;obtain⟨c0,g0⟩:=h k0 m0;have u1:∀ z u,bF k0 z=aa u->bF (hV more k0) z=aa u:=λz u q=>by rw[BU c0,q];rfl
   have u2:∀ z u,bF more z=aa u->bF (hV more k0) z=aa u:=λz u q=>by
    rw[BU c0];cases e1:bF k0 z with
    |none=>exact q
    |some w=>rw[Atp.1 tg z u w e1 q];rfl
   refine⟨LQ (LW e) k0,λl' ml=>?_⟩
   rcases dH.1 ml with ml|ml
   .obtain⟨t1,t2⟩:=g0 l' ml;obtain⟨a,b⟩:=LM t1 u1;exact⟨a,by rw[b];exact t2⟩
   .cases cM.1 ml;obtain⟨e1,t1⟩:=SG e;obtain⟨a,b⟩:=LM t1 u2;exact⟨a,by rw[b,<-e1];exact mr⟩) kn m
  rwa [wI] at this
theorem WN:∀ (rest:List LR) (br:List Kn),(∃ kn∈br,Cn kn/\sS kn v)->(∀ p∈rest,p.1.2.map (tv v)∈p.2)->∃ kn∈rest.foldl (λbr p=>ext3 br p.1.2 p.2) br,sS kn v
 |[],br,⟨kn,m,_,a⟩,_=>⟨kn,m,a⟩
 |l::rest,br,⟨k0,m0,c0,a0⟩,h=>by
  refine WN rest (ext3 br l.1.2 l.2) ?_ λl' m=>h l' (bN _ m)
  obtain⟨e,t1,d1⟩:=GJ l.1.2 v;have a1:sS (i9 l.1.2 (l.1.2.map (tv v))) v:=λz u q=>by
   rw[t1 z (d1 z u q)] at q;cases q
   rfl
  have tg:jb k0 (i9 l.1.2 (l.1.2.map (tv v)))=af:=Atp.2 λz u w q1 q2=>by rw[a1 z u q2,a0 z w q1]
  refine⟨hV (i9 l.1.2 (l.1.2.map (tv v))) k0,wG.2 ⟨k0,m0,rF.2 ⟨_,h l bO,?_⟩⟩,LQ (LW e) k0,λz u q=>?_⟩
  .unfold h3;rw[e,bB,if_pos tg]
  .rw[BU c0] at q;cases e1:bF k0 z with
   |none=>rw[e1] at q;exact a1 z u q
   |some w=>rw[e1] at q;cases q;exact a0 z u e1
def AM (ps:List LR)(v:aE->Int):Prop:=∀ p∈ps,p.1.2.map (tv v)∈p.2
theorem Aqv {ps:List LR}:kP ps≠[] ↔ ∃ v,AM ps v:=by
 constructor
 .intro h;obtain⟨kn,m⟩:=Eo _ h;exact⟨eY kn,UP ps [] [[]] (λkn m=>by cases cM.1 m;exact⟨λ_ m=>(by cases m),λ_ m=>by cases m⟩) kn m⟩
 .rintro⟨v,h⟩;obtain⟨kn,m,_⟩:=WN ps [[]] ⟨[],cM.2 rfl,λ_ m=>(by cases m),λz u q=>by cases q⟩ h
  exact Ed m
theorem Aqp {ps:List LR}:jU ps≠[] ↔ ∃ v,AM ps v:=by
 constructor
 .intro h;obtain⟨kn,m⟩:=Eo _ h;exact⟨eY kn,λp mp=>(Yr _ kn m p mp).2⟩
 .rintro⟨v,h⟩;obtain⟨kn,m,_⟩:=WZ (v:=v) ps [[]] ⟨[],cM.2 rfl,λz u e=>by cases e⟩ h
  exact Ed m
theorem BZ {α β γ:Type}(f:α->β->Option γ)(ys:List β):∀ xs:List α,(xs.flatMap λx=>ys.filterMap (f x)).length<=xs.length*ys.length
 |[]=>by simp
 |x::xs=>by
  rw[Ek,jS,fU,MV];have:=BZ f ys xs;have:=wH (f x) ys
  lia
theorem Xr {α β:Type}(f:α->Option β){xs:List α}{x:α}(h:xs[i]?=aa x):(xs.take (i+1)).filterMap f=(xs.take i).filterMap f++(f x).toList:=by
 rw[wC,h,List.filterMap_append];show _++List.filterMap f [x]=_;cases e:f x<;>simp[e]
abbrev aS (ls:List Ln)(t:cG)(cs:List Nat)(W:List Kn)(x4 x5 x6 x7 x8:L2.Slot):aP:=[s0 (aw ls),s0 (au t),s0 (lN cs),s0 (.list (W.map ax)),x4,x5,x6,x7,x8]
abbrev aL (A:List Kn):L2.Slot:=aa (1,.list (A.map ax))
theorem Qf (ls:List Ln)(t:cG)(cs:List Nat)(W:List Kn){k:Nat}(hk:k<ls.length)(ho:fF (ls.getD k bo)){kn:Kn}(ly:pQ kn)(kl:kn.length<=100)(A:List Kn)(hA:A.length<10000)(x8:L2.Slot) :
  Goes (aO (bC 8 1 .s (aJ mO (aC (ah ao (ah ao (aB 0) (aB 4)) (eC (.int 1))) (aC (aB 7) aG))))
   (bt .a (dZ (ak (ah fJ (aB 8) (eC .none))) (ak (aJ tM (aC (aB 6) (aC (aB 8) aG))))) (aO (pM 8 .s (aB 6)) (fI 8 (gS 5 .s (aB 8)))) cQ))
   (aS ls t cs W (s0 (.int k)) (aL A) (s0 (ax kn)) (s0 (bH r)) x8) λo=>∃ Y2,(o=.nx Y2\/o=.ct Y2)/\∃ x8:L2.Slot,Y2=aS ls t cs W (s0 (.int k)) (aL (A++(h3 kn (ba ls k) r).toList)) (s0 (ax kn)) (s0 (bH r)) x8:=by
 have h6:(ba ls k).length<=6:=ho.1;refine bT (aT (aQ (xT hk rfl rfl) rfl) (uR (ba ls k) r ())) (by simp) ?_
 unfold h3;cases hf:cH (ba ls k) r [] with
 |none=>
  refine eU rfl (gH ⟨_,.inl rfl,aa (1,.none),?_⟩);rw[show((ab:Option (List (aE×Int))).bind λmore=>if jb kn more=af then aa (hV more kn) else ab).toList=[] from rfl,lY]
  rfl
 |some more=>
  have lm:=HC hf;have c:bV .a (dZ (ak (ah fJ (aB 8) (eC .none))) (ak (aJ tM (aC (aB 6) (aC (aB 8) aG))))) (aS ls t cs W (s0 (.int k)) (aL A) (s0 (ax kn)) (s0 (bH r)) (aa (1,ax more)))=aa (jb kn more):=kT (x:=af) rfl λ_=>cF (aT rfl (Ay ly))
  rw[bB];cases tg:jb kn more with
  |false=>
   rw[tg] at c;refine eU c (gH ⟨_,.inl rfl,aa (1,ax more),?_⟩);rw[if_neg nofun,show(ab:Option Kn).toList=[] from rfl,lY]
   rfl
  |true=>
   rw[tg] at c;rw[if_pos rfl];refine dC c (eG (λY'=>Y'=aS ls t cs W (s0 (.int k)) (aL A) (s0 (ax kn)) (s0 (bH r)) (aa (1,ax (hV more kn)))) (Lw rfl rfl (by simp at lm;lia) ⟨_,rfl,rfl⟩) ?_)
   rintro _ rfl;refine gG (qN (d:=ax (hV more kn)) (ds:=A.map ax) rfl rfl (by rw[bR];lia) ⟨_,.inl rfl,s0 (ax (hV more kn)),?_⟩)
   rw[show A.map ax++[ax (hV more kn)]=(A++(aa (hV more kn)).toList).map ax by rw[gJ];rfl]
   rfl
def jo (ls:List Ln)(t:cG)(cs:List Nat):List LR:=cs.map λk=>(ls.getD k bo,t.getD k [])
theorem WI(m1:1<=m)(ho:∀ l∈ls,fF l){t:cG}(ht:t.length=ls.length)(h6:∀ k,(t.getD k []).length<=m){cs:List Nat}(hc:∀ k∈cs,k<ls.length)(c5:cs.length<=5)(hm:m^cs.length<=4096):yR [aw ls,au t,lN cs]=aa (.bool (decide (kP (jo ls t cs)≠[]))):=by
 have:∃ d,yR [aw ls,au t,lN cs]=aa d/\d=.bool (decide (kP (jo ls t cs)≠[])):=by
  rw[7];refine bT (d:=.list ([[]].map ax)) rfl (by simp) ?_
  refine eG (λY'=>∃ x4 x5 x6 x7 x8:L2.Slot,Y'=aS ls t cs (kP (jo ls t cs)) x4 x5 x6 x7 x8) ?_ ?_
  .refine jG (xs:=cs) (q:=λ(k:Nat)=>bA k) (λar r=>ar) (λi (_:Unit) Y'=>((∀ kn∈kP (jo ls t (cs.take i)),Cn kn/\kn.length<=6*i/\pQ kn)/\(kP (jo ls t (cs.take i))).length<=m^i)/\∃ x4 x5 x6 x7 x8:L2.Slot,Y'=aS ls t cs (kP (jo ls t (cs.take i))) x4 x5 x6 x7 x8) (b0:=Unit.unit) (dm (dE rfl)) ⟨⟨λkn m=>by cases cM.1 m;exact⟨λ_ m=>(by cases m),by simp,λ_ m=>by cases m⟩,by simp[kP,jo]⟩,ab,ab,ab,ab,ab,rfl⟩ ?_ ?_
   .rintro i k _ _ hi ⟨⟨hk,hn⟩,x4,x5,x6,x7,x8,rfl⟩;have kl:=hc k (eX hi);have il:=(cW.1 hi).1;have hl:=ho _ (getD_mem bo kl);have tk:kP (jo ls t (cs.take (i+1)))=ext3 (kP (jo ls t (cs.take i))) (ba ls k) (t.getD k []):=by
     unfold kP jo;rw[wC,hi,gJ,NI]
     rfl
    rw[tk];generalize kP (jo ls t (cs.take i))=W at *;have mi:m^i*m<=4096:=by
     rw[<-vZ];exact cL (MW m1 ()) hm
    have mm:m<=4096:=cL (Nat.le_mul_of_pos_left m (Nat.pow_pos m1)) mi;have wl:W.length*(t.getD k []).length<=m^i*m:=EH hn (h6 _);refine⟨aS ls t cs W (s0 (.int k)) x5 x6 x7 x8,rfl,?_⟩;refine bT (d:=.list []) rfl (by simp) ?_
    refine eG (λY'=>∃ x6 x7 x8:L2.Slot,Y'=aS ls t cs W (s0 (.int k)) (aL (ext3 W (ba ls k) (t.getD k []))) x6 x7 x8) ?_ ?_
    .refine jG (xs:=W) (q:=ax) (λar r=>ar) (λj (_:Unit) Y'=>∃ x6 x7 x8:L2.Slot,Y'=aS ls t cs W (s0 (.int k)) (aL (ext3 (W.take j) (ba ls k) (t.getD k []))) x6 x7 x8) (b0:=Unit.unit) (dm (dE rfl)) ⟨x6,x7,x8,rfl⟩ ?_ ?_
     .rintro j kn _ _ hj ⟨y6,y7,y8,rfl⟩;obtain⟨_,yy,ly⟩:=hk kn (eX hj);have e1:ext3 (W.take (j+1)) (ba ls k) (t.getD k [])=ext3 (W.take j) (ba ls k) (t.getD k [])++(t.getD k []).filterMap (h3 kn (ba ls k)):=by
       unfold ext3;rw[wC,hj,List.flatMap_append];simp
      have al:(ext3 (W.take j) (ba ls k) (t.getD k [])).length<=4096:=by
       refine cL (BZ _ _ _) (cL (Nat.mul_le_mul_right _ ?_) (cL wl mi));rw[EK];lia
      generalize ext3 (W.take j) (ba ls k) (t.getD k [])=A at e1 al;refine⟨aS ls t cs W (s0 (.int k)) (aL A) (s0 (ax kn)) y7 y8,rfl,?_⟩;refine jG (xs:=t.getD k []) (q:=bH) (λar r=>ar) (λq (_:Unit) Y'=>∃ x7 x8:L2.Slot,Y'=aS ls t cs W (s0 (.int k)) (aL (A++((t.getD k []).take q).filterMap (h3 kn (ba ls k)))) (s0 (ax kn)) x7 x8) (b0:=Unit.unit) (dm (dE (aN rfl rfl (nK (by rw[ht];exact kl))))) ⟨y7,y8,by simp⟩ ?_ ?_
      .rintro q r _ _ hq ⟨z7,z8,rfl⟩;have bl:(((t.getD k []).take q).filterMap (h3 kn (ba ls k))).length<=4096:=cL (wH _ _) (by rw[EK];have:=h6 k;lia)
       refine⟨aS ls t cs W (s0 (.int k)) (aL (A++((t.getD k []).take q).filterMap (h3 kn (ba ls k)))) (s0 (ax kn)) (s0 (bH r)) z8,rfl,?_⟩;refine(Qf ls t cs W kl hl ly () _ (by rw[jS];lia) z8).mono ?_
       rintro o ⟨Y2,ho,x8,rfl⟩;exact⟨_,ho,_,x8,by rw[Xr (h3 kn (ba ls k)) hq,wI]⟩
      .rintro _ ⟨z7,z8,rfl⟩;rw[rE,<-e1];exact⟨_,.inl rfl,_,_,_,rfl⟩
     .rintro _ ⟨y6,y7,y8,rfl⟩;rw[rE];exact⟨_,rfl,_,_,_,rfl⟩
    rintro _ ⟨y6,y7,y8,rfl⟩;refine gG (sU rfl (by simp[frz]) ⟨_,.inl rfl,⟨λaz m'=>?_,cL (BZ _ _ _) wl⟩,_,_,_,_,_,rfl⟩)
    obtain⟨kn,mk,m2⟩:=wG.1 m';obtain⟨r,_,e⟩:=rF.1 m2;obtain⟨c,yy,ly⟩:=hk kn mk;obtain⟨c',E6,E7⟩:=Ij hl e c yy ly;exact⟨c',(),E7⟩
   .rintro _ ⟨_,x4,x5,x6,x7,x8,rfl⟩;rw[rE];exact⟨_,rfl,_,_,_,_,_,rfl⟩
  rintro _ ⟨x4,x5,x6,x7,x8,rfl⟩;refine cJ (aN (aT rfl (kN _)) rfl (by rw[bR];exact nr _)) ⟨_,rfl,?_⟩
  congr 1
  rw[hJ,decide_eq_true_eq,decide_eq_true_eq,List.length_pos_iff]
 rw[1]
def oC:List (List (List Int))->Nat
 |[]=>1
 |R::r=>max 1 R.length*oC r
theorem UH:∀ (Rs:List (List (List Int))) (a:Int),Rs.foldl (λa R=>a*((max 1 R.length:Nat):Int)) a=a*(oC Rs:Int)
 |[],a=>by simp[oC]
 |R::r,a=>by
  rw[oX,UH r];show _=a*((max 1 R.length*oC r:Nat):Int);rw[Ep,Int.mul_assoc]
theorem Cc(hm:1<=m):∀ {Rs:List (List (List Int))},(∀ R∈Rs,R.length<=m)->oC Rs<=m^Rs.length
 |[],_=>bI _
 |R::r,h=>by
  rw[fU,vZ,Nat.mul_comm];exact EH (by have:=h R bO;lia) (Cc hm λR m=>h R (bN _ m))
theorem Ss {Rs:List (List (List Int))}(hB:∀ R∈Rs,R.length<=1000):CH [.list (Rs.map aX)]=aa (.int (oC Rs)):=by
 have:∃ d,CH [.list (Rs.map aX)]=aa d/\d=.int (oC Rs):=by
  rw[7];refine bT rfl (by simp) ?_
  refine eG (λY'=>∃ x3:L2.Slot,Y'=[s0 (.list (Rs.map aX)),s0 (.int (oC Rs)),x3]) ?_ ?_
  .refine jG (λa R=>a*((max 1 R.length:Nat):Int)) (λi a Y'=>∃ x3:L2.Slot,Y'=[s0 (.list (Rs.map aX)),s0 (.int a),x3]) (dm (dE rfl)) ⟨ab,rfl⟩ ?_ ?_
   .rintro i R a _ hx ⟨x3,rfl⟩;refine⟨[s0 (.list (Rs.map aX)),s0 (.int a),s0 (aX R)],rfl,?_⟩;have nh:=hB R (eX hx);have em:rA [.int 1,.int (R.map bH).length]=aa (.int ((max 1 R.length:Nat):Int)):=by
     show aa (bA (if ((R.map bH).length:Int) > 1 then((R.map bH).length:Int) else 1))=_
     rw[bR]
     congr 2
     split<;>lia
    have hf:(((max 1 R.length:Nat):Int)).natAbs<2^64:=()
    exact sU (aN rfl (aT (aQ rfl (aQ (aT rfl (kN _)) rfl)) em) (mul_r hf)) (by simp) ⟨_,.inl rfl,_,rfl⟩
   .rintro _ ⟨x3,rfl⟩;rw[UH,Int.one_mul];exact⟨_,rfl,x3,rfl⟩
  rintro _ ⟨x3,rfl⟩;exact cJ rfl ⟨_,rfl,rfl⟩
 rw[1]
theorem Yn {Rs:List (List (List Int))}(hB:∀ R∈Rs,R.length<=1000)(hw:oC Rs<=4096):ZI [.list (Rs.map aX)]=aa .none:=by
 have c:bV .s (ak (ah dw (aJ CH (aC (aB 0) aG)) (eC (.int 4096)))) [s0 (.list (Rs.map aX))]=aa ag:=cF (aN (aT rfl (Ss hB)) rfl (by
  show aa (fA (decide ((oC Rs:Int) > 4096)))=_;rw[decide_eq_false ()]))
 show outD (CW [s0 (.list (Rs.map aX))])=_;unfold CW;rw[nG c]
 rfl
theorem Ae:∀ (ls:List Ln) (t:cG),wB pairD (ls.map bD) (t.map aX)=(ls.zip t).map λp=>pairD (bD p.1) (aX p.2)
 |[],_=>by simp
 |_::_,[]=>by simp
 |l::ls,R::t=>by
  rw[cT,cT,List.zipWith_cons_cons,NB,cT,Ae ls t]
theorem OQ {fa fb:EF}{Y:List (Option aA)}{t:cG}(h1:fa Y=aa (aw ls))(h2:fb Y=aa (au t)):iZ (aC fa (aC fb aG)) Y=aa ((ls.zip t).map λp=>pairD (bD p.1) (aX p.2)):=by
 unfold iZ;rw[aQ h1 (aQ h2 rfl),<-Ae]
 rfl
def fO (ls:List Ln)(t:cG):cG:=(ls.zip t).map λp=>p.2.filter (iL p.1.2)
theorem Os(ho:∀ l∈ls,fF l)(hn:ls.length<=5){t:cG}(ht:∀ R∈t,R.length<=1000):LG [aw ls,au t]=aa (au (fO ls t)):=by
 have lz:(ls.zip t).length<=5:=by rw[oV];lia
 have e:=dU (cap:=[ab,ab]) (fi:=iZ (aC (aB 0) (aC (aB 1) aG))) (T:=jy 0 1) (t:=cN) (f:=bu [ab,aa 0] (ay (aB 1)) (gB 0) (ak (ah fJ (aJ nL (aC (aB 1) (aC (aB 0) (aC (eC (.dict [])) aG)))) (eC .none))) (aB 0)) (Y:=vS [s0 (aw ls),s0 (au t)]) (xs:=ls.zip t) (λ_=>af) (λp=>aX (p.2.filter (iL p.1.2))) (OQ rfl rfl) () λp mp=>⟨[aa (bD p.1),aa (aX p.2)],rfl,rfl,λ_=>by
  have m1:=(wD (show(p.1,p.2)∈ls.zip t from mp)).1
  have m2:=(wD (show(p.1,p.2)∈ls.zip t from mp)).2
  have h6:=(ho _ m1).1;exact dU (cap:=[ab,aa 0]) (fi:=ay (aB 1)) (T:=gB 0) (t:=ak (ah fJ (aJ nL (aC (aB 1) (aC (aB 0) (aC (eC (.dict [])) aG)))) (eC .none))) (f:=aB 0) (Y:=[aa (bD p.1),aa (aX p.2)]) (xs:=p.2) (q:=bH) (iL p.1.2) bH (dE rfl) (by have:=ht _ m2;lia) λr _=>⟨[aa (bH r),aa (bD p.1)],rfl,by
   refine cF (aN (aT rfl (xS (.str p.1.1) p.1.2 r [] () (by simp))) rfl ?_)
   unfold iL;cases cH p.1.2 r []<;>rfl,λ_=>rfl⟩⟩
 rw[iK.2 λ_ _=>rfl] at e
 have:∃ d,LG [aw ls,au t]=aa d/\d=au (fO ls t):=dB rfl (cJ e ⟨_,rfl,by unfold au fO;rw[eE];rfl⟩)
 rw[1]
def jL (B:aE->List (List Int))(ls:List Ln)(t:cG):cG:=(ls.zip t).map λp=>(gr B p.1).filter λr=>decide (r∉p.2)
def kO (B:aE->List (List Int))(ls:List Ln)(t:cG):cG:=(cB ls).1.foldl (λL q=>L.set q.2 (mI (ba ls q.2) (ba ls q.1) (pd ls q.2 q.1) (L.getD q.2 []) ((fO ls t).getD q.1 []))) (jL B ls t)
section
variable {B:aE->List (List Int)}
theorem sH {α β:Type}{xs:List α}{ys:List β}(h:ys.length=xs.length){k:Nat}(hk:k<xs.length)(d:α)(e:β){γ:Type}(f:α×β->γ)(g:γ):((xs.zip ys).map f).getD k g=f (xs.getD k d,ys.getD k e):=by
 have hy:k<ys.length:=()
 have hz:k<(xs.zip ys).length:=by rw[oV];lia
 rw[hG,fN,eR hz,Ei,hG,hG,eR hk,eR hy]
 rfl
theorem Nb (b:Bk kds B wd)(L:Lok ls){t:cG}(hl:t.length=ls.length)(ht:∀ R∈t,R.length<=1000):CZ [.dict kds,aw ls,au t]=aa (au (kO B ls t)):=by
 have n5:=L.n4;have s2:=(qT (sX ls)).2;have lz:(ls.zip t).length=ls.length:=by rw[oV];lia
 have e:=dU (cap:=[ab,ab,aa 0]) (fi:=iZ (aC (aB 1) (aC (aB 2) aG))) (T:=jy 0 1) (t:=cN) (f:=bu [ab,aa 1] (ay (aJ yI (aC (aB 2) (aC (aB 0) aG)))) (gB 0) (ak (ah (dy af) (aB 0) (aB 1))) (aB 0)) (Y:=vS [s0 (.dict kds),s0 (aw ls),s0 (au t),ab,ab,ab,ab]) (xs:=ls.zip t) (λ_=>af) (λp=>aX ((gr B p.1).filter λr=>decide (r∉p.2))) (OQ rfl rfl) () λp mp=>⟨[aa (bD p.1),aa (aX p.2),aa (.dict kds)],rfl,rfl,λ_=>by
  have m1:=(wD (show(p.1,p.2)∈ls.zip t from mp)).1
  have h6:=(L.ok _ m1).1;exact dU (cap:=[ab,aa 1]) (fi:=ay (aJ yI (aC (aB 2) (aC (aB 0) aG)))) (T:=gB 0) (t:=ak (ah (dy af) (aB 0) (aB 1))) (f:=aB 0) (Y:=[aa (bD p.1),aa (aX p.2),aa (.dict kds)]) (xs:=gr B p.1) (q:=bH) (λr=>decide (r∉p.2)) bH (dE (aT rfl (Ry b h6))) (by have:=HE B p.1;have:=b.few p.1.1;lia) λr _=>⟨[aa (bH r),aa (aX p.2)],rfl,cF (aN rfl rfl ((HS af r p.2).trans (by by_cases h:r∈p.2<;>simp[h]))),λ_=>rfl⟩⟩
 rw[iK.2 λ_ _=>rfl] at e
 have:∃ d,CZ [.dict kds,aw ls,au t]=aa d/\d=au (kO B ls t):=by
  rw[7];refine bT (d:=au (jL B ls t)) (e.trans (by unfold au jL;rw[eE];rfl)) (by simp) ?_
  refine bT (aT rfl (Os L.ok n5 ht)) (by simp) ?_
  refine eG (λY'=>∃ x5 x6:L2.Slot,Y'=[s0 (.dict kds),s0 (aw ls),s0 (au t),aa (1,au (kO B ls t)),s0 (au (fO ls t)),x5,x6]) ?_ ?_
  .refine jG (xs:=(cB ls).1) (q:=fX) (λU q=>U.set q.2 (mI (ba ls q.2) (ba ls q.1) (pd ls q.2 q.1) (U.getD q.2 []) ((fO ls t).getD q.1 []))) (λ_ U Y'=>(uB (ba ls) U/\U.length=ls.length/\∀ k,(U.getD k []).length<=1000)/\∃ x5 x6:L2.Slot,Y'=[s0 (.dict kds),s0 (aw ls),s0 (au t),aa (1,au U),s0 (au (fO ls t)),x5,x6]) (dm (dE ?_)) ⟨⟨?_,by unfold jL;rw[bR,lz],?_⟩,ab,ab,rfl⟩ ?_ ?_
   .show((aJ sL (aC (aB 1) aG)) (vS [s0 (.dict kds),s0 (aw ls),s0 (au t),aa (1,au (jL B ls t)),s0 (au (fO ls t)),ab,ab])).bind (xn 0)=_;rw[aT rfl (QC L.ok ())]
    rfl
   .intro k r mr;by_cases hk:k<ls.length
    .unfold jL at mr;rw[sH hl hk bo []] at mr;exact(An7.1 (gC.1 mr).1).2
    .rw[hG,zQ (by unfold jL;rw[bR,lz];lia)] at mr
     exact nomatch mr
   .intro k;by_cases hk:k<ls.length
    .unfold jL;rw[sH hl hk bo []];exact cL (oW _ _) (cL (HE _ _) (pY (jK (b.few _) nofun)))
    .rw[hG,zQ (by unfold jL;rw[bR,lz];lia)]
     exact eB _
   .rintro i q U _ hq ⟨⟨g1,g2,g3⟩,x5,x6,rfl⟩;obtain⟨m1,m2⟩:=s2 q (eX hq);have k2:q.2<U.length:=by rw[g2];exact m2
    have lo:(fO ls t).length=ls.length:=by unfold fO;rw[bR,lz]
    have k1:q.1<(fO ls t).length:=by rw[lo];exact m1
    have fo:∀ r∈(fO ls t).getD q.1 [],∃ v,r=(ba ls q.1).map (tv v):=λr mr=>by
     unfold fO at mr;rw[sH hl m1 bo []] at mr;exact Afn.1 (gC.1 mr).2
    have lf:((fO ls t).getD q.1 []).length<=1000:=by
     unfold fO;rw[sH hl m1 bo []];exact cL (oW _ _) (ht _ (getD_mem [] (by rw[hl];exact m1)))
    refine⟨[s0 (.dict kds),s0 (aw ls),s0 (au t),aa (1,au U),s0 (au (fO ls t)),s0 (.int q.1),s0 (.int q.2)],rfl,?_⟩;have ep:=Rv (L.ok _ (getD_mem bo m2)) (L.ok _ (getD_mem bo m1)) (g1 q.2) fo (g3 _) lf;have es:Goes (AZ 3 .a (aJ CY (aC (ah ao (aB 1) (aB 6)) (aC (ah ao (aB 3) (aB 6)) (aC (ah ao (aB 1) (aB 5)) (aC (ah ao (aB 4) (aB 5)) aG))))) .s (aB 6)) [s0 (.dict kds),s0 (aw ls),s0 (au t),aa (1,au U),s0 (au (fO ls t)),s0 (.int q.1),s0 (.int q.2)] λo=>o=.nx [s0 (.dict kds),s0 (aw ls),s0 (au t),aa (1,au (U.set q.2 (mI (ba ls q.2) (ba ls q.1) (pd ls q.2 q.1) (U.getD q.2 []) ((fO ls t).getD q.1 [])))),s0 (au (fO ls t)),s0 (.int q.1),s0 (.int q.2)]:=by
     refine⟨_,?_,rfl⟩;unfold AZ;rw[qe (aT (aQ (aN rfl rfl (jZ m2)) (aQ (aN rfl rfl (nK k2)) (aQ (aN rfl rfl (jZ m1)) (aQ (aN rfl rfl (nK k1)) rfl)))) ep) (Ce _),bB];show((fg (U.map aX).length (q.2:Int)).bind _)=_;rw[qM (by rw[bR];exact k2),bB,wY]
     rfl
    obtain⟨o,eo,rfl⟩:=es;refine⟨_,eo,_,.inl rfl,⟨λk r mr=>?_,by rw[rG];exact g2,λk=>?_⟩,_,_,rfl⟩
    .rw[vD k2] at mr;split at mr
     .rename_i e;rw[e];exact g1 q.2 r (Alk.subset mr)
     .exact g1 k r mr
    .rw[vD k2];split
     .exact cL Alk.length_le (g3 q.2)
     .exact g3 k
   .rintro _ ⟨_,x5,x6,rfl⟩;exact⟨_,rfl,x5,x6,rfl⟩
  rintro _ ⟨x5,x6,rfl⟩;exact GZ rfl ⟨_,rfl,rfl⟩
 rw[1]
end
def jT (ls:List Ln)(t:cG)(k:Nat)(r:List Int):Bool:=iL (ba ls k) r&&(decide (r∉t.getD k [])&&decide (((((cB ls).1.filter λq=>decide (q.2=k)).map (·.1)).filter λj=>!iM (ba ls k) (ba ls j) r (t.getD j [])).length=0))
def wM (B:aE->List (List Int))(ls:List Ln)(t:cG):Prop:=∃ k,k<ls.length/\∃ r∈B (ls.getD k bo).1,jT ls t k r=af
theorem A1j{t:cG}{k:Nat}:jT ls t k r=af↔iL (ba ls k) r=af/\r∉t.getD k []/\∀ q∈(cB ls).1,q.2=k->iM (ba ls k) (ba ls q.1) r (t.getD q.1 [])=af:=by
 unfold jT;rw[tZ,tZ,decide_eq_true_eq,decide_eq_true_eq,EM,List.filter_eq_nil_iff];refine and_congr_right λ_=>and_congr_right λ_=>⟨λh q mq e=>?_,λh j mj=>?_⟩
 .have:=h q.1 (bU.2 ⟨q,gC.2 ⟨mq,decide_eq_true e⟩,rfl⟩);simpa using this
 .obtain⟨q,mq,rfl⟩:=bU.1 mj;obtain⟨m1,m2⟩:=gC.1 mq;rw[h q m1 (of_decide_eq_true m2)];simp
section
variable {B:aE->List (List Int)}{t:cG}
theorem VH (hl:t.length=ls.length):∀ (es:List (Nat×Nat)) (U:cG),(∀ q∈es,q.1<ls.length/\q.2<ls.length)->U.length=ls.length->uB (ba ls) U->∀ k r,r∈(es.foldl (λL q=>L.set q.2 (mI (ba ls q.2) (ba ls q.1) (pd ls q.2 q.1) (L.getD q.2 []) ((fO ls t).getD q.1 []))) U).getD k []↔r∈U.getD k []/\∀ q∈es,q.2=k->iM (ba ls k) (ba ls q.1) r (t.getD q.1 [])=af
 |[],U,_,_,_,k,r=>by simp
 |q::es,U,h,hU,hf,k,r=>by
  obtain⟨m1,m2⟩:=h q bO;have k2:q.2<U.length:=by rw[hU];exact m2
  have eo:(fO ls t).getD q.1 []=(t.getD q.1 []).filter (iL (ba ls q.1)):=by
   unfold fO;rw[sH hl m1 bo []]
   rfl
  have ep:mI (ba ls q.2) (ba ls q.1) (pd ls q.2 q.1) (U.getD q.2 []) ((fO ls t).getD q.1 [])=(U.getD q.2 []).filter λr=>iM (ba ls q.2) (ba ls q.1) r (t.getD q.1 []):=by
   rw[eo];exact Yi (Kv ls q.2 q.1) (hf q.2)
  rw[oX,VH hl es _ (λx m=>h x (bN _ m)) (by rw[rG];exact hU) (λj r mr=>by
   rw[vD k2] at mr;split at mr
   .rename_i e;rw[e];exact hf q.2 r (Alk.subset mr)
   .exact hf j r mr),ep,vD k2]
  by_cases e:k=q.2
  .rw[if_pos e,gC,e];constructor
   .rintro⟨⟨a,b⟩,c⟩;exact⟨a,λx mx ex=>(cZ.1 mx).elim (λz=>by rw[z];exact b) λz=>c x z ex⟩
   .rintro⟨a,c⟩;exact⟨⟨a,c q bO rfl⟩,λx mx=>c x (bN _ mx)⟩
  .rw[if_neg e];refine and_congr_right λ_=>⟨λc x mx ex=>(cZ.1 mx).elim (λz=>absurd (by rw[<-ex,z]) e) λz=>c x z ex,λc x mx=>c x (bN _ mx)⟩
theorem Xo (hl:t.length=ls.length):(kO B ls t).any (λR=>decide (0<R.length))=af↔wM B ls t:=by
 have s2:=(qT (sX ls)).2;have lz:(ls.zip t).length=ls.length:=by rw[oV];lia
 have l0:(jL B ls t).length=ls.length:=by unfold jL;rw[bR,lz]
 have f0:uB (ba ls) (jL B ls t):=λk r mr=>by
  by_cases hk:k<ls.length
  .unfold jL at mr;rw[sH hl hk bo []] at mr;exact(An7.1 (gC.1 mr).1).2
  .rw[hG,zQ ()] at mr
   exact nomatch mr
 have len:∀ (es:List (Nat×Nat)) (U:cG),(es.foldl (λL q=>L.set q.2 (mI (ba ls q.2) (ba ls q.1) (pd ls q.2 q.1) (L.getD q.2 []) ((fO ls t).getD q.1 []))) U).length=U.length:=λes=>by
  induction es with
  |nil=>exact λU=>rfl
  |cons q es ih=>exact λU=>by rw[oX,ih,rG]
 have key:∀ {k},k<ls.length->∀ r,r∈(kO B ls t).getD k []↔r∈B (ls.getD k bo).1/\jT ls t k r=af:=λ{k} hk r=>by
  unfold kO;rw[VH hl _ _ (λq m=>s2 q m) l0 f0,A1j]
  unfold jL;rw[sH hl hk bo [],gC,An7,decide_eq_true_eq,<-Afn];exact⟨λ⟨⟨⟨a,b⟩,c⟩,d⟩=>⟨a,b,c,d⟩,λ⟨a,b,c,d⟩=>⟨⟨⟨a,b⟩,c⟩,d⟩⟩
 have lu:(kO B ls t).length=ls.length:=(len _ _).trans l0;rw[iF];constructor
 .rintro⟨R,mR,h⟩;obtain⟨k,hk,rfl⟩:=rH mR;obtain⟨r,mr⟩:=b9.1 (of_decide_eq_true h);rw[lu] at hk;exact⟨k,hk,r,(key hk r).1 (by rw[hG,eR ()];exact mr)⟩
 .rintro⟨k,hk,r,h⟩;exact⟨_,getD_mem [] (by rw[lu];exact hk),decide_eq_true (b9.2 ⟨r,(key hk r).2 h⟩)⟩
theorem XA {lf:Nat->List aH}{R:Nat->Prop}:∀ {pre post:List (Nat×Nat)} {q:Nat×Nat} {S:Nat->Prop},xA lf S (pre++q::post) R->q.2≠q.1/\∀ x∈post,x.2≠q.1
 |[],post,q,S,h=>⟨λe=>h.1.2.2.1 e.symm,λx mx=>((qT h.2).2 x mx).2.2⟩
 |p::pre,post,q,S,h=>XA (pre:=pre) h.2
theorem Tf (hE:¬ wM B ls t)(hv:∀ k,k<ls.length->(ba ls k).map (tv v)∈B (ls.getD k bo).1):AM (jV ls t) v:=by
 have s:=qT (sX ls);have one:∀ k,k<ls.length->(∀ q∈(cB ls).1,q.2=k->(ba ls q.1).map (tv v)∈t.getD q.1 [])->(ba ls k).map (tv v)∈t.getD k []:=λk hk h=>by
  refine tY λhn=>hE ⟨k,hk,_,hv k hk,A1j.2 ⟨Afn.2 ⟨v,rfl⟩,hn,λq mq e=>?_⟩⟩
  unfold iM rB;exact iF.2 ⟨_,h q mq e,by rw[Afn.2 ⟨v,rfl⟩,pA];exact Ayz.2 λz _ _=>rfl⟩
 have all:∀ i,i<=(cB ls).1.length->∀ q∈(cB ls).1.take i,(ba ls q.1).map (tv v)∈t.getD q.1 []:=λi=>by
  induction i with
  |zero=>exact λ_ q m=>nomatch m
  |succ i ih=>
   intro hi q mq;have hq:(cB ls).1[i]?=aa (cB ls).1[i]:=eR ()
   rw[wC,hq] at mq;rcases dH.1 mq with mq|mq
   .exact ih () q mq
   .have eq:q=(cB ls).1[i]:=cM.1 mq;have sp:(cB ls).1=(cB ls).1.take i++(cB ls).1[i]::(cB ls).1.drop (i+1):=by rw[<-NM (),List.take_append_drop]
    have ap:=XA (sp ▸ sX ls);rw[<-eq] at ap;have mem:q∈(cB ls).1:=by rw[eq];exact kH _
    refine one q.1 (s.2 q mem).1 λx mx e=>?_
    rw[sp] at mx;rcases dH.1 mx with mx|mx
    .exact ih () x mx
    .rcases cZ.1 mx with z|mx
     .rw[<-eq] at z;exact absurd (by rw[<-e,z]) ap.1
     .exact absurd e (ap.2 x mx)
 rintro p mp;obtain⟨k,mk,rfl⟩:=bU.1 mp;exact one k (uS mk) λq mq _=>all _ (bI _) q (by rw[rE];exact mq)
end
open Classical in
def jB (B:aE->List (List Int))(ls:List Ln)(t:cG):Bool:=decide (t.length=ls.length/\¬ wM B ls t/\¬ ∃ v,AM (jV ls t) v)
theorem Mg (ls:List Ln)(t:cG):jo ls t (cB ls).2=jV ls t:=rfl
section
variable {B:aE->List (List Int)}
open Classical in
theorem Aa{t:cG}(h:t.length≠ls.length):jB B ls t=ag:=by
 unfold jB;exact decide_eq_false λz=>h z.1
open Classical in
theorem Qs (b:Bk kds B wd)(m1:1<=m)(L:Lok ls)(hm:m^ls.length<=4096){t:cG}(h6:∀ k,(t.getD k []).length<=m)(m9:m<=1000)(t9:t.length<=1000):DC [.dict kds,aw ls,au t]=aa (.bool (jB B ls t)):=by
 have n5:=L.n4;have s2:=(qT (sX ls)).2;have:∃ d,DC [.dict kds,aw ls,au t]=aa d/\d=.bool (jB B ls t):=by
  rw[7];have c0:bV .s (ak (ah dg (aJ bG (aC (aB 2) aG)) (aJ bG (aC (aB 1) aG)))) [s0 (.dict kds),s0 (aw ls),s0 (au t),ab,ab,ab,ab,ab]=aa (decide (t.length≠ls.length)):=cF (aN (aT rfl ((kN _).trans (by rw[bR]))) (aT rfl (by rw[lM,bR])) (qh _ _))
  by_cases hl:t.length=ls.length
  .refine gX (nG (c0.trans (by rw[decide_eq_false λz=>z hl]))) ?_
   refine RC (aT rfl (RV L.ok ())) rfl ?_
   have fm:=yD (λk=>(B (ls.getD k bo).1).any (jT ls t k)) (λ_=>fA ag) (cP ls.length)
   refine xR (λY'=>∃ x5 x6 x7:L2.Slot,Y'=[s0 (.dict kds),s0 (aw ls),s0 (au t),s0 (lP (cB ls).1),s0 (lN (cB ls).2),x5,x6,x7]) ((cP ls.length).findSome? λk=>if (B (ls.getD k bo).1).any (jT ls t k)=af then aa (.bool ag) else ab) (sT (q:=λ(k:Nat)=>bA k) _ _ (dm (pG (aQ (aT rfl (by rw[lM,bR])) rfl) ())) ⟨ab,ab,ab,rfl⟩ ?_) ?_ ?_
   .rintro k mk _ ⟨x5,x6,x7,rfl⟩;have hk:=iS.1 mk;have kt:k<t.length:=()
    refine⟨[s0 (.dict kds),s0 (aw ls),s0 (au t),s0 (lP (cB ls).1),s0 (lN (cB ls).2),s0 (.int k),x6,x7],rfl,?_⟩;have le:(cB ls).1.length<=100:=cL (GT (ls:=ls)).1 ()
    have e1:=dU (cap:=[ab,aa 5]) (fi:=ay (aB 3)) (T:=gB 0) (t:=ak (ah cb (ah ao (aB 0) (eC (.int 1))) (aB 1))) (f:=ah ao (aB 0) (eC (.int 0))) (Y:=vS [s0 (.dict kds),s0 (aw ls),s0 (au t),s0 (lP (cB ls).1),s0 (lN (cB ls).2),s0 (.int k),x6,x7]) (xs:=(cB ls).1) (q:=fX) (λq=>decide (q.2=k)) (λq=>bA q.1) (dE rfl) () λq _=>⟨[aa (fX q),aa (.int k)],rfl,cF (aN (aN rfl rfl rfl) rfl (k3 q.2 k)),λ_=>aN rfl rfl rfl⟩
    refine bT (d:=lN (((cB ls).1.filter λq=>decide (q.2=k)).map (·.1))) (e1.trans (by rw[lN,eE];rfl)) (by simp) (gG ?_)
    generalize hE:((cB ls).1.filter λq=>decide (q.2=k)).map (·.1)=E
    have hj:∀ j∈E,j<ls.length:=λj mj=>by
     rw[<-hE] at mj;obtain⟨q,mq,rfl⟩:=bU.1 mj;exact(s2 q (gC.1 mq).1).1
    have lE:E.length<=100:=by rw[<-hE,bR];exact cL (oW _ _) le
    have E8:=yD (jT ls t k) (λ_=>fA ag) (B (ls.getD k bo).1)
    have fa:((B (ls.getD k bo).1).findSome? λr=>if jT ls t k r=af then aa (fA ag) else ab)=if (B (ls.getD k bo).1).any (jT ls t k)=af then aa (.bool ag) else ab:=by
     rw[E8];by_cases h:(B (ls.getD k bo).1).any (jT ls t k)=af
     .rw[if_pos h];obtain⟨r,mr,e⟩:=iF.1 h;obtain⟨x,ex⟩:=vY.1 (List.find?_isSome.2 ⟨r,mr,e⟩);rw[ex];rfl
     .rw[if_neg h,rJ.2 λr mr z=>h (iF.2 ⟨r,mr,z⟩)]
      rfl
    rw[<-fa];have ok:=L.ok _ (getD_mem bo hk);refine(sT (λY'=>∃ x7:L2.Slot,Y'=[s0 (.dict kds),s0 (aw ls),s0 (au t),s0 (lP (cB ls).1),s0 (lN (cB ls).2),s0 (.int k),s0 (lN E),x7]) (λr=>if jT ls t k r=af then aa (fA ag) else ab) (q:=bH) (dm (dE (b.get rfl (aN (aN rfl rfl (jZ hk)) rfl rfl)))) ⟨x7,rfl⟩ ?_).mono ?_
    .rintro r mr _ ⟨y7,rfl⟩;refine⟨[s0 (.dict kds),s0 (aw ls),s0 (au t),s0 (lP (cB ls).1),s0 (lN (cB ls).2),s0 (.int k),s0 (lN E),s0 (bH r)],rfl,?_⟩;have E5:(ba ls k).length<=6:=ok.1;have c1:bV .s (dZ (ak (ah fJ (aJ mO (aC (ah ao (ah ao (aB 1) (aB 5)) (eC (.int 1))) (aC (aB 7) aG))) (eC .none))) (ak (ah (dy af) (aB 7) (ah ao (aB 2) (aB 5))))) [s0 (.dict kds),s0 (aw ls),s0 (au t),s0 (lP (cB ls).1),s0 (lN (cB ls).2),s0 (.int k),s0 (lN E),s0 (bH r)]=aa (iL (ba ls k) r&&decide (r∉t.getD k [])):=by
      refine kT (cF (aN (aT (aQ (xT hk rfl rfl) rfl) (uR (ba ls k) r ())) rfl ?_)) λ_=>cF (aN rfl (aN rfl rfl (nK kt)) ((HS af r (t.getD k [])).trans (by by_cases h:r∈t.getD k []<;>simp[h])))
      unfold iL;cases cH (ba ls k) r []<;>rfl
     have eb:jT ls t k r=((iL (ba ls k) r&&decide (r∉t.getD k []))&&decide ((E.filter λj=>!iM (ba ls k) (ba ls j) r (t.getD j [])).length=0)):=by
      unfold jT;rw[hE,Bool.and_assoc]
     cases hc:(iL (ba ls k) r&&decide (r∉t.getD k [])) with
     |false=>
      rw[hc] at c1;rw[eb,hc,Bool.false_and,if_neg nofun]
      exact eU c1 (gH ⟨_,.inl rfl,_,rfl⟩)
     |true=>
      rw[hc] at c1;have fr:=(gE.1 hc).1;refine dC c1 ?_;have e2:=dU (cap:=[ab,aa 7,aa 1,aa 5,aa 2]) (fi:=ay (aB 6)) (T:=gB 0) (t:=rQ (ak (aJ vJ (aC (ah ao (aB 2) (aB 3)) (aC (aB 1) (aC (ah ao (aB 2) (aB 0)) (aC (ah ao (aB 4) (aB 0)) aG))))))) (f:=aB 0) (Y:=vS [s0 (.dict kds),s0 (aw ls),s0 (au t),s0 (lP (cB ls).1),s0 (lN (cB ls).2),s0 (.int k),s0 (lN E),s0 (bH r)]) (xs:=E) (q:=λ(j:Nat)=>bA j) (λj=>!iM (ba ls k) (ba ls j) r (t.getD j [])) (λ(j:Nat)=>bA j) (dE rfl) () λj mj=>⟨[aa (.int j),aa (bH r),aa (aw ls),aa (.int k),aa (au t)],rfl,QM (aT (aQ (aN rfl rfl (jZ hk)) (aQ rfl (aQ (aN rfl rfl (jZ (hj j mj))) (aQ (aN rfl rfl (nK (by rw[hl];exact hj j mj))) rfl)))) (RD ok (L.ok _ (getD_mem bo (hj j mj))) fr _)),λ_=>rfl⟩
      have c2:=cF (aN (aT (aQ (g:=aG) e2 rfl) (kN _)) (rfl:eC (.int 0) _=aa (.int 0)) (k3 _ 0));rw[bR] at c2;rw[eb,hc,pA];cases hd:decide ((E.filter λj=>!iM (ba ls k) (ba ls j) r (t.getD j [])).length=0) with
      |true=>
       rw[hd] at c2;rw[if_pos rfl];exact dC c2 (cJ rfl rfl)
      |false=>
       rw[hd] at c2;rw[if_neg nofun]
       exact eU c2 (gH ⟨_,.inl rfl,_,rfl⟩)
    .exact λo ho=>ho.turn λY ⟨y7,e⟩=>⟨_,_,y7,e⟩
   .intro d hd;rw[fm] at hd;obtain⟨k,e,rfl⟩:=jR.1 hd;refine⟨_,rfl,?_⟩;obtain⟨r,mr,er⟩:=iF.1 (NJ (p:=λk=>(B (ls.getD k bo).1).any (jT ls t k)) e)
    unfold jB;rw[decide_eq_false λz=>z.2.1 ⟨k,iS.1 (wF e),r,mr,er⟩]
   .rintro hz _ ⟨x5,x6,x7,rfl⟩;rw[fm] at hz;have no:=rJ.1 (tX.1 hz);have nE:¬ wM B ls t:=λ⟨k,hk,r,mr,er⟩=>no k (iS.2 hk) (iF.2 ⟨r,mr,er⟩)
    have hr:(cB ls).2.length<=ls.length:=IY ls;have ej:=WI m1 L.ok hl h6 (cs:=(cB ls).2) (λk mk=>uS mk) () (cL (MW m1 hr) hm)
    rw[Mg] at ej;refine cJ (Vd (aT rfl ej)) ⟨_,rfl,?_⟩;unfold jB
    congr 1
    rw[hJ,decide_eq_true_eq,Ey,decide_eq_false_iff_not,Aqv];exact⟨λh=>⟨hl,nE,h⟩,λh=>h.2.2⟩
  .refine qO (dC (c0.trans (by rw[decide_eq_true hl])) (cJ rfl ⟨_,rfl,_,rfl,?_⟩))
   rw[Aa hl]
 rw[1]
end
theorem Bf (t:cG):noDicts (t.map aX)=af/\cY (t.map aX)<=3:=by
 refine⟨tD λd m=>?_,qW λd m=>?_⟩
 .obtain⟨R,_,rfl⟩:=bU.1 m;exact CQ R
 .obtain⟨R,_,rfl⟩:=bU.1 m;have:cY (R.map bH)<=2:=qW λt m=>by
   obtain⟨r,_,rfl⟩:=bU.1 m;exact RQ r
  show cY (R.map bH)+1<=3
  lia
theorem SM:∀ t:cG,oQ (t.map aX) (t.map aX)=af
 |[]=>by simp[oQ]
 |R::t=>by
  rw[cT,oQ,UV,SM t]
  rfl
theorem Ig (t:cG):cb (au t) (au t)=aa (.bool af):=by
 obtain⟨h1,h2⟩:=Bf t;have ok:Ad2 (au t)=af:=by
  show(noDicts (t.map aX)&&decide (cY (t.map aX)+1<=60))=af;rw[h1,decide_eq_true ()]
  rfl
 unfold cb;rw[ok,wK,if_pos rfl,show bX (au t) (au t)=oQ (t.map aX) (t.map aX) by simp[bX,au],SM]
theorem Je (t:cG):cb (.tuple [.str "rows",au t]) (.tuple [.str "head"])=aa (.bool ag):=by
 obtain⟨h1,h2⟩:=Bf t;have ok:Ad2 (.tuple [.str "rows",au t])=af:=by
  have h3:cY [.str "rows",au t]<=4:=qW λd m=>by
   rcases cZ.1 m with rfl|m
   .exact eB _
   .rw[cM.1 m];show cY (t.map aX)+1<=4
    lia
  show((af&&(noDicts (t.map aX)&&af))&&decide (cY [.str "rows",au t]+1<=60))=af;rw[h1,decide_eq_true ()]
  rfl
 unfold cb;rw[ok,show Ad2 (.tuple [.str "head"])=af by decide,wK,if_pos rfl]
 simp[bX,oQ]
theorem XQ {α β:Type}(f:List α->β->List α)(h:∀ L q,(f L q).length=L.length):∀ (es:List β) (L:List α),(es.foldl f L).length=L.length
 |[],_=>rfl
 |q::es,L=>(XQ f h es _).trans (h L q)
section
variable {B:aE->List (List Int)}
theorem Yg (ls:List Ln)(t:cG):(kO B ls t).length<=ls.length:=by
 unfold kO;rw[XQ _ (λL q=>rG)]
 unfold jL;rw[bR,oV];exact Nat.min_le_left _ _
def uI (B:aE->List (List Int))(a:xK)(row:List Int)(t:cG):Bool:=match cH a.1 row [] with
 |none=>ag
 |some kn=>jB B (a.2.map (jM kn)) t
theorem Ye {a:xK}(ha:a.1.length<=6)(row:List Int):uV [.dict kds,jA a,tI row,.tuple [.str "head"]]=aa (.bool (cH a.1 row []).isNone):=by
 have:∃ d,uV [.dict kds,jA a,tI row,.tuple [.str "head"]]=aa d/\d=.bool (cH a.1 row []).isNone:=by
  rw[7];refine bT (aT (aQ (aN rfl rfl rfl) rfl) (TR a.1 row ha)) (by simp) ?_
  refine xF (dC rfl (cJ (d:=.bool (cH a.1 row []).isNone) ?_ ⟨_,rfl,_,rfl,rfl⟩));cases cH a.1 row []<;>rfl
 rw[1]
open Classical in
theorem Zl (b:Bk kds B wd)(m1:1<=m)(m9:m<=1000){a:xK}(ha:a.1.length<=6)(L:Lok a.2)(hm:m^a.2.length<=4096){t:cG}(h6:∀ R∈t,R.length<=m)(row:List Int):uV [.dict kds,jA a,tI row,.tuple [.str "rows",au t]]=aa (.bool (uI B a row t)):=by
 have n5:=L.n4;have:∃ d,uV [.dict kds,jA a,tI row,.tuple [.str "rows",au t]]=aa d/\d=.bool (uI B a row t):=by
  rw[7];refine bT (aT (aQ (aN rfl rfl rfl) rfl) (TR a.1 row ha)) (by simp) ?_
  refine rY (cF (aN rfl rfl (Je t))) ?_;refine bT (d:=au t) (aN rfl rfl rfl) (by simp) ?_
  unfold uI;cases hf:cH a.1 row [] with
  |none=>exact xF (dC rfl (cJ rfl ⟨_,rfl,_,rfl,rfl⟩))
  |some kn=>
   show Goes _ [s0 (.dict kds),s0 (jA a),s0 (tI row),s0 (.tuple [.str "rows",au t]),s0 (ax kn),s0 (au t),ab] λo=>∃ d,o=.rt d/\d=.bool (jB B (a.2.map (jM kn)) t)
   have L':=Ck L kn;have n':(a.2.map (jM kn)).length=a.2.length:=bR _;have c0:bV .s (l9 (ak (ah qZ (aB 4) (eC .none))) (ak (ah dg (aJ bG (aC (aB 5) aG)) (aJ bG (aC (ah ao (aB 1) (eC (.int 1))) aG))))) [s0 (.dict kds),s0 (jA a),s0 (tI row),s0 (.tuple [.str "rows",au t]),s0 (ax kn),s0 (au t),ab]=aa (ag||decide (t.length≠a.2.length)):=Ky rfl λ_=>cF (aN (aT rfl ((kN _).trans (by rw[bR]))) (aT (aQ (aN rfl rfl rfl) rfl) ((lM _).trans (by rw[bR]))) (qh _ _))
   by_cases hl:t.length=a.2.length
   .refine rY (c0.trans (by rw[decide_eq_false λz=>z hl];rfl)) ?_
    refine bT (aT (aQ (aN rfl rfl rfl) rfl) (Ud L kn)) (by simp) ?_
    generalize a.2.map (jM kn)=ls at L' n';rw[<-n'] at hm hl;have hR:∀ k,(t.getD k []).length<=m:=λk=>by
     by_cases hk:k<t.length
     .rw[hG,eR hk];exact h6 _ (kH hk)
     .rw[hG,zQ (Eb hk)];exact eB _
    have hr:(sA ls).length<=ls.length/\∀ k∈sA ls,k<ls.length:=by
     unfold sA;split
     .exact⟨IY ls,λk mk=>uS mk⟩
     .exact⟨eB _,λk mk=>by simp at mk⟩
    have e1:=dU (cap:=[ab,aa 5]) (fi:=ay (aJ AR (aC (aB 6) aG))) (T:=gB 0) (t:=cN) (f:=ah ao (aB 1) (aB 0)) (Y:=vS [s0 (.dict kds),s0 (jA a),s0 (tI row),s0 (.tuple [.str "rows",au t]),s0 (ax kn),s0 (au t),s0 (aw ls)]) (λ_=>af) (λk=>aX (t.getD k [])) (dE (aT rfl (Pd L'))) () λk mk=>⟨[aa (.int k),aa (au t)],rfl,rfl,λ_=>aN rfl rfl (nK (by rw[hl];exact hr.2 k mk))⟩
    rw[iK.2 λ_ _=>rfl] at e1
    have er:=Yn (Rs:=(sA ls).map λk=>t.getD k []) (λR mR=>by
     obtain⟨k,_,rfl⟩:=bU.1 mR;exact cL (hR k) m9) (cL (Cc m1 λR mR=>by
     obtain⟨k,_,rfl⟩:=bU.1 mR;exact hR k) (cL (MW m1 (by rw[bR];exact hr.1)) hm))
    rw[eE] at er;refine eG (λY'=>Y'=[s0 (.dict kds),s0 (jA a),s0 (tI row),s0 (.tuple [.str "rows",au t]),s0 (ax kn),s0 (au t),s0 (aw ls)]) (Pa (aT (aQ e1 rfl) er) ⟨_,rfl,rfl⟩) ?_
    rintro _ rfl;have eu:=Nb b L' hl λR mR=>cL (h6 R mR) m9
    have ul:=Yg (B:=B) ls t;have e2:=dU (cap:=[ab]) (fi:=ay (aJ CZ (aC (aB 0) (aC (aB 6) (aC (aB 5) aG))))) (T:=gB 0) (t:=cN) (f:=ah dw (aJ bG (aC (aB 0) aG)) (eC (.int 0))) (Y:=vS [s0 (.dict kds),s0 (jA a),s0 (tI row),s0 (.tuple [.str "rows",au t]),s0 (ax kn),s0 (au t),s0 (aw ls)]) (xs:=kO B ls t) (q:=aX) (λ_=>af) (λR=>fA (decide (0<R.length))) (dE (aT rfl eu)) () λR mR=>⟨[aa (aX R)],rfl,rfl,λ_=>aN (aT rfl ((kN _).trans (by rw[bR]))) rfl (nr _)⟩
    rw[iK.2 λ_ _=>rfl] at e2
    have ea:AG [.list ((kO B ls t).map λR=>fA (decide (0<R.length)))]=aa (.bool ((kO B ls t).any λR=>decide (0<R.length))):=by
     show(pO ((kO B ls t).map λR=>fA (decide (0<R.length)))).bind _=_
     rw[IF,bB,zT]
     rfl
    have c1:=cF (aT (aQ (g:=aG) e2 rfl) ea);have ux:=Xo (B:=B) hl;obtain⟨ew,_⟩:=Ui L' hl m1 hm hR;unfold jB;by_cases hx:wM B ls t
    .rw[ux.2 hx] at c1;refine xF (dC c1 (cJ rfl ⟨_,rfl,_,rfl,?_⟩));rw[decide_eq_false λz=>z.2.1 hx]
    .rw[NW.2 λz=>hx (ux.1 z)] at c1
     refine rY c1 ?_;refine cJ (aN (aT (aQ (aT rfl ew) rfl) (kN _)) rfl (k3 _ 0)) ⟨_,rfl,?_⟩
     congr 1
     rw[hJ,decide_eq_true_eq,decide_eq_true_eq,bR,EM];exact⟨λh=>⟨hl,hx,λz=>Aqp.2 z h⟩,λh=>tY λz=>h.2.2 (Aqp.1 z)⟩
   .refine xF (dC (c0.trans (by rw[decide_eq_true hl];rfl)) (cJ rfl ⟨_,rfl,_,rfl,?_⟩))
    rw[Aa (by rw[n'];exact hl)]
 rw[1]
end
theorem Nv {A:List Tb}{t:aE}(h:t∉A.map (·.1))(R:List (List Int)):putD (bb A) (.inr t) (aX R)=bb (A++[(t,R)]):=by
 unfold putD;have hn:¬ ((bb A).any λkd=>decide (bM kd.1=aa (.inr t)))=af:=λq=>by
  obtain⟨kd,m,e⟩:=iF.1 q;obtain⟨p,mp,rfl⟩:=bU.1 m;have e:=of_decide_eq_true e;have e:=e;injection e with e;injection e with e;exact h (bU.2 ⟨p,mp,e⟩)
 rw[if_neg hn];unfold bb;rw[gJ]
 rfl
theorem UF:∀ (M A:List Tb),((A++M).map (·.1)).Nodup->jD (M.map λp=>(jJ p.1,aX p.2)) (bb A)=bb (A++M)
 |[],A,_=>by simp[jD]
 |p::M,A,h=>by
  show jD (M.map λp=>(jJ p.1,aX p.2)) (putD (bb A) (.inr p.1) (aX p.2))=_
  have hn:p.1∉A.map (·.1):=λm=>by
   rw[gJ] at h;exact(kG.1 h).2.2 p.1 m p.1 (by simp) rfl
  rw[Nv hn,UF M (A++[(p.1,p.2)]) (by simpa using h)]
  simp
theorem TN:∀ L:List Tb,oD (L.map λp=>dG [.str p.1,aX p.2])=aa (L.map λp=>(jJ p.1,aX p.2))
 |[]=>rfl
 |p::L=>by
  show((oD (L.map λp=>dG [.str p.1,aX p.2])).bind λr=>aa ((jJ p.1,aX p.2)::r))=_
  rw[TN L]
  rfl
theorem SJ {L:List Tb}(nd:(L.map (·.1)).Nodup):qL [.list (L.map λp=>dG [.str p.1,aX p.2])]=aa (.dict (bb L)):=by
 show((oD (L.map λp=>dG [.str p.1,aX p.2])).bind λps=>aa (PyData.dict (jD ps [])))=_
 rw[TN,bB,show([]:List (aA×aA))=bb [] from rfl,UF L [] (by simpa using nd)]
 rfl
theorem VP {L:List Tb}(ly:∀ p∈L,cI (.str p.1)=af){Y:List (Option aA)}(h:f Y=aa (.dict (bb L))):ph f Y=aa (L.map λp=>dG [.str p.1,aX p.2]):=by
 unfold ph;rw[h];show(if (cz (bb L)&&(bb L).all λkd=>cI kd.1)=af then aa ((bb L).map λkd=>dG [kd.1,kd.2]) else ab)=_
 rw[By,pA,if_pos (gD.2 λkd m=>by
  obtain⟨p,mp,rfl⟩:=bU.1 m;exact ly p mp)]
 unfold bb;rw[eE]
 rfl
theorem LV {t:aE}:∀ {L:List Tb},t∈L.map (·.1)->∀ t',bq (iY L t R) t'=if t'=t then R else bq L t'
 |[],h,t'=>by simp at h
 |p::L,h,t'=>by
  have e:iY (p::L) t R=if p.1=t then(p.1,R)::L else p::iY L t R:=rfl
  rw[e];have ac:∀ (q:Tb) (M:List Tb),bq (q::M) t'=if q.1=t' then q.2 else bq M t':=λq M=>by
   unfold bq;rw[fH];by_cases z:q.1=t'
   .rw[decide_eq_true z,if_pos z];rfl
   .rw[decide_eq_false z,if_neg z]
  by_cases hp:p.1=t
  .rw[if_pos hp,ac,ac];by_cases q:t'=t
   .rw[if_pos q,if_pos (hp.trans q.symm)]
   .rw[if_neg q,if_neg (λz=>q (z.symm.trans hp)),if_neg (λz=>q (z.symm.trans hp))]
  .rw[if_neg hp,ac,ac];have h':t∈L.map (·.1):=by
    rcases cZ.1 h with z|z
    .exact absurd z.symm hp
    .exact z
   rw[LV h'];by_cases q:t'=t
   .rw[if_pos q,if_neg (λz=>hp (z.trans q)),if_pos q]
   .rw[if_neg q,if_neg q]
def ni:List aE:=["t","p","pa","pap"]
def jc (t:aE):Nat:=if t = "t" then 1 else if t = "p" then 2 else if t = "pa" then 3 else 4
structure BkG (c:Nat)(L:List Tb):Prop where
 nd:(L.map (·.1)).Nodup
 tab:∀ p∈L,p.1∈ni
 few:∀ p∈L,p.2.length<=c
 row:∀ p∈L,∀ r∈p.2,r.length=jc p.1
section
variable {L:List Tb}{t:aE}{row:List Int}
theorem BkG.nil:BkG c []:=⟨Ec,λ_ m=>(by simp at m),λ_ m=>(by simp at m),λ_ m=>(by simp at m)⟩
theorem BkG.len (o:BkG c L):L.length<=4:=by
 have:=c9 o.nd λt m=>by
  obtain⟨p,mp,rfl⟩:=bU.1 m;exact o.tab p mp
 rw[bR] at this;exact this
theorem BkG.atR (o:BkG c L)(t:aE):(bq L t).length<=c/\∀ r∈bq L t,r.length=jc t:=by
 by_cases h:bq L t=[]
 .rw[h];exact⟨by simp,λr m=>by simp at m⟩
 .obtain⟨r,mr⟩:=Eo _ h;obtain⟨p,mp,rfl,e⟩:=IG mr;rw[<-e];exact⟨o.few p mp,o.row p mp⟩
def gk (L:List Tb)(t:aE):List Tb:=if t∈L.map (·.1) then L else L++[(t,[])]
theorem Jn (L:List Tb)(t:aE):jq (bb L) (.inr t)=bb (gk L t):=by
 unfold jq gk;by_cases h:t∈L.map (·.1)
 .rw[yA h,if_pos h]
 .rw[BR,Sm h,if_neg h];unfold bb;rw[gJ]
  rfl
theorem wX (L:List Tb)(t:aE):t∈(gk L t).map (·.1):=by
 unfold gk;by_cases h:t∈L.map (·.1)
 .rw[if_pos h];exact h
 .rw[if_neg h];simp
theorem GE (L:List Tb)(t t':aE):bq (gk L t) t'=bq L t':=by
 unfold gk;by_cases h:t∈L.map (·.1)
 .rw[if_pos h]
 .rw[if_neg h];unfold bq;rw[Em];cases e:L.find? λp=>decide (p.1=t') with
  |some p=>rfl
  |none=>
   by_cases q:t=t'
   .simp[q]
   .simp[q]
theorem BkG.sd (o:BkG c L)(ht:t∈ni):BkG c (gk L t):=by
 unfold gk;by_cases h:t∈L.map (·.1)
 .rw[if_pos h];exact o
 .rw[if_neg h];have key:∀ {Q:Tb->Prop},(∀ p∈L,Q p)->Q (t,[])->∀ p∈L++[(t,[])],Q p:=λh1 h2 p m=>by
   rcases dH.1 m with m|m
   .exact h1 p m
   .rw[cM.1 m];exact h2
  refine⟨?_,key o.tab ht,key o.few (by simp),key o.row λr m=>by simp at m⟩
  rw[gJ];exact kG.2 ⟨o.nd,by simp,λa ha b hb e=>h (by simp at hb;rw[<-hb,<-e];exact ha)⟩
theorem BkG.upd (o:BkG c L)(h1:R.length<=c)(h3:∀ r∈R,r.length=jc t):BkG c (iY L t R):=by
 refine⟨by rw[JI];exact o.nd,λp m=>?_,λp m=>?_,λp m=>?_⟩
 .have:p.1∈(iY L t R).map (·.1):=bU.2 ⟨p,m,rfl⟩;rw[JI] at this;obtain⟨q,mq,e⟩:=bU.1 this;rw[<-e];exact o.tab q mq
 .rcases IB m with m|⟨m1,m2⟩
  .exact o.few p m
  .rw[m2];exact h1
 .rcases IB m with m|⟨m1,m2⟩
  .exact o.row p m
  .rw[m1,m2];exact h3
theorem BkG.add (o:BkG c L)(hw:row.length=jc t)(hl:(bq L t).length<c):BkG c (iY L t (bq L t++[row])):=by
 obtain⟨a1,a3⟩:=o.atR t;refine o.upd (by rw[jS];simp;lia) λr m=>?_
 rcases dH.1 m with m|m
 .exact a3 r m
 .rw[cM.1 m];exact hw
theorem BkG.out (o:BkG c L)(f:Tb->Bool):BkG c (L.filter f):=
 ⟨o.nd.sublist (List.filter_sublist.map _),λp m=>o.tab p (gC.1 m).1,λp m=>o.few p (gC.1 m).1,λp m=>o.row p (gC.1 m).1⟩
theorem Ov{P:Out->Prop}(hg:nC i Y=aa (bb L))(hk:g (vS Y)=aa (.str t))(ht:t∈L.map (·.1))(hf:f (vS Y)=aa (bH row))(hl:(bq L t).length<100000)(k:P (.nx (Y.set i (aa (2,.dict (bb (iY L t (bq L t++[row])))))))):Goes (uK i .s g .s f) Y P:=⟨_,by
 have e1:eV 0 .s g Y=aa (.str t):=hk;have e2:eV 0 .s f Y=aa (bH row):=hf;unfold uK;rw[hg,bB,e1,bB,show bM (.str t)=aa (.inr t) from rfl,bB,yA ht,bB]
 show((eV 0 .s f Y).bind λd=>if dS d=af/\((bq L t).map bH).length<sizeLine then aa (Out.nx (Y.set i (aa (2,.dict (kL (bb L) (.inr t) (.list ((bq L t).map bH++[d]))))))) else ab)=_
 rw[e2,bB,if_pos ⟨IM row,nQ (by rw[bR];exact pY hl)⟩]
 have:(bq L t).map bH++[bH row]=(bq L t++[row]).map bH:=by rw[gJ];rfl
 rw[this];show aa (Out.nx (Y.set i (aa (2,.dict (kL (bb L) (.inr t) (aX (bq L t++[row])))))))=_;rw[GY],k⟩
theorem any_rows (r:List Int)(R:List (List Int)):((R.map bH).any λz=>bX z (bH r))=decide (r∈R):=by
 rw[zT];by_cases h:r∈R
 .rw[decide_eq_true h];exact iF.2 ⟨r,h,by simp[BN]⟩
 .rw[decide_eq_false h,EO];intro x mx;simp only[Function.comp,BN,decide_eq_true_eq];exact λe=>h (e ▸ mx)
theorem Vj{P:Out->Prop}{f0:EF}{m2:Md}{t2:BF}(hL:L.length<=4)(hg:nC i Y=aa (bb L))(h0:f0 (vS Y)=aa (bH row))(hk:g (vS Y)=aa (.str t))
  (h1:row∈bq L t->P (.nx (Y.set i (aa (2,.dict (bb (gk L t))))))) (h2:row∉bq L t->∃ b,bV m2 t2 (Y.set i (aa (2,.dict (bb (gk L t)))))=aa b/\(b=af->Goes F (Y.set i (aa (2,.dict (bb (gk L t))))) P)/\(b=ag->P (.nx (Y.set i (aa (2,.dict (bb (gk L t)))))))) :
  Goes (sQ i .s f0 .s g m2 t2 F) Y P:=by
 have e0:eV 0 .s f0 Y=aa (bH row):=h0;have e1:eV 0 .s g Y=aa (.str t):=hk;have lk:bJ (bb (gk L t)) (.inr t)=aa (aX (bq L t)):=by rw[yA (wX L t),GE]
 have e:sQ i .s f0 .s g m2 t2 F Y=if row∈bq L t then aa (.nx (Y.set i (aa (2,.dict (bb (gk L t)))))) else(bV m2 t2 (Y.set i (aa (2,.dict (bb (gk L t)))))).bind λb=>if b=af then F (Y.set i (aa (2,.dict (bb (gk L t))))) else aa (.nx (Y.set i (aa (2,.dict (bb (gk L t)))))):=by
  unfold sQ;rw[e0,bB,hg,bB,e1,bB,show bM (.str t)=aa (.inr t) from rfl,bB,Jn,lk]
  show(if (bb L).length<sizeLine/\(Ad2 (bH row)&&noDicts ((bq L t).map bH))=af then _ else ab)=_
  rw[if_pos ⟨nQ (by unfold bb;rw[bR];lia),by rw[JD,CQ];rfl⟩,any_rows]
  by_cases h:row∈bq L t
  .rw[if_pos (decide_eq_true h),if_pos h]
  .rw[if_neg (by rw[decide_eq_false h];exact mB),if_neg h]
 by_cases h:row∈bq L t
 .rw[if_pos h] at e;exact⟨_,e,h1 h⟩
 .rw[if_neg h] at e;obtain⟨b,eb,k1,k2⟩:=h2 h;rw[eb,bB] at e;cases b with
  |true=>
   rw[if_pos rfl] at e;obtain⟨o,eo,po⟩:=k1 rfl;exact⟨o,e.trans eo,po⟩
  |false=>
   rw[if_neg mB] at e;exact⟨_,e,k2 rfl⟩
theorem Nq {Y:List (Option aA)}{fd fc:EF}(hd:fd Y=aa (.dict (bb L)))(hk:fk Y=aa (.str t))(hc:fc Y=aa (.int c))(ht:t∈L.map (·.1)):ak (ah k4 (aJ bG (aC (ah ao fd fk) aG)) fc) Y=aa (decide ((bq L t).length<c)):=by
 refine cF (aN (aT (aQ (aN hd hk (yA ht)) rfl) ((kN _).trans (by rw[bR]))) hc ?_)
 show aa (fA (decide (((bq L t).length:Int)<c)))=_
 congr 2
 rw[decide_eq_decide]
 lia
theorem BkG.bk (o:BkG c L)(hc:c<64):Bk (bb L) (bq L) jc:=G1 (λt=>by unfold jc;grind) λp m=>⟨EJ (o.few p m) hc,o.row p m⟩
end
theorem Cw:∀ {t:aE},t∈ni->cI (.str t)=af:=by rw[0]
theorem Hz{m:Md}{t:BF}(h:bV m t Y=aa ag):bt m t F cQ Y=aa (.nx Y):=by
 unfold bt;rw[h]
 rfl
theorem Jh {L:List Tb}(nd:(L.map (·.1)).Nodup):mD ag (.dict (bb L)) (.dict (bb L))=aa (.bool af):=by
 have h:=Jg nd;unfold mD at h ⊢;simp only at h ⊢;split at h
 .rename_i z;rw[if_pos z];injection h with h;injection h with h
  congr 2
  revert h
  cases uO (bb L) (bb L)<;>simp
 .simp at h
section
variable {L:List Tb}(o:BkG c L)
include o
theorem Wi(m1:1<=m)(m9:m<=1000)(hc:c<64){a:xK}(ha:a.1.length<=6)(K:Lok a.2)(hm:m^a.2.length<=4096){t:cG}(h6:∀ R∈t,R.length<=m)(t9:t.length<=1000)(row:List Int):yP [.dict (bb L),jA a,tI row,au t,.bool (uI (bq L) a row t)]=aa (.bool af):=by
 have eh:=Zl (o.bk hc) m1 m9 ha K hm h6 row;generalize uI (bq L) a row t=w at *;have:∃ d,yP [.dict (bb L),jA a,tI row,au t,.bool w]=aa d/\d=.bool af:=by
  rw[7];have hl:=o.len;have e:=dU (cap:=[ab,ab]) (fi:=ph (aB 0)) (T:=jy 0 1) (t:=cN) (f:=dI (aC (aB 0) (aC (aJ mY (aC (aB 1) aG)) aG))) (Y:=vS [s0 (.dict (bb L)),s0 (jA a),s0 (tI row),s0 (au t),s0 (.bool w),ab,ab,ab]) (λ_=>af) (λp=>dG [.str p.1,aX p.2]) (VP (λp m=>Cw (o.tab p m)) rfl) () λp mp=>⟨[aa (.str p.1),aa (aX p.2)],rfl,rfl,λ_=>lJ (aQ rfl (aQ (aT rfl rfl) rfl))⟩
  rw[iK.2 λ_ _=>rfl] at e
  refine bT (aT (aQ e rfl) (SJ o.nd)) (by simp) ?_
  have e2:=dU (cap:=[ab]) (fi:=ay (aB 3)) (T:=gB 0) (t:=cN) (f:=aJ mY (aC (aB 0) aG)) (Y:=vS [s0 (.dict (bb L)),s0 (jA a),s0 (tI row),s0 (au t),s0 (.bool w),s0 (.dict (bb L)),ab,ab]) (xs:=t) (q:=aX) (λ_=>af) aX (dE rfl) () λR mR=>⟨[aa (aX R)],rfl,rfl,λ_=>aT rfl rfl⟩
  rw[iK.2 λ_ _=>rfl] at e2
  refine bT e2 (by simp) (gG ?_)
  refine bT (aT (aQ rfl (aQ rfl (aQ rfl (aQ (lJ rfl) rfl)))) eh) (by simp[frz]) ?_
  refine cJ (d:=.bool af) ?_ ⟨_,rfl,rfl⟩;have q1:ah cb (aB 7) (aB 4) (vS [s0 (.dict (bb L)),s0 (jA a),s0 (tI row),s0 (au t),s0 (.bool w),s0 (.dict (bb L)),s0 (au t),s0 (.bool w)])=aa (.bool af):=by cases w<;>rfl
  have q2:ah (mD ag) (aB 0) (aB 5) (vS [s0 (.dict (bb L)),s0 (jA a),s0 (tI row),s0 (au t),s0 (.bool w),s0 (.dict (bb L)),s0 (au t),s0 (.bool w)])=aa (.bool af):=aN rfl rfl (Jh o.nd);have q3:ah cb (aB 3) (aB 6) (vS [s0 (.dict (bb L)),s0 (jA a),s0 (tI row),s0 (au t),s0 (.bool w),s0 (.dict (bb L)),s0 (au t),s0 (.bool w)])=aa (.bool af):=aN rfl rfl (Ig t);have an:∀ {f g:EF} {Y:List (Option aA)},f Y=aa (.bool af)->g Y=aa (.bool af)->uC f g Y=aa (.bool af):=λh1 h2=>by
   unfold uC;rw[h1];exact h2
  exact an rfl (an q1 (an q2 q3))
 rw[1]
end
theorem Kr {a b:Int}(h:a.natAbs<2^64):nB (.int a) (.int b)=aa (.int (a*b)):=by
 show(if (a.natAbs<2^64\/b.natAbs<2^64)\/kJ a+kJ b<=134217728 then aa (bA (a*b)) else ab)=_
 rw[if_pos (.inl (.inl h))]
theorem GQ {a b:Int}(h:b.natAbs<2^64):nB (.int a) (.int b)=aa (.int (a*b)):=by
 show(if (a.natAbs<2^64\/b.natAbs<2^64)\/kJ a+kJ b<=134217728 then aa (bA (a*b)) else ab)=_
 rw[if_pos (.inl (.inr h))]
theorem QV{i:Int}(a:0<=i)(b:i<ns.length):∃ c,ao (lI ns) (.int i)=aa (.int c)/\c∈ns:=by
 obtain⟨j,rfl⟩:=Er a;have hj:j<ns.length:=()
 exact⟨ns[j],xV (eR hj),kH hj⟩
theorem GN (ns:List Int):bG [lI ns]=aa (.int ns.length):=by simp[bG]
theorem Ct (ns:List Int){k:Int}(h0:0<=k)(h1:k<=1000):∃ c,eK [lI ns,.int k]=aa (.int c):=by
 have:∃ d,eK [lI ns,.int k]=aa d/\∃ c,d=.int c:=by
  rw[7];have hk:k.natAbs<2^64:=()
  have xg:nB (.int k) (.int k)=aa (.int (k*k)):=Kr hk;have e1:bV .s (ak (ah k4 (aB 1) (aJ bG (aC (aB 0) aG)))) [s0 (lI ns),s0 (.int k)]=aa (decide (k<ns.length)):=cF (aN rfl (aT rfl (GN ns)) rfl);by_cases hl:k<(ns.length:Int)
  .obtain⟨c,e,_⟩:=QV h0 hl;exact qO (dC (e1.trans (by rw[decide_eq_true hl])) (cJ (aN rfl rfl e) ⟨_,rfl,_,rfl,c,rfl⟩))
  .refine gX (nG (e1.trans (by rw[decide_eq_false hl]))) ?_
   have e2:bV .s (ak (ah cb (aJ bG (aC (aB 0) aG)) (eC (.int 0)))) [s0 (lI ns),s0 (.int k)]=aa (decide ((ns.length:Int)=0)):=cF (aN (aT rfl (GN ns)) rfl (uW _ _));by_cases hz:(ns.length:Int)=0
   .exact qO (dC (e2.trans (by rw[decide_eq_true hz])) (cJ (aN (aN (aN rfl rfl xg) rfl (GQ nofun)) rfl rfl) ⟨_,rfl,_,rfl,_,rfl⟩))
   .refine gX (nG (e2.trans (by rw[decide_eq_false hz]))) ?_
    have qc:(0:Int)<ns.length:=()
    obtain⟨v,e,_⟩:=QV (uN _ qc).1 (uN _ qc).2;exact cJ (aN (aN (aN rfl (aN rfl (aT rfl (GN ns)) (pB k ns.length ())) e) (aN rfl rfl rfl) (GQ ())) (aN (aN rfl rfl xg) rfl (GQ nofun)) rfl) ⟨_,rfl,_,rfl⟩
 obtain⟨d,e,c,rfl⟩:=this;exact⟨c,e⟩
theorem HM (c:Int){k:Int}(h0:0<=k)(h1:k<=1000)(hn:0<n):∃ v:Nat,tL [.int c,.int k,.int n]=aa (.int v)/\v<n:=by
 have:∃ d,tL [.int c,.int k,.int n]=aa d/\∃ v:Nat,d=.int v/\v<n:=by
  rw[7];have b:=uN c (show(0:Int)<((2147483629:Nat):Int) by lia)
  have xg:=Int.mul_le_mul h1 h1 h0 ()
  have E9:=Int.mul_nonneg h0 h0;have mk:iG (.int k) (.int k)=aa (.int (k*k)):=qG ()
  obtain⟨A,hA⟩:∃ A:Int,A=c%((2147483629:Nat):Int)+5*k+1:=⟨_,rfl⟩;obtain⟨B,hB⟩:∃ B:Int,B=48271+k*k:=⟨_,rfl⟩;generalize k*k=q at *;have Fa:0<=A*B/\A*B<=2200000000*2000000:=⟨Int.mul_nonneg () (),Int.mul_le_mul () () () ()⟩
  refine bT (d:=.int (A*B)) (aN (aN (aN (aN rfl rfl (pB c 2147483629 ())) (aN rfl rfl (qG nofun)) rfl) rfl (by rw[hA];rfl)) (aN rfl (aN rfl rfl mk) (by rw[hB];rfl)) (qG ())) (by simp) ?_
  generalize A*B=N at Fa;have bd:=uN (N*N%((2147483647:Nat):Int)) (show(0:Int)<(n:Int) by lia)
  obtain⟨v,ev⟩:=Er bd.1;exact cJ (aN (aN (aN rfl rfl (qG ())) rfl (pB _ 2147483647 ())) rfl ((pB _ n hn).trans (by rw[ev]))) ⟨_,rfl,v,rfl,()⟩
 obtain⟨d,e,c,rfl,h⟩:=this;exact⟨c,e,h⟩
def Cl (ns:List Int)(C:Nat->Int):Prop:=∀ k:Nat,k<=1000->eK [lI ns,.int k]=aa (.int (C k))
theorem Gp (ns:List Int):∃ C,Cl ns C:=⟨λk=>if h:k<=1000 then(Ct ns (k:=k) () ()).choose else 0,λk h=>by
 show _=aa (bA (if h:k<=1000 then _ else 0))
 rw[dif_pos h];exact(Ct ns () ()).choose_spec⟩
theorem Cl.at(h:Cl ns C){k:Nat}(hk:k<=1000){Y:List (Option aA)}(e0:Y[0]?.join=aa (lI ns))(e:f Y=aa (.int k)):aJ eK (aC (aB 0) (aC f aG)) Y=aa (.int (C k)):=aT (aQ e0 (aQ e rfl)) (h k hk)
theorem add_n (a b:Nat):dA (.int a) (.int b)=aa (.int ((a+b:Nat):Int)):=by
 congr 2
theorem gV (c:Int)(h:0<n):∃ u:Nat,cC (.int c) (.int n)=aa (.int u)/\u<n/\c%(n:Int)=u:=by
 have b:=uN c (show(0:Int)<(n:Int) by lia)
 obtain⟨u,eu⟩:=Er b.1;exact⟨u,(pB c n h).trans (by rw[eu]),(),eu⟩
theorem OT {c n:Int}(h:0<n):cC (.int c) (.int n)=aa (.int (c%n)):=by
 show(if 0<n then aa (bA (c%n)) else ab)=_
 rw[if_pos h]
def FH:Option aA->Bool
 |some (.str z)=>cI (.str z)
 |_=>ag
theorem Cu {o:Option aA}(h:FH o=af):∃ z:aE,o=aa (.str z)/\cI (.str z)=af:=by
 cases o with
 |none=>cases h
 |some d=>
  cases d with
  |str z=>exact⟨z,rfl,h⟩
  |_=>cases h
def tw (ns:List Int)(z:aE):Prop:=cI (.str z)=af/\∃ i:Nat,i<10/\tJ [lI ns,.int i]=aa (.str z)
theorem Mj:∀ {w:Nat},1<=w->w<=4->∃ t∈ni,jc t=w/\ao (.list [.str "t",.str "p",.str "pa",.str "pap"]) (.int ((w:Int)-1))=aa (.str t)
 |1,_,_=>⟨"t",nofun,nofun,rfl⟩
 |2,_,_=>⟨"p",nofun,nofun,rfl⟩
 |3,_,_=>⟨"pa",nofun,nofun,rfl⟩
 |4,_,_=>⟨"pap",nofun,nofun,rfl⟩
def gv (ns:List Int)(x:aH):Prop:=(∃ i,x=.inl i)\/∃ z,tw ns z/\x=.inr z
structure LnG (ns:List Int)(l:Ln):Prop where
 wd:jc l.1=l.2.length
 tab:l.1∈ni
 trm:∀ x∈l.2,gv ns x
theorem Ba (t:aE):1<=jc t/\jc t<=4:=by unfold jc;grind
theorem LnG.ok(h:LnG ns l):fF l:=⟨by have:=(Ba l.1).2;have:=h.wd;lia,λx m=>by
 rcases h.trm x m with⟨i,rfl⟩|⟨z,mz,rfl⟩
 .rfl
 .exact mz.1⟩
theorem Na{P:Out->Prop}{j:Int}(h:f (vS Y)=aa d)(hg:getL i Y=aa ds)(hk:eV 0 .a g Y=aa (.int j))(hj:fg ds.length j=aa jn)(k:P (.nx (Y.set i (aa (1,.list (ds.set jn d)))))):Goes (rV i .s f .a g) Y P:=⟨_,by
 unfold rV;rw[show eV 0 .s f Y=aa d from h,bB,hg,bB,hk,bB]
 show((fg ds.length j).bind λj=>aa (Out.nx (Y.set i (aa (1,.list (ds.set j d))))))=_
 rw[hj]
 rfl,k⟩
theorem BH {xs ys:List aA}(h:xs.length+ys.length<=100000):pR (.list xs) (.list ys)=aa (.list (xs++ys)):=if_pos (mK h)
def ud:aA->Bool
 |.int i=>decide (0<=i/\i<6)
 |_=>ag
def o9:Option aA->Bool
 |some (.list ds)=>decide (ds.length<=4)&&ds.all ud
 |_=>ag
theorem QI:∀ ds:List aA,ds.all ud=af->∃ cs:List Nat,ds=cs.map (λ(c:Nat)=>bA c)/\∀ c∈cs,c<6
 |[],_=>⟨[],rfl,λ_ m=>nomatch m⟩
 |d::ds,h=>by
  obtain⟨h1,h2⟩:=gE.1 (show(ud d&&ds.all ud)=af from h)
  obtain⟨cs,rfl,hc⟩:=QI ds h2;cases d with
  |int i=>
   have:=of_decide_eq_true h1;exact⟨i.toNat::cs,by rw[cT,Int.toNat_of_nonneg this.1],λc m=>(cZ.1 m).elim (λe=>()) (hc c)⟩
  |_=>cases h1
theorem Of {t k:Nat}(ht:t<6)(hk:k<n)(hn:n<=5):∃ cs:List Nat,CS [.int t,.int k,.int n]=aa (lN cs)/\cs.length<=4/\∀ c∈cs,c<6:=by
 have:∀ (t n k:_root_.Fin 6),k.val<n.val->o9 (CS [.int (t.val:Nat),.int (k.val:Nat),.int (n.val:Nat)])=af:=by rw[0]
 have h:=this ⟨t,ht⟩ ⟨n,()⟩ ⟨k,()⟩ hk
 generalize CS [.int t,.int k,.int n]=o at h;cases o with
 |none=>cases h
 |some d=>
  cases d with
  |list ds=>
   obtain⟨h1,h2⟩:=gE.1 (show(decide (ds.length<=4)&&ds.all ud)=af from h)
   obtain⟨cs,rfl,hc⟩:=QI ds h2;exact⟨cs,rfl,by simpa using of_decide_eq_true h1,hc⟩
  |_=>cases h
section
variable (hC:Cl ns C)
include hC
theorem vF(hn:n<1000):∃ v,oA [lI ns,.int n]=aa (.int v):=by
 have:∃ d,oA [lI ns,.int n]=aa d/\∃ v,d=.int v:=by
  rw[7];refine bT (hC.at () rfl rfl) (by simp) ?_
  have d2:ah dY (aB 2) (eC (.int 2)) (vS [s0 (lI ns),s0 (.int n),s0 (.int (C 1))])=aa (.int (C 1/(2:Nat))):=aN rfl rfl (jC _ 2 ())
  have t1:bV .s (ak (ah cb (ah cC (aB 2) (eC (.int 2))) (eC (.int 0)))) [s0 (lI ns),s0 (.int n),s0 (.int (C 1))]=aa (decide (C 1%(2:Nat)=0)):=cF (aN (aN rfl rfl (pB _ 2 ())) rfl (uW _ _))
  by_cases h:C 1%(2:Nat)=0
  .have sg:∃ v,ao (.list [.int (2*(n:Int)-1),.int (3-(n:Int))]) (.int (C 1/(2:Nat)%2))=aa (.int v):=⟨if C 1/(2:Nat)%2=0 then 2*(n:Int)-1 else 3-(n:Int),(Jm _ _ _).trans (by split<;>rfl)⟩
   obtain⟨v,sg⟩:=sg;exact qO (dC (t1.trans (by rw[decide_eq_true h])) (cJ (aN (uQ (aQ (aN (aN rfl rfl (qG nofun)) rfl rfl) (aQ (aN rfl rfl rfl) rfl))) (aN d2 rfl (OT nofun)) sg) ⟨_,rfl,_,rfl,_,rfl⟩))
  .refine gX (nG (t1.trans (by rw[decide_eq_false h]))) ?_
   exact cJ (aN (aN (aN (aN d2 (aN (aN rfl (aN rfl rfl (Cv ())) (qG nofun)) rfl rfl) (OT (by rw[0]))) (aN rfl rfl (Cv ())) rfl) rfl rfl) rfl rfl) ⟨_,rfl,_,rfl⟩
 obtain⟨d,e,v,rfl⟩:=this;exact⟨v,e⟩
theorem ID(hi:i<10):∃ z,tJ [lI ns,.int i]=aa (.str z)/\tw ns z:=by
 have:∃ d,tJ [lI ns,.int i]=aa d/\∃ z:aE,d=.str z/\cI (.str z)=af:=by
  rw[7];refine bT rfl (by simp) ?_
  have t1:bV .s (ak (ah cb (ah cC (aJ eK (aC (aB 0) (aC (eC (.int 2)) aG))) (eC (.int 2))) (eC (.int 0)))) [s0 (lI ns),s0 (.int i),s0 (.str "papersofno")]=aa (decide (C 2%(2:Nat)=0)):=cF (aN (aN (hC.at () rfl rfl) rfl (pB _ 2 ())) rfl (uW _ _))
  have k1:∀ i:_root_.Fin 10,FH (nj (aB 0) oN (oS (ah dA (aB 1) (eC (.int 1)))) [aa (.str "papersofno"),aa (.int (i.val:Nat))])=af:=by rw[0]
  have k2:∀ m i:_root_.Fin 10,FH (ah dA (nj (aB 0) oN (oS (aB 2))) (ah ao (eC (.str "abcdefghij")) (aB 1)) [aa (.str "papersofno"),aa (.int (i.val:Nat)),aa (.int (m.val:Nat))])=af:=by rw[0]
  by_cases h:C 2%(2:Nat)=0
  .obtain⟨z,ez,lz⟩:=Cu (k1 ⟨i,hi⟩);exact qO (dC (t1.trans (by rw[decide_eq_true h])) (cJ ez ⟨_,rfl,_,rfl,z,rfl,lz⟩))
  .refine gX (nG (t1.trans (by rw[decide_eq_false h]))) ?_
   obtain⟨m,em,hm,_⟩:=gV (C 2/(2:Nat)) (n:=10) ()
   obtain⟨z,ez,lz⟩:=Cu (k2 ⟨m,hm⟩ ⟨i,hi⟩);have e1:ah cC (ah dY (aJ eK (aC (aB 0) (aC (eC (.int 2)) aG))) (eC (.int 2))) (eC (.int 10)) (vS [s0 (lI ns),s0 (.int i),s0 (.str "papersofno")])=aa (.int m):=aN (aN (hC.at () rfl rfl) rfl (jC _ 2 ())) rfl em
   have e2:nj (aB 2) oN (oS (ah cC (ah dY (aJ eK (aC (aB 0) (aC (eC (.int 2)) aG))) (eC (.int 2))) (eC (.int 10)))) (vS [s0 (lI ns),s0 (.int i),s0 (.str "papersofno")])=nj (aB 0) oN (oS (aB 2)) [aa (.str "papersofno"),aa (.int i),aa (.int m)]:=by
    unfold nj oS;rw[e1]
    rfl
   obtain⟨p,e3,ez⟩:=aj ez;obtain⟨q,e4,ez⟩:=aj ez;exact cJ (d:=.str z) (aN (e2.trans e3) e4 ez) ⟨_,rfl,z,rfl,lz⟩
 obtain⟨d,e,z,rfl,lz⟩:=this;exact⟨z,e,lz,i,hi,e⟩
end
section
variable (hC:Cl ns C)
include hC
theorem Wc:∃ ls:List Ln,LF [lI ns]=aa (aw ls)/\ls.length<=5/\∀ l∈ls,LnG ns l:=by
 have:∃ d,LF [lI ns]=aa d/\∃ ls:List Ln,d=aw ls/\ls.length<=5/\∀ l∈ls,LnG ns l:=by
  rw[7];refine bT (hC.at (k:=0) () rfl rfl) (by simp) ?_
  generalize C 0=f0;obtain⟨n,en,hn,_⟩:=gV (f0/(6:Nat)) (n:=6) ()
  refine bT (aN (aN rfl rfl (jC _ 6 ())) rfl en) (by simp) (bT rfl (by simp) ?_)
  have hM:∀ z,tw ns z->gv ns (.inr z):=λz m=>.inr ⟨z,m,rfl⟩
  obtain⟨f6,gq,F3,_⟩:=gV f0 (n:=6) ()
  let R:List Ln->List L2.Slot->aP:=λls r=>s0 (lI ns)::s0 (.int f0)::s0 (.int n)::aa (1,.list (ls.map bD))::r
  refine eG (λY'=>∃ (ls:List Ln) (x5 x6 x7 x8 x9 ce dL:L2.Slot),ls.length<=5/\(∀ l∈ls,LnG ns l)/\Y'=R ls [x5,x6,x7,x8,x9,ce,dL]) ?_ ?_
  .refine uT (λi Y'=>∃ (ls:List Ln) (x5 x6 x7 x8 x9 ce dL:L2.Slot),ls.length=i/\(∀ l∈ls,LnG ns l)/\Y'=R ls [x5,x6,x7,x8,x9,ce,dL]) (dm (pG rfl ())) ⟨[],ab,ab,ab,ab,ab,ab,ab,rfl,(λ_ h=>nomatch h),rfl⟩ ?_ ?_
   .rintro k _ hk ⟨ls,x5,x6,x7,x8,x9,ce,dL,hl,jk,rfl⟩;refine⟨R ls [s0 (.int k),x6,x7,x8,x9,ce,dL],rfl,?_⟩;refine bT (hC.at () rfl (aN rfl rfl (add_n 3 k))) (by simp[R]) ?_
    generalize C (3+k)=c;obtain⟨q,eq,hq,_⟩:=gV ((k:Int)+f0/(30:Nat)) (n:=n) ()
    obtain⟨cs,ec,lc,hc⟩:=Of (t:=f6) F3 hq ()
    refine bT (aT (aQ (aN rfl rfl gq) (aQ (aN (aN rfl (aN rfl rfl (jC f0 30 ())) rfl) rfl eq) (aQ rfl rfl))) ec) (by simp[R]) (bT rfl (by simp[R]) ?_)
    obtain⟨u,eu,hu,_⟩:=gV c (n:=4) ()
    obtain⟨w,ew,w1,w4,wc⟩:∃ w:Nat,rA [.int cs.length,.int ((1+u:Nat):Int)]=aa (.int w)/\1<=w/\w<=4/\cs.length<=w:=by
     refine⟨max cs.length (1+u),?_,(),(),()⟩
     show aa (bA (if ((1+u:Nat):Int) > (cs.length:Int) then((1+u:Nat):Int) else(cs.length:Int)))=_
     congr 2
     split<;>lia
    let A:List aH->L2.Slot->L2.Slot->L2.Slot->aP:=λks x9 ce dL=>R ls [s0 (.int k),s0 (.int c),s0 (lN cs),aa (1,lK ks),x9,ce,dL]
    have yz:∀ Y:List (Option aA),aB 6 Y=aa (lN cs)->aJ bG (aC (aB 6) aG) Y=aa (.int cs.length):=λY h=>aT (aQ h rfl) (LX cs)
    refine eG (λY'=>∃ (ks:List aH) (x9 ce dL:L2.Slot),ks.length=w/\(∀ x∈ks,gv ns x)/\Y'=A ks x9 ce dL) ?_ ?_
    .refine uT (λi Y'=>∃ (ks:List aH) (x9 ce dL:L2.Slot),ks.length=i/\(∀ x∈ks,gv ns x)/\Y'=A ks x9 ce dL) (dm (pG (aQ (aT (aQ (yz _ rfl) (aQ (aN rfl (aN rfl rfl eu) (add_n 1 u)) rfl)) ew) rfl) ())) ⟨[],x9,ce,dL,rfl,(λ_ h=>nomatch h),rfl⟩ ?_ ?_
     .rintro j _ hj ⟨ks,x9,ce,dL,f7,kh,rfl⟩;refine⟨A ks (s0 (.int j)) ce dL,rfl,?_⟩;have e4:iG (.int 4) (.int k)=aa (.int ((4*k:Nat):Int)):=(qG nofun).trans (by rw[Ep];rfl)
      refine bT (hC.at () rfl (aN (aN rfl (aN rfl rfl e4) (add_n 8 _)) rfl (add_n _ j))) (by simp[A,R]) ?_
      generalize C (8+4*k+j)=v;refine bT (d:=lN (cs++[5+k])) (aN rfl (uQ (aQ (aN rfl rfl (add_n 5 k)) rfl)) ((BH (by simp;lia)).trans (by rw[lN,gJ];rfl))) (by simp[A,R]) ?_
      refine eG (λY'=>∃ own:List Nat,0<own.length/\(∀ c∈own,c<10)/\Y'=A ks (s0 (.int j)) (s0 (.int v)) (s0 (lN own))) ?_ ?_
      .have t0:bV .s (ak (ah cb (ah cC (aB 1) (eC (.int 6))) (eC (.int 0)))) (A ks (s0 (.int j)) (s0 (.int v)) (s0 (lN (cs++[5+k]))))=aa (decide (f6=0)):=cF (aN (aN rfl rfl gq) rfl (k3 f6 0));by_cases h:f6=0
       .exact dC (t0.trans (by rw[decide_eq_true h])) (sU rfl (by simp[A,R]) ⟨_,rfl,[0,1,2,3],nofun,nofun,rfl⟩)
       .refine eU (t0.trans (by rw[decide_eq_false h])) (gH ⟨_,rfl,cs++[5+k],by simp,λy my=>?_,rfl⟩)
        rcases dH.1 my with r|r
        .have:=hc y r;lia
        .rw[cM.1 r];lia
      rintro _ ⟨own,ol,oc,rfl⟩;have fin:∀ {t:aH} {f:EF},f (vS (A ks (s0 (.int j)) (s0 (.int v)) (s0 (lN own))))=aa (kD t)->gv ns t->Goes (gS 7 .s f) (A ks (s0 (.int j)) (s0 (.int v)) (s0 (lN own))) λo=>∃ Y2,(o=.nx Y2\/o=.ct Y2)/\∃ (ks:List aH) (x9 ce dL:L2.Slot),ks.length=j+1/\(∀ x∈ks,gv ns x)/\Y2=A ks x9 ce dL:=λ{t f} h ht=>
       qN h rfl (by simp;lia) ⟨_,.inl rfl,ks++[t],s0 (.int j),s0 (.int v),s0 (lN own),by simp[f7],λy my=>by
        rcases dH.1 my with r|r
        .exact kh y r
        .rw[cM.1 r];exact ht,by simp[A,R,lK]⟩
      have t4:bV .s (ak (ah cb (ah cC (aB 9) (eC (.int 5))) (eC (.int 0)))) (A ks (s0 (.int j)) (s0 (.int v)) (s0 (lN own)))=aa (decide (v%(5:Nat)=0)):=cF (aN (aN rfl rfl (pB v 5 ())) rfl (uW _ _))
      have d4:ah dY (aB 9) (eC (.int 5)) (vS (A ks (s0 (.int j)) (s0 (.int v)) (s0 (lN own))))=aa (.int (v/(5:Nat))):=aN rfl rfl (jC v 5 ())
      by_cases h4:v%(5:Nat)=0
      .obtain⟨i,ei,hi,_⟩:=gV (v/(5:Nat)) (n:=3) ()
       obtain⟨y,ey⟩:=vF hC (n:=i) ()
       exact dC (t4.trans (by rw[decide_eq_true h4])) (fin (t:=.inl y) (aT (aQ rfl (aQ (aN d4 rfl ei) rfl)) ey) (.inl ⟨_,rfl⟩))
      .obtain⟨i,ei,hi,_⟩:=gV (v/(5:Nat)) (n:=own.length) ol;obtain⟨p,mp,ep⟩:=OC hi;obtain⟨z,ez,mz⟩:=ID hC (oc p mp);exact eU (t4.trans (by rw[decide_eq_false h4])) (fin (t:=.inr z) (aT (aQ rfl (aQ (aN rfl (aN d4 (aT rfl (LX own)) ei) ep) rfl)) ez) (hM z mz))
     .rintro _ ⟨ks,x9,ce,dL,f7,kh,rfl⟩;exact⟨_,rfl,ks,x9,ce,dL,f7,kh,rfl⟩
    rintro _ ⟨ks,x9,ce,dL,f7,kh,rfl⟩;refine eG (λY'=>∃ (ks:List aH) (x9:L2.Slot),ks.length=w/\(∀ x∈ks,gv ns x)/\Y'=A ks x9 ce dL) ?_ ?_
    .refine uT (λi Y'=>∃ (ks:List aH) (x9:L2.Slot),ks.length=w/\(∀ x∈ks,gv ns x)/\Y'=A ks x9 ce dL) (dm (pG (aQ (yz _ rfl) rfl) ())) ⟨ks,x9,f7,kh,rfl⟩ ?_ λ_ ⟨ks,x9,f7,kh,e⟩=>⟨_,rfl,ks,x9,f7,kh,e⟩
     rintro j _ hj ⟨ks,x9,f7,kh,rfl⟩;refine⟨A ks (s0 (.int j)) ce dL,rfl,?_⟩;obtain⟨p,mp,ep⟩:=OC hj;obtain⟨z,ez,mz⟩:=ID hC (jK (hc p mp) nofun)
     obtain⟨i,ei,hi,_⟩:=gV (c/(4:Nat)+(j:Int)) (n:=ks.length) ()
     have lk:bG [lK ks]=aa (.int ks.length):=by simp[bG]
     exact Na (d:=kD (.inr z)) (aT (aQ rfl (aQ (aN rfl rfl ep) rfl)) ez) rfl (qe (aN (aN (aN rfl rfl (jC c 4 ())) rfl rfl) (aT rfl lk) ei) rfl) (qM (by simpa using hi)) ⟨_,.inl rfl,ks.set i (.inr z),s0 (.int j),by simpa using f7,RG kh (hM z mz),by simp[A,R,lK,List.map_set,kD]⟩
    rintro _ ⟨ks,x9,f7,kh,rfl⟩;obtain⟨t,mt,ew,et⟩:=Mj (w:=ks.length) () ()
    refine gG (qN (d:=bD (t,ks)) (lJ (aQ (aN rfl (aN (aT rfl (show bG [lK ks]=aa (.int ks.length) by simp[bG])) rfl rfl) et) (aQ (aT rfl rfl) rfl))) rfl (by simp;lia) ⟨_,.inl rfl,ls++[(t,ks)],s0 (.int k),s0 (.int c),s0 (lN cs),s0 (lK ks),x9,ce,dL,by simp[hl],λl m=>?_,by rw[show ls.map bD++[bD (t,ks)]=(ls++[(t,ks)]).map bD by simp];rfl⟩)
    rcases dH.1 m with m|m
    .exact jk l m
    .rw[cM.1 m];exact⟨ew,mt,kh⟩
   .rintro _ ⟨ls,x5,x6,x7,x8,x9,ce,dL,hl,jk,rfl⟩;exact⟨_,rfl,ls,x5,x6,x7,x8,x9,ce,dL,(),jk,rfl⟩
  rintro _ ⟨ls,x5,x6,x7,x8,x9,ce,dL,hl,jk,rfl⟩;exact gG (cJ (aT rfl rfl) ⟨_,rfl,ls,rfl,hl,jk⟩)
 obtain⟨d,e,ls,rfl,h⟩:=this;exact⟨ls,e,h⟩
end
theorem Py{P:Out->Prop}{L:List Tb}{t:aE}(hg:nC i Y=aa (bb L))(hk:g (vS Y)=aa (.str t))(ht:bq L t≠[])(k:P (.nx (Y.set i (aa (2,.dict (bb (iY L t (bq L t).dropLast))))))):Goes (DX i .s g) Y P:=⟨_,by
 have tm:t∈L.map (·.1):=tY λz=>ht (Jd z)
 unfold DX;rw[hg,bB,show eV 0 .s g Y=aa (.str t) from hk,bB,show bM (.str t)=aa (.inr t) from rfl,bB,yA tm,bB]
 show(if (bq L t).map bH≠[] then aa (Out.nx (Y.set i (aa (2,.dict (kL (bb L) (.inr t) (.list ((bq L t).map bH).dropLast)))))) else ab)=_
 rw[if_pos (by simpa using ht),<-List.map_dropLast]
 show aa (Out.nx (Y.set i (aa (2,.dict (kL (bb L) (.inr t) (aX (bq L t).dropLast))))))=_;rw[GY],k⟩
abbrev h9 (ns:List Int)(ls:List Ln)(L:List Tb)(c:Nat)(r:List L2.Slot):aP:=s0 (lI ns)::s0 (aw ls)::aa (2,.dict (bb L))::s0 (.int c)::r
def NY (L L':List Tb):Prop:=∀ t,bq L t≠[]->bq L' t≠[]
theorem Bu(c1:1<=c)(c6:c<64){L:List Tb}(o:BkG c L){t:aE}(ht:t∈ni){row:List Int}(hw:row.length=jc t)(x4 x5 x7 x9 ce:L2.Slot) :
  Goes (sQ 2 .s (aB 8) .s (aB 6) .a (ak (ah k4 (aJ bG (aC (ah ao (aB 2) (aB 6)) aG)) (aB 3))) (uK 2 .s (aB 6) .s (aB 8))) (h9 ns ls L c [x4,x5,s0 (.str t),x7,s0 (bH row),x9,ce])
   λo=>∃ Y2,(o=.nx Y2\/o=.ct Y2)/\∃ L',BkG c L'/\NY L L'/\bq L' t≠[]/\Y2=h9 ns ls L' c [x4,x5,s0 (.str t),x7,s0 (bH row),x9,ce]:=by
 have o2:=o.sd ht;have m2:NY L (gk L t):=λt' h=>by rw[GE];exact h
 refine Vj o.len rfl rfl rfl (λh=>⟨_,.inl rfl,gk L t,o2,m2,by rw[GE];exact Ed h,rfl⟩) λh=>⟨_,Nq rfl rfl rfl (wX L t),λhb=>?_,λhb=>⟨_,.inl rfl,gk L t,o2,m2,λe=>by rw[e] at hb;exact absurd hb (by simp;lia),rfl⟩⟩
 have hb:=of_decide_eq_true hb;refine Ov rfl rfl (wX L t) rfl () ⟨_,.inl rfl,_,o2.add hw hb,λt' h=>?_,by rw[LV (wX L t),if_pos rfl];simp,rfl⟩
 rw[LV (wX L t)];split
 .simp
 .exact m2 t' h
theorem Li {kn:Kn}(h:∀ z,tw ns z->∃ u,bF kn z=aa u)(hk:∀ x∈ks,gv ns x):qE kn (eY kn) ks:=λz m=>by
 rcases hk _ m with⟨i,e⟩|⟨z',mz,e⟩
 .cases e
 .cases e;obtain⟨u,eu⟩:=h z mz;unfold eY;rw[eu]
  rfl
theorem Nl {kn:Kn}(tl:qE kn (eY kn) ks)(hl:ks.length<=100){Y:List (Option aA)}(e1:Y[i]?.join=aa (tK ks))(e2:Y[j]?.join=aa (ax kn)):bu [ab,aa j] (ay (aB i)) (gB 0) cN (fW (aB 1) (aB 0) (aB 0)) Y=aa (.list ((ks.map (tv (eY kn))).map bA)):=by
 have e:=dU (cap:=[ab,aa j]) (fi:=ay (aB i)) (T:=gB 0) (t:=cN) (f:=fW (aB 1) (aB 0) (aB 0)) (Y:=Y) (q:=kD) (λ_=>af) (λk=>bA (tv (eY kn) k)) (jX e1) () λk mk=>⟨[aa (kD k),aa (ax kn)],by
  show gB 0 (kD k) [ab,Y[j]?.join]=_;rw[e2]
  rfl,rfl,λ_=>Pt tl mk⟩
 rw[iK.2 λ_ _=>rfl] at e
 rw[e,eE]
 rfl
section
variable (hC:Cl ns C)
include hC
theorem Ob(hn:ls.length<=5)(jk:∀ l∈ls,LnG ns l):∃ (c:Nat) (L:List Tb),KY [lI ns,aw ls]=aa (.dict (bb L))/\BkG c L/\1<=c/\c<64/\(c+1)^ls.length<=4096:=by
 have:∃ d,KY [lI ns,aw ls]=aa d/\∃ (c:Nat) (L:List Tb),d=.dict (bb L)/\BkG c L/\1<=c/\c<64/\(c+1)^ls.length<=4096:=by
  rw[7];refine bT rfl (by simp) ?_
  have xh:∀ Y:List (Option aA),aB 1 Y=aa (aw ls)->aJ bG (aC (aB 1) aG) Y=aa (.int ls.length):=λY h=>aT (aQ h rfl) (by rw[lM,bR])
  obtain⟨c0,F4,F5⟩:∃ c:Nat,ao (.list [.int 6,.int 6,.int 6,.int 6,.int 5,.int 3]) (.int ls.length)=aa (.int c)/\1<=c/\c<64/\(c+1)^ls.length<=4096:=by
   generalize ls.length=n at hn
   match n,hn with
   |0,_=>exact⟨6,rfl,nofun⟩
   |1,_=>exact⟨6,rfl,nofun⟩
   |2,_=>exact⟨6,rfl,nofun⟩
   |3,_=>exact⟨6,rfl,nofun⟩
   |4,_=>exact⟨5,rfl,nofun⟩
   |5,_=>exact⟨3,rfl,nofun⟩
  refine bT (aN rfl (xh _ rfl) F4) (by simp) ?_
  obtain⟨c1,c6,cm⟩:=F5;generalize c0=c at *;refine bT rfl (by simp) ?_
  refine eG (λY'=>∃ (kn:Kn) (x5:L2.Slot),(∀ z,tw ns z->∃ u,bF kn z=aa u)/\Y'=h9 ns ls [] c [aa (1,ax kn),x5,ab,ab,ab,ab,ab]) ?_ ?_
  .refine uT (λi Y'=>∃ (kn:Kn) (x5:L2.Slot),kn.length<=i/\(∀ j,j<i->∀ z,tJ [lI ns,.int (j:Nat)]=aa (.str z)->∃ u,bF kn z=aa u)/\Y'=h9 ns ls [] c [aa (1,ax kn),x5,ab,ab,ab,ab,ab]) (dm (pG (n:=10) rfl ())) ⟨[],ab,bI _,(λj h=>absurd h (Nat.not_lt_zero j)),rfl⟩ ?_ ?_
   .rintro i _ hi ⟨kn,x5,hl,hm,rfl⟩;refine⟨h9 ns ls [] c [aa (1,ax kn),s0 (.int i),ab,ab,ab,ab,ab],rfl,?_⟩;obtain⟨v,ev,hv⟩:=HM (C 28) (k:=i) () () (n:=3) ()
    obtain⟨u,eu⟩:=vF hC (n:=v) ()
    obtain⟨y,ey,_⟩:=ID hC (i:=i) ()
    refine QJ (aT (aQ rfl (aQ (aT (aQ (hC.at () rfl rfl) rfl) ev) rfl)) eu) rfl (aT rfl ey) rfl (by unfold DN;simp;lia) ⟨_,.inl rfl,putN kn y u,_,cL (RP _ _ _) (),λj hj z ez=>?_,by rw[Ap];rfl⟩
    rw[JX];split
    .exact⟨_,rfl⟩
    .rename_i dk;by_cases e:j=i
     .rw[e,ey] at ez;injection ez with ez;injection ez with ez;exact absurd ez.symm dk
     .exact hm j () z ez
   .rintro _ ⟨kn,x5,_,hm,rfl⟩;exact⟨_,rfl,kn,x5,λz ⟨_,i,hi,e⟩=>hm i hi z e,rfl⟩
  rintro _ ⟨kn,y5,o8,rfl⟩;refine gG ?_;refine eG (λY'=>∃ (L:List Tb) (x5 x6 x7:L2.Slot),BkG c L/\(∀ l∈ls,bq L l.1≠[])/\Y'=h9 ns ls L c [s0 (ax kn),y5,x5,x6,x7,ab,ab]) ?_ ?_
  .refine jG (xs:=ls) (q:=bD) (λ_ _=>Unit.unit) (λi (_:Unit) Y'=>∃ (L:List Tb) (x5 x6 x7:L2.Slot),BkG c L/\(∀ l∈ls.take i,bq L l.1≠[])/\Y'=h9 ns ls L c [s0 (ax kn),y5,x5,x6,x7,ab,ab]) (b0:=Unit.unit) (dm (jX rfl)) ⟨[],ab,ab,ab,BkG.nil,(λ_ h=>nomatch h),rfl⟩ ?_ ?_
   .rintro i l _ _ hx ⟨L,x5,x6,x7,o,hL,rfl⟩;have g:=jk l (eX hx);refine⟨h9 ns ls L c [s0 (ax kn),y5,s0 (.str l.1),s0 (tK l.2),x7,ab,ab],rfl,?_⟩;refine bT (d:=bH (l.2.map (tv (eY kn)))) (aT (aQ (Nl (Li o8 g.trm) (cL g.ok.1 nofun) rfl rfl) rfl) rfl) (by simp) ?_
    obtain⟨o',eo,Y2,h,L',oL,mo,ne,rfl⟩:=Bu (ns:=ns) (ls:=ls) c1 c6 o g.tab (row:=l.2.map (tv (eY kn))) (by rw[bR];exact g.wd.symm) (s0 (ax kn)) y5 (s0 (tK l.2)) ab ab
    refine⟨o',eo,_,h,L',_,_,_,oL,λl' m=>?_,rfl⟩
    rw[wC,hx] at m;rcases dH.1 m with m|m
    .exact mo _ (hL l' m)
    .cases cM.1 m;exact ne
   .rintro _ ⟨L,x5,x6,x7,o,hL,rfl⟩;rw[rE] at hL;exact⟨_,rfl,L,x5,x6,x7,o,hL,rfl⟩
  rintro _ ⟨L,y6,y7,y8,o,hL,rfl⟩;refine eG (λY'=>∃ L:List Tb,BkG c L/\Y'=h9 ns ls L c [s0 (ax kn),y5,y6,y7,y8,ab,ab]) ?_ ?_
  .obtain⟨u,eu,_⟩:=gV (C 28) (n:=3) ()
   have tt:bV .s (dZ (ak (ah dw (aJ bG (aC (aB 1) aG)) (eC (.int 0)))) (ak (ah dw (ah cC (aJ eK (aC (aB 0) (aC (eC (.int 28)) aG))) (eC (.int 3))) (eC (.int 0))))) (h9 ns ls L c [s0 (ax kn),y5,y6,y7,y8,ab,ab])=aa (decide (0<ls.length)&&decide (0<u)):=kT (cF (aN (xh _ rfl) rfl (nr _))) λ_=>cF (aN (aN (hC.at () rfl rfl) rfl eu) rfl (nr u))
   by_cases h:(decide (0<ls.length)&&decide (0<u))=af
   .rw[h] at tt;have h2:=of_decide_eq_true (gE.1 h).1;obtain⟨i,ei,hi,_⟩:=gV (C 28/(3:Nat)) (n:=ls.length) h2;obtain⟨a1,a3⟩:=o.atR (ls.getD i bo).1;refine dC tt (Py rfl (aN (aN rfl (aN (aN (hC.at () rfl rfl) rfl (jC _ 3 ())) (xh _ rfl) ei) (jZ hi)) rfl rfl) (hL _ (getD_mem bo hi)) ⟨_,rfl,_,o.upd (cL (by rw[List.length_dropLast];lia) a1) λr m=>a3 r (List.dropLast_subset _ m),rfl⟩)
   .rw[NW.2 h] at tt;exact eU tt (gH ⟨_,rfl,L,o,rfl⟩)
  clear hL o;rintro _ ⟨L,o,rfl⟩;refine eG (λY'=>∃ (L:List Tb) (x5 x6 x8 x9 ce:L2.Slot),BkG c L/\Y'=h9 ns ls L c [s0 (ax kn),x5,x6,y7,x8,x9,ce]) ?_ ?_
  .refine jG (xs:=[((1:Nat),("t" : aE)),(2,"p"),(3,"pa"),(4,"pap")]) (q:=λp=>dG [.int p.1,.str p.2]) (b0:=Unit.unit) (λ_ _=>Unit.unit) (λi _ Y'=>∃ (L:List Tb) (x5 x6 x8 x9 ce:L2.Slot),BkG c L/\Y'=h9 ns ls L c [s0 (ax kn),x5,x6,y7,x8,x9,ce]) (dm (dE rfl)) ⟨L,y5,y6,y8,ab,ab,o,rfl⟩ ?_ λ_ ⟨L,x5,x6,x8,x9,ce,o,e⟩=>⟨_,rfl,L,x5,x6,x8,x9,ce,o,e⟩
   rintro i ⟨w,t⟩ _ _ hx ⟨L,x5,x6,x8,x9,ce,o,rfl⟩;have hw:(1<=w/\w<=4)/\w=jc t/\t∈ni:=(by decide:∀ p∈[((1:Nat),("t" : aE)),(2,"p"),(3,"pa"),(4,"pap")],(1<=p.1/\p.1<=4)/\p.1=jc p.2/\p.2∈ni) _ (eX hx)
   obtain⟨⟨w1,w3⟩,hw,ht⟩:=hw;refine⟨h9 ns ls L c [s0 (ax kn),x5,s0 (.str t),y7,x8,s0 (.int w),ce],rfl,?_⟩;obtain⟨n,en,hn7,_⟩:=gV (C 29/(w:Nat)) (n:=c+1) ()
   refine uT (λi Y'=>∃ (L:List Tb) (x5 x8 ce:L2.Slot),BkG c L/\Y'=h9 ns ls L c [s0 (ax kn),x5,s0 (.str t),y7,x8,s0 (.int w),ce]) (dm (pG (aQ (aN (aN (hC.at () rfl rfl) rfl (jC _ w ())) (aN rfl rfl (add_n c 1)) en) rfl) ())) ⟨L,x5,x8,ce,o,rfl⟩ ?_ λ_ ⟨L,x5,x8,ce,o,e⟩=>⟨_,.inl rfl,L,x5,_,x8,_,ce,o,e⟩
   rintro k _ hk ⟨L,x5,x8,ce,o,rfl⟩;refine⟨h9 ns ls L c [s0 (ax kn),s0 (.int k),s0 (.str t),y7,x8,s0 (.int w),ce],rfl,?_⟩;refine bT (hC.at () rfl (aN rfl rfl (add_n 29 w))) (by simp) ?_
   generalize C (29+w)=v;have e5:iG (.int 5) (.int k)=aa (.int ((5*k:Nat):Int)):=(qG nofun).trans (by rw[Ep];rfl)
   obtain⟨r,er,hr,_⟩:=RB (cap:=[ab,aa 0,aa 10,aa 5]) (fi:=ip (aC (aB 9) aG)) (T:=gB 0) (t:=cN) (f:=aJ oA (aC (aB 1) (aC (aJ tL (aC (aB 2) (aC (ah dA (ah iG (eC (.int 5)) (aB 3)) (aB 0)) (aC (eC (.int 3)) aG)))) aG))) (Y:=vS (h9 ns ls L c [s0 (ax kn),s0 (.int k),s0 (.str t),y7,x8,s0 (.int w),s0 (.int v)])) bA (λ_=>True) (pG rfl ()) () λj hj=>by
    obtain⟨q,eq,hq⟩:=HM v (k:=((5*k+j:Nat):Int)) () () (n:=3) ()
    obtain⟨y,ey⟩:=vF hC (n:=q) ()
    exact⟨[aa (.int j),aa (lI ns),aa (.int v),aa (.int k)],y,rfl,rfl,aT (aQ rfl (aQ (aT (aQ rfl (aQ (aN (aN rfl rfl e5) rfl (add_n _ j)) rfl)) eq) rfl)) ey,trivial⟩
   refine bT (d:=bH r) (aT (aQ er rfl) rfl) (by simp) ?_
   obtain⟨o',eo,Y2,h,L',oL,_,_,rfl⟩:=Bu (ns:=ns) (ls:=ls) c1 c6 o ht (row:=r) (hr.trans hw) (s0 (ax kn)) (s0 (.int k)) y7 (s0 (.int w)) (s0 (.int v));exact⟨o',eo,_,h,L',_,_,_,oL,rfl⟩
  rintro _ ⟨L,x5,x6,x8,x9,ce,o,rfl⟩;refine gG ?_;show Goes _ [s0 (lI ns),s0 (aw ls),s0 (.dict (bb L)),s0 (.int c),s0 (ax kn),x5,x6,y7,x8,x9,ce] _;have t1:bV .s (ak (ah cb (ah cC (ah dY (aJ eK (aC (aB 0) (aC (eC (.int 29)) aG))) (eC (.int 24))) (eC (.int 2))) (eC (.int 0)))) [s0 (lI ns),s0 (aw ls),s0 (.dict (bb L)),s0 (.int c),s0 (ax kn),x5,x6,y7,x8,x9,ce]=aa (decide (C 29/(24:Nat)%(2:Nat)=0)):=cF (aN (aN (aN (hC.at () rfl rfl) rfl (jC _ 24 ())) rfl (pB _ 2 ())) rfl (uW _ _))
  by_cases h:C 29/(24:Nat)%(2:Nat)=0
  .have hl4:=o.len;have e:=dU (cap:=[ab,ab]) (fi:=ph (aB 2)) (T:=jy 0 1) (t:=ak (ah dw (aJ bG (aC (aB 1) aG)) (eC (.int 0)))) (f:=dI (aC (aB 0) (aC (aB 1) aG))) (Y:=vS [s0 (lI ns),s0 (aw ls),s0 (.dict (bb L)),s0 (.int c),s0 (ax kn),x5,x6,y7,x8,x9,ce]) (λp=>decide (0<p.2.length)) (λp=>dG [.str p.1,aX p.2]) (VP (λp m=>Cw (o.tab p m)) rfl) () λp mp=>⟨[aa (.str p.1),aa (aX p.2)],rfl,cF (aN (aT rfl ((kN _).trans (by rw[bR]))) rfl (nr _)),λ_=>lJ rfl⟩
   exact qO (dC (t1.trans (by rw[decide_eq_true h])) (cJ (aT (aQ e rfl) (SJ (o.out _).nd)) ⟨_,rfl,_,rfl,c,_,rfl,o.out _,c1,c6,cm⟩))
  .exact gX (nG (t1.trans (by rw[decide_eq_false h]))) (cJ rfl ⟨_,rfl,c,L,rfl,o,c1,c6,cm⟩)
 obtain⟨d,e,c,L,rfl,o⟩:=this;exact⟨c,L,e,o⟩
end
theorem Jj{P:Out->Prop}{fv:EF}{key:aH}{n:Int}(hk:fk (vA Y)=aa (kD key))(hv:fv (vS Y)=aa (.int n))(hg:lB j Y=aa kds)(hl:kds.length<=1000)(k1:∀ d,bJ kds key=aa d->P (.nx Y))(k2:bJ kds key=ab->P (.nx (Y.set j (aa (1,.dict (kds++[(kD key,.int n)])))))):Goes (wV j .a fk .s fv) Y P:=by
 have e1:eV 0 .a fk Y=aa (kD key):=qe hk (by cases key<;>rfl)
 have e2:eV 0 .s fv Y=aa (.int n):=hv;cases h:bJ kds key with
 |some d=>
  refine⟨_,?_,k1 d h⟩;unfold wV;rw[e1,bB,e2,bB,iN,bB,hg,bB];show(if kds.length<sizeLine then _ else ab)=_
  rw[if_pos (nQ ()),h]
 |none=>
  refine⟨_,?_,k2 h⟩;unfold wV;rw[e1,bB,e2,bB,iN,bB,hg,bB];show(if kds.length<sizeLine then _ else ab)=_
  rw[if_pos (nQ ()),h]
  have hn:¬ (kds.any λkd=>decide (bM kd.1=aa key))=af:=λq=>by
   have h:=rJ.1 (tX.1 h);obtain⟨kd,m,e⟩:=iF.1 q;exact h kd m e
  show aa (Out.nx (Y.set j (aa (1,.dict (putD kds key (.int n))))))=_;unfold putD;rw[if_neg hn]
theorem TZ (kds:List (aA×aA))(key k:aH)(d:aA):bJ (kds++[(kD key,d)]) k=(bJ kds k).or (if key=k then aa d else ab):=by
 unfold bJ;rw[Em];cases h:kds.find? λkd=>decide (bM kd.1=aa k) with
 |some p=>rfl
 |none=>
  rw[Option.none_or,fH];simp only[iN];by_cases e:key=k
  .rw[if_pos e,e,decide_eq_true rfl];rfl
  .rw[if_neg e,decide_eq_false λz=>e (gQ z)];rfl
def KV (kds:List (aA×aA))(hd:List aH):Prop:=(∀ k d,bJ kds k=aa d->∃ n:Int,d=.int n)/\∀ x∈hd,∃ n:Int,bJ kds x=aa (.int n)
section
variable (hC:Cl ns C)
include hC
theorem Ta(hn:ls.length<=5)(jk:∀ l∈ls,LnG ns l):∃ (hd:List aH) (row:List Int),LJ [lI ns,aw ls]=aa (.list [tK hd,tI row])/\hd.length<=4/\∀ x∈hd,gv ns x:=by
 have:∃ d,LJ [lI ns,aw ls]=aa d/\∃ (hd:List aH) (row:List Int),d=.list [tK hd,tI row]/\hd.length<=4/\∀ x∈hd,gv ns x:=by
  rw[7];refine bT (d:=lK []) rfl (by simp) ?_
  let R:List aH->List L2.Slot->aP:=λks r=>s0 (lI ns)::s0 (aw ls)::s0 (lK ks)::r
  refine eG (λY'=>∃ (ks:List aH) (x3:L2.Slot),ks.length<=100/\(∀ x∈ks,gv ns x)/\Y'=R ks [x3,ab,ab,ab,ab,ab]) ?_ ?_
  .refine jG (xs:=ls) (q:=bD) (λ_ _=>Unit.unit) (λi (_:Unit) Y'=>∃ (ks:List aH) (x3:L2.Slot),ks.length<=6*i/\(∀ x∈ks,gv ns x)/\Y'=R ks [x3,ab,ab,ab,ab,ab]) (b0:=Unit.unit) (dm (jX rfl)) ⟨[],ab,bI _,(λ_ h=>nomatch h),rfl⟩ ?_ ?_
   .rintro i l _ _ hi ⟨ks,x3,hl,hk,rfl⟩;have g:=jk l (eX hi);have il:=(cW.1 hi).1;have l6:=g.ok.1;refine⟨R ks [s0 (bD l),ab,ab,ab,ab,ab],rfl,?_⟩;have e:=dU (cap:=[ab]) (fi:=ay (ah ao (aB 3) (eC (.int 1)))) (T:=gB 0) (t:=ak (ff (fD "str") (aB 0))) (f:=aB 0) (Y:=vS (R ks [s0 (bD l),ab,ab,ab,ab,ab])) (xs:=l.2) (q:=kD) qg kD (jX rfl) () λt _=>⟨[aa (kD t)],rfl,cF (uG rfl (by rw[uU];cases t<;>rfl)),λ_=>rfl⟩
    have fl:=oW qg l.2;refine sU (d:=lK (ks++l.2.filter qg)) (aN rfl e ((BH (by simp;lia)).trans (by rw[lK,gJ]))) (by simp[R]) ⟨_,.inl rfl,ks++l.2.filter qg,_,by rw[jS];lia,λx m=>?_,rfl⟩
    rcases dH.1 m with m|m
    .exact hk x m
    .exact g.trm x (gC.1 m).1
   .rintro _ ⟨ks,x3,hl,hk,rfl⟩;exact⟨_,rfl,ks,x3,(),hk,rfl⟩
  rintro _ ⟨ks,x3,hl,hk,rfl⟩;refine bT (d:=lK []) rfl (by simp[R]) ?_
  refine bT (d:=.dict []) rfl (by simp[R]) ?_
  obtain⟨n,en,hn5,_⟩:=gV (C 49) (n:=4) ()
  let A:List aH->List (aA×aA)->L2.Slot->L2.Slot->aP:=λhd kds x6 x7=>R ks [x3,aa (1,lK hd),aa (1,.dict kds),x6,x7,ab]
  refine eG (λY'=>∃ (hd:List aH) (kds:List (aA×aA)) (x6 x7:L2.Slot),hd.length<=4/\(∀ x∈hd,gv ns x)/\KV kds hd/\Y'=A hd kds x6 x7) ?_ ?_
  .refine uT (λi Y'=>∃ (hd:List aH) (kds:List (aA×aA)) (x6 x7:L2.Slot),hd.length=i/\kds.length<=i/\(∀ x∈hd,gv ns x)/\KV kds hd/\Y'=A hd kds x6 x7) (dm (pG (aQ (aN (hC.at () rfl rfl) rfl en) rfl) ())) ⟨[],[],ab,ab,rfl,bI _,(λ_ h=>nomatch h),⟨(λk d h=>by cases h),(λ_ h=>nomatch h)⟩,rfl⟩ ?_ λ_ ⟨hd,kds,x6,x7,h1,_,h2,h3,e⟩=>⟨_,rfl,hd,kds,x6,x7,(),h2,h3,e⟩
   rintro j _ hj ⟨hd,kds,x6,x7,h1,h4,h2,⟨v1,v2⟩,rfl⟩;refine⟨A hd kds (s0 (.int j)) x7,rfl,?_⟩;refine bT (hC.at () rfl (aN rfl rfl (add_n 50 j))) (by simp[A,R]) ?_
   generalize C (50+j)=c;obtain⟨i,ei,hi,_⟩:=gV (c/(40:Nat)) (n:=3) ()
   obtain⟨y,ey⟩:=vF hC (n:=i) ()
   obtain⟨p,ep,hp,_⟩:=gV c (n:=ks.length+1) ()
   obtain⟨i2,F6,hi2,_⟩:=gV (c/(120:Nat)) (n:=3) ()
   obtain⟨y2,F7⟩:=vF hC (n:=i2) ()
   have uj:p<(ks++[(.inl y:aH)]).length:=by simp;lia
   have lk:bG [lK ks]=aa (.int ks.length):=by simp[bG]
   have tx:gv ns ((ks++[(.inl y:aH)])[p]):=by
    rcases dH.1 (kH uj) with q|q
    .exact hk _ q
    .rw[cM.1 q];exact .inl ⟨y,rfl⟩
   refine eG (λY'=>∃ x:aH,gv ns x/\Y'=A (hd++[x]) kds (s0 (.int j)) (s0 (.int c))) (qN (d:=kD ((ks++[(.inl y:aH)])[p])) (aN (a:=lK (ks++[(.inl y:aH)])) (aN rfl (uQ (aQ (aT (aQ rfl (aQ (aN (aN rfl rfl (jC c 40 ())) rfl ei) rfl)) ey) rfl)) ((BH (by simp;lia)).trans (by rw[lK,gJ];rfl))) (aN rfl (aN (aT rfl lk) rfl (add_n ks.length 1)) ep) (xV (eR uj))) rfl (by simp;lia) ⟨_,rfl,_,tx,by simp[A,R,lK]⟩) ?_
   rintro _ ⟨x,hx,rfl⟩;have nv:∀ y∈hd++[x],gv ns y:=λy m=>by
    rcases dH.1 m with m|m
    .exact h2 y m
    .rw[cM.1 m];exact hx
   refine Jj (key:=x) (aN rfl rfl (xV (xs:=hd++[x]) (q:=kD) (by simp[<-h1]))) (aT (aQ rfl (aQ (aN (aN rfl rfl (jC c 120 ())) rfl F6) rfl)) F7) rfl () (λd km=>⟨_,.inl rfl,hd++[x],kds,_,_,by simp[h1],(),nv,⟨v1,λy m=>?_⟩,rfl⟩) λhz=>⟨_,.inl rfl,hd++[x],kds++[(kD x,.int y2)],_,_,by simp[h1],by simp;lia,nv,⟨λk d h=>?_,λy m=>?_⟩,rfl⟩
   .rcases dH.1 m with m|m
    .exact v2 y m
    .obtain⟨u,rfl⟩:=v1 _ _ km;rw[cM.1 m];exact⟨u,km⟩
   .rw[TZ] at h;cases q:bJ kds k with
    |some d'=>
     rw[q] at h;cases h;exact v1 k _ q
    |none=>
     rw[q,Option.none_or] at h;split at h
     .cases h;exact⟨_,rfl⟩
     .cases h
   .rw[TZ];rcases dH.1 m with m|m
    .obtain⟨u,eu⟩:=v2 y m;exact⟨u,by rw[eu];rfl⟩
    .rw[cM.1 m,hz,if_pos rfl];exact⟨_,rfl⟩
  rintro _ ⟨hd,kds,x6,x7,h1,h2,⟨v1,v2⟩,rfl⟩;refine gG (gG ?_)
  let S:L2.Slot->aP:=λx=>R ks [x3,s0 (lK hd),s0 (.dict kds),x6,x7,x]
  show Goes _ (S ab) _
  let val:aH->Int:=λx=>match x with
   |.inl i=>i
   |.inr z=>match bJ kds (.inr z) with
    |some (.int n)=>n
    |_=>0
  have e:=dU (cap:=[ab,aa 5]) (fi:=ay (aB 4)) (T:=gB 0) (t:=cN) (f:=xm (ak (ff (fD "str") (aB 0))) (ah ao (aB 1) (aB 0)) (aB 0)) (Y:=vS (S ab)) (xs:=hd) (q:=kD) (λ_=>af) (λx=>bA (val x)) (dE rfl) () λx mx=>⟨[aa (kD x),aa (.dict kds)],rfl,rfl,λ_=>by
   obtain⟨u,eu⟩:=v2 x mx;cases x with
   |inl i=>rfl
   |inr z=>
    show bJ kds (.inr z)=aa (.int (match bJ kds (.inr z) with|some (.int n)=>n|_=>0))
    rw[eu]⟩
  rw[iK.2 λ_ _=>rfl] at e
  refine bT (d:=.list ((hd.map val).map bA)) (e.trans (by rw[eE];rfl)) (by simp[S,R]) ?_
  have lr:(hd.map val).length<=4:=by rw[bR];exact h1
  generalize hd.map val=r at lr;obtain⟨u,eu,hu,_⟩:=gV (C 49/(4:Nat)) (n:=8) ()
  have du:∀ Y:aP,(vS Y)[0]?.join=aa (lI ns)->ah cC (ah dY (aJ eK (aC (aB 0) (aC (eC (.int 49)) aG))) (eC (.int 4))) (eC (.int 8)) (vS Y)=aa (.int u):=λY h=>aN (aN (hC.at () h rfl) rfl (jC _ 4 ())) rfl eu
  have F8:∀ Y:aP,(vA Y)[0]?.join=aa (lI ns)->ah cC (ah dY (aJ eK (aC (aB 0) (aC (eC (.int 49)) aG))) (eC (.int 4))) (eC (.int 8)) (vA Y)=aa (.int u):=λY h=>aN (aN (hC.at () h rfl) rfl (jC _ 4 ())) rfl eu
  refine eG (λY'=>∃ r:List Int,r.length<=5/\Y'=S (aa (1,.list (r.map bA)))) ?_ ?_
  .have tt:bV .s (ak (ah cb (ah cC (ah dY (aJ eK (aC (aB 0) (aC (eC (.int 49)) aG))) (eC (.int 4))) (eC (.int 8))) (eC (.int 0)))) (S (aa (1,.list (r.map bA))))=aa (decide (u=0)):=cF (aN (du _ rfl) rfl (k3 u 0));by_cases h:u=0
   .exact dC (tt.trans (by rw[decide_eq_true h])) (qN (d:=.int 5) rfl rfl (by simp;lia) ⟨_,rfl,r++[5],by simp;lia,by simp[S,R]⟩)
   .exact eU (tt.trans (by rw[decide_eq_false h])) (gH ⟨_,rfl,r,(),rfl⟩)
  clear lr;rintro _ ⟨r,lr,rfl⟩;refine eG (λY'=>∃ r:List Int,Y'=S (aa (1,.list (r.map bA)))) ?_ ?_
  .have l8:aJ bG (aC (aB 8) aG) (vA (S (aa (1,.list (r.map bA)))))=aa (.int r.length):=aT rfl ((kN _).trans (by rw[bR]))
   have tt:bV .a (dZ (ak (ah cb (ah cC (ah dY (aJ eK (aC (aB 0) (aC (eC (.int 49)) aG))) (eC (.int 4))) (eC (.int 8))) (eC (.int 1)))) (ak (ah dw (aJ bG (aC (aB 8) aG)) (eC (.int 0))))) (S (aa (1,.list (r.map bA))))=aa (decide (u=1)&&decide (0<r.length)):=kT (cF (aN (F8 _ rfl) rfl (k3 u 1))) λ_=>cF (aN l8 rfl (nr _))
   by_cases h:(decide (u=1)&&decide (0<r.length))=af
   .rw[h] at tt;have h2:=of_decide_eq_true (gE.1 h).2;refine dC tt (Yc (d:=.int (r[0]+1)) (j:=((0:Nat):Int)) (aN (aN rfl rfl (xV (q:=bA) (eR h2))) rfl rfl) rfl rfl rfl (qM (by simpa using h2)) ⟨_,rfl,r.set 0 (r[0]+1),by simp[S,R,List.map_set]⟩)
   .rw[NW.2 h] at tt;exact eU tt (gH ⟨_,rfl,r,rfl⟩)
  rintro _ ⟨r,rfl⟩;exact gG (cJ (uQ (aQ (aT rfl rfl) (aQ (aT rfl rfl) rfl))) ⟨_,rfl,hd,r,rfl,h1,h2⟩)
 obtain⟨d,e,hd,row,rfl,h⟩:=this;exact⟨hd,row,e,h⟩
end
theorem As {t:cG}{k:Nat}(h:k<t.length):(t.map aX)[k]?=aa (aX (t.getD k [])):=by rw[fN,getD_some [] h];rfl
theorem Mc{P:Out->Prop}{t:cG}{k:Nat}(hg:mF i Y=aa (t.map aX))(hk:g (vS Y)=aa (.int k))(f7:k<t.length)(hf:f (vA Y)=aa (.int n))(hn:n<(t.getD k []).length)(hm:(t.getD k []).length<=1000)(q:P (.nx (Y.set i (aa (2,au (t.set k ((t.getD k []).eraseIdx n))))))):Goes (DP i .s g .a f) Y P:=⟨_,by
 unfold DP;rw[hg,bB,show eV 0 .s g Y=aa (.int k) from hk,bB]
 simp only[];rw[qM (by rw[bR];exact f7),bB,As f7]
 simp only[aX];rw[qe hf rfl,bB];simp only[];rw[qM (by rw[bR];exact hn),bB,if_pos (mK (by rw[bR];lia))]
 rw[au,<-wY,aX,VL],q⟩
theorem Oj{P:Out->Prop}{t:cG}{k:Nat}(hg:mF i Y=aa (t.map aX))(hk:g (vS Y)=aa (.int k))(f7:k<t.length)(hf:f (vS Y)=aa (bH r))(hm:(t.getD k []).length<=1000)(q:P (.nx (Y.set i (aa (2,au (t.set k (t.getD k []++[r]))))))):Goes (DU i .s g .s f) Y P:=⟨_,by
 unfold DU;rw[hg,bB,show eV 0 .s g Y=aa (.int k) from hk,bB]
 simp only[];rw[qM (by rw[bR];exact f7),bB,As f7]
 simp only[aX];rw[show eV 0 .s f Y=aa (bH r) from hf,bB,if_pos ⟨IM r,nQ (by rw[bR];lia)⟩]
 rw[au,<-wY,aX,gJ]
 rfl,q⟩
theorem Xb{P:Out->Prop}{j:Int}(h:f (vS Y)=aa d)(hg:mF i Y=aa ds)(hk:g (vS Y)=aa (.int j))(hj:fg ds.length j=aa jn)(k:P (.nx (Y.set i (aa (2,.list (ds.set jn d)))))):Goes (sO i .s f .s g) Y P:=⟨_,by
 unfold sO;rw[show eV 1 .s f Y=aa d from h,bB,hg,bB,show eV 0 .s g Y=aa (.int j) from hk,bB]
 simp only[];rw[hj]
 rfl,k⟩
theorem HD {t:cG}{k:Nat}(h:∀ R∈t,R.length<=m)(hR:R.length<=m):∀ R'∈t.set k R,R'.length<=m:=RG h hR
section
variable (hC:Cl ns C)
include hC
theorem Zo{B:aE->List (List Int)}(b:Bk kds B wd)(m1:1<=m)(m9:m<=100)(hB:∀ t,(B t).length<=m)(L:Lok ls){t:cG}(hl:t.length=ls.length)(h6:∀ R∈t,R.length<=m):∃ t':cG,ZC [lI ns,.dict kds,aw ls,au t]=aa (au t')/\t'.length<=6/\∀ R∈t',R.length<=m+1:=by
 have n5:=L.n4
 let S:aA->L2.Slot->Int->L2.Slot->L2.Slot->L2.Slot->aP:=λtd s c x5 x6 x7=>[s0 (lI ns),s0 (.dict kds),s0 (aw ls),s,s0 (.int c),x5,x6,x7]
 have:Goes DB [s0 (lI ns),s0 (.dict kds),s0 (aw ls),aa (2,au t),ab,ab,ab,ab] λo=>∃ d,o=.rt d/\∃ t':cG,d=au t'/\t'.length<=6/\∀ R∈t',R.length<=m+1:=by
  refine bT (hC.at (k:=54) () rfl rfl) (by simp) ?_
  generalize C 54=c;have l3:∀ (x5 x6 x7:L2.Slot),aJ bG (aC (aB 3) aG) (vA [s0 (lI ns),s0 (.dict kds),s0 (aw ls),aa (2,au t),s0 (.int c),x5,x6,x7])=aa (.int t.length):=λ_ _ _=>aT rfl ((kN _).trans (by rw[bR]))
  obtain⟨M,eM,M1,M2⟩:∃ M:Nat,rA [.int 1,.int t.length]=aa (.int M)/\1<=M/\(0<t.length->M=t.length):=by
   refine⟨max 1 t.length,?_,(),λ_=>()⟩
   show aa (bA (if (t.length:Int) > 1 then(t.length:Int) else 1))=_
   congr 2
   split<;>lia
  obtain⟨i,ei,hi,_⟩:=gV (c/(6:Nat)) (n:=M) M1;refine HG (aN (aN rfl rfl (jC c 6 ())) (aT (aQ rfl (aQ (l3 _ _ _) rfl)) eM) ei) rfl (by simp) ?_
  obtain⟨u,eu,hu,_⟩:=gV c (n:=6) ()
  let T:L2.Slot->L2.Slot->L2.Slot->aP:=λs x6 x7=>[s0 (lI ns),s0 (.dict kds),s0 (aw ls),s,s0 (.int c),s0 (.int i),x6,x7]
  show Goes _ (T (aa (2,au t)) ab ab) _;have eA:∀ (s x6 x7:L2.Slot) (j:Nat),ak (ah cb (ah cC (aB 4) (eC (.int 6))) (eC (.int j))) (vA (T s x6 x7))=aa (decide (u=j)):=λs x6 x7 j=>cF (aN (aN rfl rfl eu) rfl (k3 u j))
  have eS:∀ (s x6 x7:L2.Slot) (j:Nat),ak (ah cb (ah cC (aB 4) (eC (.int 6))) (eC (.int j))) (vS (T s x6 x7))=aa (decide (u=j)):=λs x6 x7 j=>cF (aN (aN rfl rfl eu) rfl (k3 u j))
  have g0:ak (ah dw (aJ bG (aC (aB 3) aG)) (eC (.int 0))) (vA (T (aa (2,au t)) ab ab))=aa (decide (0<t.length)):=cF (aN (l3 _ _ _) rfl (nr _));refine eG (λY'=>∃ (t':cG) (k:Nat) (x6 x7:L2.Slot),(t'.length<=6/\∀ R∈t',R.length<=m+1)/\Y'=T (aa (k,au t')) x6 x7) ?_ ?_
  .have j6:0<t.length->i<t.length:=λh=>by have:=M2 h;lia
   have few:∀ k,(t.getD k []).length<=m:=λk=>by
    by_cases hk:k<t.length
    .rw[hG,eR hk];exact h6 _ (kH hk)
    .rw[hG,zQ (Eb hk)];exact eB _
   have ti:∀ (x6 x7:L2.Slot),i<t.length->ah ao (aB 3) (aB 5) (vA (T (aa (2,au t)) x6 x7))=aa (aX (t.getD i [])):=λ_ _ h=>aN rfl rfl (nK h)
   have y9:i<t.length->aJ bG (aC (ah ao (aB 3) (aB 5)) aG) (vA (T (aa (2,au t)) ab ab))=aa (.int (t.getD i []).length):=λh=>aT (aQ (ti _ _ h) rfl) ((kN _).trans (by rw[bR]))
   have t6:t.length<=6:=()
   have h7:∀ R∈t,R.length<=m+1:=λR mR=>wA (h6 R mR)
   obtain⟨p,hp⟩:∃ p,p=(decide (u=1)&&(decide (0<t.length)&&decide (0<(t.getD i []).length))):=⟨_,rfl⟩;have c1:bV .a (dZ (ak (ah cb (ah cC (aB 4) (eC (.int 6))) (eC (.int 1)))) (dZ (ak (ah dw (aJ bG (aC (aB 3) aG)) (eC (.int 0)))) (ak (ah dw (aJ bG (aC (ah ao (aB 3) (aB 5)) aG)) (eC (.int 0)))))) (T (aa (2,au t)) ab ab)=aa p:=by
    rw[hp];exact kT (eA _ _ _ 1) λ_=>kT g0 λh=>cF (aN (y9 (j6 (of_decide_eq_true h))) rfl (nr _))
   have c2:bV .a (dZ (ak (ah cb (ah cC (aB 4) (eC (.int 6))) (eC (.int 2)))) (ak (ah dw (aJ bG (aC (aB 3) aG)) (eC (.int 0))))) (T (aa (2,au t)) ab ab)=aa (decide (u=2)&&decide (0<t.length)):=kT (eA _ _ _ 2) λ_=>g0
   have c3:bV .a (dZ (ak (ah cb (ah cC (aB 4) (eC (.int 6))) (eC (.int 3)))) (ak (ah dw (aJ bG (aC (aB 3) aG)) (eC (.int 0))))) (T (aa (2,au t)) ab ab)=aa (decide (u=3)&&decide (0<t.length)):=kT (eA _ _ _ 3) λ_=>g0
   cases p with
   |true=>
    obtain⟨_,h⟩:=gE.1 hp.symm;obtain⟨h1,h2⟩:=gE.1 h;have h1:=j6 (of_decide_eq_true h1);have h2:=of_decide_eq_true h2;obtain⟨n,en,hn,_⟩:=gV (c/(24:Nat)) (n:=(t.getD i []).length) h2;exact dC c1 (Mc rfl rfl h1 (aN (aN rfl rfl (jC c 24 ())) (y9 h1) en) hn (cL (few i) ()) ⟨_,rfl,_,2,ab,ab,⟨by rw[rG];exact t6,HD h7 (cL (List.length_eraseIdx_le _ _) (wA (few i)))⟩,rfl⟩)
   |false=>
    refine eU c1 ?_;cases q:(decide (u=2)&&decide (0<t.length)) with
    |true=>
     rw[q] at c2;refine dC c2 ?_;have h1:=j6 (of_decide_eq_true (gE.1 q).2);have nu:i<ls.length:=()
     have ok:=(L.ok _ (getD_mem bo nu)).1;obtain⟨v,ev,hv,_⟩:=gV (c/(24:Nat)) (n:=4) ()
     obtain⟨w,ew,hw⟩:∃ w:Nat,ah dA (aJ bG (aC (ah ao (ah ao (aB 2) (aB 5)) (eC (.int 1))) aG)) (aJ AH (aC (ah cb (ah cC (ah dY (aB 4) (eC (.int 24))) (eC (.int 4))) (eC (.int 0))) aG)) (vS (T (aa (2,au t)) ab ab))=aa (.int w)/\w<=7:=by
      refine⟨(ls.getD i bo).2.length+if v=0 then 1 else 0,aN (aT (aQ (aN (aN rfl rfl (jZ nu)) rfl rfl) rfl) ((lM _).trans (by rw[bR]))) (b:=.int ((if v=0 then 1 else 0:Nat):Int)) (aT (aQ (aN (aN (aN rfl rfl (jC c 24 ())) rfl ev) rfl (k3 v 0)) rfl) ?_) (add_n _ _),by split<;>lia⟩
      by_cases z:v=0
      .rw[if_pos z,decide_eq_true z];rfl
      .rw[if_neg z,decide_eq_false z];rfl
     refine bT ew (by simp[T]) ?_
     show Goes _ (T (aa (2,au t)) (s0 (.int w)) ab) _;obtain⟨r,er,hr,_⟩:=RB (cap:=[ab,aa 0,aa 4]) (fi:=ip (aC (aB 6) aG)) (T:=gB 0) (t:=cN) (f:=aJ oA (aC (aB 1) (aC (aJ tL (aC (aB 2) (aC (aB 0) (aC (eC (.int 3)) aG)))) aG))) (Y:=vS (T (aa (2,au t)) (s0 (.int w)) ab)) bA (λ_=>True) (pG rfl ()) () λj hj=>by
      obtain⟨q,eq,hq⟩:=HM c (k:=j) () () (n:=3) ()
      obtain⟨y,ey⟩:=vF hC (n:=q) ()
      exact⟨[aa (.int j),aa (lI ns),aa (.int c)],y,rfl,rfl,aT (aQ rfl (aQ (aT rfl eq) rfl)) ey,trivial⟩
     refine bT er (by simp[T]) (gG ?_)
     show Goes _ (T (aa (2,au t)) (s0 (.int w)) (s0 (.list (r.map bA)))) _;have cn:bV .a (ak (ah (dy af) (aJ hX (aC (aB 7) aG)) (ah ao (aB 3) (aB 5)))) (T (aa (2,au t)) (s0 (.int w)) (s0 (.list (r.map bA))))=aa (af != decide (r∈t.getD i [])):=cF (aN (aT rfl rfl) (ti _ _ h1) (HS af r _));by_cases hm:r∈t.getD i []
     .exact eU (cn.trans (by rw[decide_eq_true hm];rfl)) (gH ⟨_,rfl,t,2,_,_,⟨t6,h7⟩,rfl⟩)
     .exact dC (cn.trans (by rw[decide_eq_false hm];rfl)) (Oj rfl rfl h1 (aT rfl rfl) (cL (few i) ()) ⟨_,rfl,_,2,_,_,⟨by rw[rG];exact t6,HD h7 (by rw[jS];exact Nat.succ_le_succ (few i))⟩,rfl⟩)
    |false=>
     rw[q] at c2;refine eU c2 ?_;cases q3:(decide (u=3)&&decide (0<t.length)) with
     |true=>
      rw[q3] at c3;have h1:=j6 (of_decide_eq_true (gE.1 q3).2);have nu:i<ls.length:=()
      refine dC c3 (Xb (d:=aX (B (ls.getD i bo).1)) (aT (aQ (b.get rfl (aN (aN rfl rfl (jZ nu)) rfl rfl)) rfl) rfl) rfl rfl (qM (by rw[bR];exact h1)) ⟨_,rfl,t.set i (B (ls.getD i bo).1),2,ab,ab,⟨by rw[rG];exact t6,HD h7 (wA (hB _))⟩,by rw[wY];rfl⟩)
     |false=>
      rw[q3] at c3;refine eU c3 ?_;by_cases h4:u=4
      .refine dC ((eS _ _ _ 4).trans (by rw[decide_eq_true h4])) (gG ?_)
       show Goes _ (T (s0 (au t)) ab ab) _;refine sU (d:=au (t.drop 1)) ?_ (by simp[T]) ⟨_,rfl,t.drop 1,0,ab,ab,⟨by rw[Eh];lia,λR mR=>h7 R (List.mem_of_mem_drop mR)⟩,rfl⟩
       cases t with
       |nil=>rfl
       |cons R t=>exact(Iq (l:=aa ((1:Nat):Int)) rfl rfl rfl).trans (by rw[SE 1 (by simp)];rfl)
      .refine eU ((eS _ _ _ 4).trans (by rw[decide_eq_false h4])) ?_
       by_cases h5:u=5
       .refine dC ((eS _ _ _ 5).trans (by rw[decide_eq_true h5])) (gG ?_)
        show Goes _ (T (s0 (au t)) ab ab) _;refine sU (d:=au (t++[[[1,2]]])) (aN rfl rfl ((BH (by simp;lia)).trans (by rw[au,gJ];rfl))) (by simp[T]) ⟨_,rfl,t++[[[1,2]]],0,ab,ab,⟨by rw[jS];simp;lia,λR mR=>?_⟩,rfl⟩
        rcases dH.1 mR with z|z
        .exact h7 R z
        .rw[cM.1 z];simp
       .exact eU ((eS _ _ _ 5).trans (by rw[decide_eq_false h5])) (gH ⟨_,rfl,t,2,ab,ab,⟨t6,h7⟩,rfl⟩)
  rintro _ ⟨t',k,x6,x7,h,rfl⟩;exact gG (cJ rfl ⟨_,rfl,t',rfl,h⟩)
 obtain⟨o,e,d,rfl,t',rfl,h⟩:=this;exact⟨t',by
  show outD (DB [s0 (lI ns),s0 (.dict kds),s0 (aw ls),aa (2,au t),ab,ab,ab,ab])=_;rw[e]
  rfl,h⟩
end
theorem Kf(hn:ls.length<=5)(h:∀ l∈ls,LnG ns l):Lok ls:=⟨λl m=>(h l m).ok,λl m=>by rw[<-(h l m).wd];exact(Ba l.1).1,hn⟩
theorem QT {t:cG}(h:∀ k,(t.getD k []).length<=m):∀ R∈t,R.length<=m:=λR mR=>by
 obtain⟨k,hk,rfl⟩:=rH mR;have:=h k
 rwa [hG,eR hk] at this
theorem Cj {t:cG}(h:∀ R∈t,R.length<=m):∀ k,(t.getD k []).length<=m:=λk=>by
 by_cases hk:k<t.length
 .rw[hG,eR hk];exact h _ (kH hk)
 .rw[hG,zQ (Eb hk)];exact eB _
theorem ZV {a b:BF}{Y:List (Option aA)}(h:a Y=aa ag)(h2:b Y=aa ag):l9 a b Y=aa ag:=by
 unfold l9;rw[h];exact h2
theorem Wh(h:n<=4096):sN [.int n]=aa (lN (cP n)):=by
 show(if -4096<=(n:Int)/\(n:Int)<=4096 then aa (vX (L2.upTo (n:Int).toNat)) else ab)=_
 rw[if_pos ⟨(),()⟩]
 rfl
open Classical in
theorem Zg {B:aE->List (List Int)}{t:cG}(h:jB B ls t=af):kP (jo ls (ls.map λl=>B l.1) (cP ls.length))=[]:=by
 unfold jB at h;obtain⟨_,h2,h3⟩:=of_decide_eq_true h;refine tY λz=>?_
 obtain⟨v,hv⟩:=Aqv.1 z;refine h3 ⟨v,Tf h2 λk hk=>?_⟩
 have:=hv (ls.getD k bo,(ls.map λl=>B l.1).getD k []) (bU.2 ⟨k,iS.2 hk,rfl⟩)
 rw[show(ls.map λl=>B l.1).getD k []=B (ls.getD k bo).1 by rw[hG,fN,getD_some bo hk];rfl] at this
 exact this
theorem Lj (ns:List Int)(_:ns.length<=63)(_:xG ns):GB [.list (ns.map .int)]=aa (.bool af):=by
 obtain⟨C,hC⟩:=Gp ns;obtain⟨ls,el,hn,jk⟩:=Wc hC;obtain⟨c,L,eL,o,c1,c6,cm⟩:=Ob hC hn jk;obtain⟨hd,row,eh,hh,hk⟩:=Ta hC hn jk;have K:=Kf hn jk;have b:=o.bk c6;have hB:∀ t,(bq L t).length<=c:=λt=>(o.atR t).1
 have:∃ d,GB [lI ns]=aa d/\d=.bool af:=by
  rw[7];refine bT (aT rfl el) (by simp) (bT (aT rfl eL) (by simp) (RC (aT rfl eh) rfl ?_))
  refine bT (aT rfl (uR hd row ())) (by simp) ?_
  refine bT (aT (aQ rfl (aQ (lJ (aQ rfl (aQ rfl rfl))) (aQ rfl (aQ rfl rfl)))) (Ye (a:=(hd,ls)) (by show hd.length<=6;lia) row)) (by simp) ?_
  have rt:=λ{t:cG} (h6:∀ R∈t,R.length<=c+1) (t9:t.length<=1000)=>Wi o (m:=c+1) () () c6 (a:=(hd,ls)) (by show hd.length<=6;lia) K cm h6 t9 row
  unfold uI at rt;cases hf:cH hd row [] with
  |none=>
   simp only[hf] at rt;refine rY (ZV rfl rfl) ?_;obtain⟨t,et,lt,ht⟩:=Cf b (m:=c) () hB K
   exact xF (dC rfl (bT (aT rfl et) (by simp) (cJ (aT (aQ rfl (aQ (lJ (aQ rfl (aQ rfl rfl))) (aQ rfl (aQ rfl (aQ rfl rfl))))) (rt (λR mR=>wA (QT ht R mR)) ())) ⟨_,rfl,_,rfl,rfl⟩)))
  |some kn=>
   simp only[hf] at rt;refine rY (ZV rfl rfl) (rY rfl ?_);have K':=Ck K kn;have n':(ls.map (jM kn)).length=ls.length:=bR _;have e:=dU (cap:=[ab,aa 5]) (fi:=ay (aB 1)) (T:=gB 0) (t:=cN) (f:=dI (aC (ah ao (aB 0) (eC (.int 0))) (aC (aJ hX (aC (bu [ab,aa 1] (ay (ah ao (aB 0) (eC (.int 1)))) (gB 0) cN (fW (aB 1) (aB 0) (aB 0))) aG)) aG))) (Y:=vS [s0 (lI ns),s0 (aw ls),s0 (.dict (bb L)),s0 (tK hd),s0 (tI row),s0 (ax kn),s0 (.bool ag),ab,ab,ab,ab]) (xs:=ls) (q:=bD) (λ_=>af) (λl=>bD (jM kn l)) (jX rfl) () λl ml=>⟨[aa (bD l),aa (ax kn)],rfl,rfl,λ_=>by
    have l6:=(K.ok l ml).1;have e:=dU (cap:=[ab,aa 1]) (fi:=ay (ah ao (aB 0) (eC (.int 1)))) (T:=gB 0) (t:=cN) (f:=fW (aB 1) (aB 0) (aB 0)) (Y:=[aa (bD l),aa (ax kn)]) (xs:=l.2) (q:=kD) (λ_=>af) (λk=>kD (mE kn k)) (jX rfl) () λk mk=>⟨[aa (kD k),aa (ax kn)],rfl,rfl,λ_=>by
     cases k with
     |inl i=>
      rw[pH rfl rfl rfl rfl (ki kn),II]
      rfl
     |inr z=>
      rw[pH rfl rfl rfl rfl (ki kn),pI];unfold mE;dsimp only;cases bF kn z<;>rfl⟩
    rw[iK.2 λ_ _=>rfl] at e
    refine lJ (aQ (aN rfl rfl rfl) (aQ (d:=tK (l.2.map (mE kn))) (aT (aQ e rfl) ?_) rfl));show aa (dG _)=aa (dG ((l.2.map (mE kn)).map kD));rw[eE]
    rfl⟩
   rw[iK.2 λ_ _=>rfl] at e
   refine bT (d:=aw (ls.map (jM kn))) (aT (aQ e rfl) (by rw[aw,eE];rfl)) (by simp) ?_
   generalize ls.map (jM kn)=ky at *;obtain⟨t,et,lt,ht⟩:=Cf b (m:=c) () hB K'
   obtain⟨t',es,ls6,sw⟩:=Zo hC b c1 () hB K' lt (QT ht)
   refine bT (aT (aQ rfl (aQ rfl (aQ rfl (aQ (aT rfl et) rfl)))) es) (by simp) ?_
   rw[<-n'] at cm;have ze:=λ{t:cG} (h6:∀ R∈t,R.length<=c+1) (t9:t.length<=1000)=>Qs b (m:=c+1) () K' cm (Cj h6) () t9
   refine bT (aT rfl (ze sw ())) (by simp) ?_
   refine gX (Hz (QM (aT (aQ rfl (aQ (lJ (aQ rfl (aQ rfl rfl))) (aQ rfl (aQ rfl (aQ rfl rfl))))) (rt sw ())))) ?_
   let E:cG:=ky.map λl=>bq L l.1
   have hE:∀ R∈E,R.length<=c+1:=λR mR=>by
    obtain⟨l,_,rfl⟩:=bU.1 mR;exact wA (hB _)
   have lE:E.length=ky.length:=bR _;have n5:=K'.n4
   let S:L2.Slot->L2.Slot->aP:=λx9 ce=>[s0 (lI ns),s0 (aw ls),s0 (.dict (bb L)),s0 (tK hd),s0 (tI row),s0 (ax kn),s0 (.bool ag),s0 (au t'),s0 (aw ky),x9,ce]
   have e2:=dU (cap:=[ab,aa 2]) (fi:=ay (aB 8)) (T:=gB 0) (t:=cN) (f:=fW (aB 1) (ah ao (aB 0) (eC (.int 0))) (cU aG)) (Y:=vS (S (s0 (.bool (jB (bq L) ky t'))) ab)) (xs:=ky) (q:=bD) (λ_=>af) (λl=>aX (bq L l.1)) (jX rfl) () λl ml=>⟨[aa (bD l),aa (.dict (bb L))],rfl,rfl,λ_=>b.get rfl (aN rfl rfl rfl)⟩
   rw[iK.2 λ_ _=>rfl] at e2
   refine bT (d:=au E) (e2.trans (by rw[au,eE];rfl)) (by simp) (gG ?_)
   show Goes _ (S (s0 (.bool (jB (bq L) ky t'))) (s0 (au E))) _;have ej:=WI (m:=c+1) () K'.ok lE (Cj hE) (cs:=cP ky.length) (λk mk=>iS.1 mk) (by rw[EL];exact n5) (by rw[EL];exact cm)
   have cj:bV .s (dZ (ak (aB 9)) (ak (aJ yR (aC (aB 8) (aC (aB 10) (aC (aJ sN (aC (aJ bG (aC (aB 8) aG)) aG)) aG)))))) (S (s0 (.bool (jB (bq L) ky t'))) (s0 (au E)))=aa ag:=by
    refine(kT (x:=jB (bq L) ky t') (y:=ag) rfl λhw=>?_).trans (by rw[Bool.and_false])
    have:=Zg hw;rw[decide_eq_false (λz=>z this)] at ej
    exact cF (aT (aQ rfl (aQ rfl (aQ (aT (aQ (aT rfl (by rw[lM,bR])) rfl) (Wh ())) rfl))) ej)
   refine rY cj ?_;refine bT (aT rfl (ze hE ())) (by simp[S]) ?_
   have e3:=dU (cap:=[ab]) (fi:=ay (aB 10)) (T:=gB 0) (t:=cN) (f:=aJ mY (aC (aB 0) aG)) (Y:=vS (S (s0 (.bool (jB (bq L) ky E))) (s0 (au E)))) (xs:=E) (q:=aX) (λ_=>af) aX (dE rfl) () λR mR=>⟨[aa (aX R)],rfl,rfl,λ_=>aT rfl rfl⟩
   rw[iK.2 λ_ _=>rfl] at e3
   exact cJ (aT (aQ rfl (aQ (lJ (aQ rfl (aQ rfl rfl))) (aQ rfl (aQ e3 (aQ rfl rfl))))) (rt hE ())) ⟨_,rfl,rfl⟩
 rw[1]
end Aw
set_option hygiene false in
local macro_rules | `(tactic| sleep 0)=>`(tactic| repeat' first|exact cV _|exact jF|refine gZ ?_ ?_|((with_reducible show PE _ _ _);first|((with_reducible show DF _ _ _ (eC _));first|exact fK|exact GL|exact AW|exact OY|exact Cq)|((with_reducible show DF _ _ _ (ah _ _ _));first|((with_reducible show DF _ _ _ (ah ao _ _));refine nH hv ?_ ?_ (λ_ _=>rfl))|((with_reducible show DF _ _ _ (ah cC _ _));refine GH ?_ ?_)|((with_reducible show DF _ _ _ (ah dY _ _));refine Dh ?_ ?_)|((with_reducible show DF _ _ _ (ah dA _ _));refine GM ?_ ?_)|((with_reducible show DF _ _ _ (ah iG _ _));refine Mo ?_ ?_)|((with_reducible show DF _ _ _ (ah qJ _ _));refine Jp ?_ ?_)|((with_reducible show DF _ _ _ (ah nB _ _));refine Pq ?_ ?_)|((with_reducible show DF 1 _ _ (ah pR _ _));refine Bb ?_ ?_))|((with_reducible show DF _ _ _ (aJ _ _));first|((with_reducible show DF _ _ _ (aJ bG _));refine nX YC VE rfl Q.B.len PySem.boot_len ?_)|((with_reducible show DF _ _ _ (aJ hX _));refine lO Uv Tp rfl Q.B.tuple PyProof.Rows.boot_tuple ?_)|refine sJ (by assumption) (by rw[00]) rfl ?_)|((with_reducible show DF _ _ _ (bu _ _ _ _ _));refine xH hS ?_ (λ_ _ _ _ _=>?_) (λ_ _ _ _ _=>?_))|((with_reducible show DF _ _ _ (ff (fD _) _));refine BC (T:="str") rfl Q.B.isinstance rfl Q.B.str PyProof.Rows.boot_str nofun ?_)|refine uP ?_|refine GS ?_|refine Nt ?_|refine IC hv ?_ ?_ ?_|(refine hZ (n:=1) ?_;first|exact Cq|refine uP ?_|((with_reducible show DF _ _ _ (bu _ _ _ _ _));refine xH hS ?_ (λ_ _ _ _ _=>?_) (λ_ _ _ _ _=>?_))|((with_reducible show DF _ _ _ (ah pR _ _));refine Bb ?_ ?_)|((with_reducible show DF _ _ _ (aJ mY _));refine lO (CU rfl) CN rfl Q.B.list EC ?_)|((with_reducible show DF _ _ _ (aJ _ _));refine sJ (by assumption) (by rw[00]) rfl ?_)))|((with_reducible show PSs _ _ _);first|(with_reducible refine Ou _ ?_)|refine HQ ?_|refine JK ?_ ?_|exact QY)|((with_reducible show PS _ _ _);first|refine Ai _ _ nd rfl (by trivial) ?_|((with_reducible show DS _ _ _ _ _ (cS _ (ay _) _ _));refine xE tW rfl ?_ ?_ ?_)|((with_reducible show DS _ _ _ _ _ (cS _ (ip _) _ _));refine Ms _ tW rfl ?_ ?_ ?_)|refine PL _ ?_ ?_ ?_|refine Zp _ _ ?_|refine GG _ ?_|exact Pu _|refine Pe _ ?_|exact Hc)|((with_reducible show PT _ _ _);first|((with_reducible show DT _ _ (ak (ah cb _ _)));refine jW (sR hu) sI ?_ ?_ (gW _))|((with_reducible show DT _ _ (ak (ah dg _ _)));refine jW (Ac hu) Mp ?_ ?_ (gW _))|((with_reducible show DT _ _ (ak (ah dw _ _)));refine jW DM AO ?_ ?_ (gW _))|((with_reducible show DT _ _ (ak (ah k4 _ _)));refine jW (Bix.or Qx) Le ?_ ?_ (gW _))|((with_reducible show DT _ _ (ak (ah fJ _ _)));refine jW De RY ?_ ?_ (gW _))|((with_reducible show DT _ _ (ak (ah qZ _ _)));refine jW GR HH ?_ ?_ (gW _))|((with_reducible show DT _ _ (ak (ah (dy _) _ _)));first|refine jW (JC hu) xC ?_ ?_ (by with_unfolding_all rfl)|refine jW (XX hu) xC ?_ ?_ (by with_unfolding_all rfl))|refine Jq ?_|((with_reducible show DT _ _ (dZ _ _));refine FQ ?_)|((with_reducible show DT _ _ (l9 _ _));refine FQ ?_)|refine ZZ ?_)|((with_reducible show PW _ _ _);first|refine Br ?_ ?_|refine Ih ?_ ?_|refine QS ?_|refine Lf ?_)|exact qP|refine xM ?_|refine sM ?_|refine UR rfl Q.B.range ?_|exact Lu nd rfl (by trivial)|exact Ng rfl nd rfl rfl (by trivial) (by trivial))
namespace Aw
open PySem L2
variable {K:aM}{n:aE}{i:Nat}
def DV (K:aM):Sp:=λvs H Q _=>∃ (a:aD) (ns:List Int),vs=[.ref a]/\SqL K H a (ns.map V.int)/\ns.length<=63/\xG ns/\∀ H',Q (.bl af) H'
theorem Il:∀ vs H Q E,DV K vs H Q E->ue K 0 GB vs H Q E:=λvs H Q E gh=>by
 obtain⟨a,ns,ev,hS,hl,hb,k⟩:=gh;subst ev;have e0:hid H (λ_=>False)=H:=by
  funext b;unfold hid;rw[if_neg (λz=>z)]
 refine⟨λ_=>False,[.list (ns.map bA)],.bool af,λ_ z=>z.elim,?_,Lj ns hl hb,dJ λv H' _ r=>?_⟩
 .rw[e0];exact Aag.2 ⟨_,_,rfl,Abe.2 ⟨a,_,rfl,hS,VC ns⟩,Aal.2 rfl⟩
 .rw[Aay.1 r];exact k H'
def Hs (K:aM)(n:aE)(i:Nat):Prop:=∃ f fd,Fun K n n (cy i) f fd/\zK K jI n=aa (aa (.ref f))
theorem Bii{f:aD}{od an:Option aD}{sl:Array (Option aF)}{oc kV dc pm cd ct:aF}(a:zK K jI n=aa (aa (.ref f)))(l:K.lookup f=aa ⟨oc,od,.func (vW n n (xU (cy i)) (nR (cy i)) (dD (cy i)) .none kV dc pm an cd ct),sl⟩)(c:MO K cd n=af)(k:EA K (.ref f)=af):Hs K n i:=⟨_,_,Lc (st:=cy i) l c k,a⟩
theorem Bie{i:Int}{t:Tok}(h:zK K jI n=aa (aa (.int i t))):∃ t,zK K jI n=aa (aa (.int i t)):=⟨t,h⟩
structure Al (P:bP)(w:bE)(K:aM)(mg:aE->Option aF)(base h:aU):Prop where
 X:K.In h
 G:h.Ns jI mg
 a1:Hs K "names_of" 1
 a2:Hs K "put_in" 2
 a3:Hs K "fits" 15
 a4:Hs K "rows_of" 16
 a5:Hs K "ways_of" 17
 a6:Hs K "_law_cell" 33
 a7:Hs K "_law_draw" 34
 a8:Hs K "_law_some" 37
 a9:Hs K "_law_fit" 41
 a10:Hs K "_law_go_together" 42
 a11:Hs K "_law_next" 43
 a12:Hs K "put_in_lines" 3
 a13:Hs K "shared" 8
 a14:Hs K "refuse_rows" 18
 a15:Hs K "extended" 19
 a16:Hs K "fitting" 22
 a17:Hs K "common" 23
 a18:Hs K "key_of" 24
 a19:Hs K "bound" 28
 a20:Hs K "only_fitting" 29
 a21:Hs K "_law_value" 35
 a22:Hs K "_law_name" 36
 a23:Hs K "_law_ears" 44
 a24:Hs K "_law_with" 45
 a25:Hs K "_law_joined" 48
 a26:Hs K "parent_of" 9
 a27:Hs K "walked" 20
 a28:Hs K "with_partner" 25
 a29:Hs K "_law_lines" 38
 a30:Hs K "_law_book" 39
 a31:Hs K "_law_head_and_row" 40
 a32:Hs K "_law_kept" 46
 a33:Hs K "_law_spoilt" 47
 a34:Hs K "_law_wanted" 49
 a35:Hs K "first_ear" 10
 a36:Hs K "ears" 11
 a37:Hs K "ring" 12
 a38:Hs K "walk_rest" 26
 a39:Hs K "unexplained" 30
 a40:Hs K "holds" 31
 a41:Hs K "_law_right" 50
 a42:Hs K "law" 51
 c1:∃ t,zK K jI "MOST_WAYS" = aa (aa (.int 4096 t))
 z:Blt λx=>zK K jI x=aa ab
section
set_option maxHeartbeats 4000000
variable {P:bP}{w:bE}{mg:aE->Option aF}{base h:aU}(Q:Al P w K mg base h)
include Q
theorem Al.B:Blt λx=>mg x=ab:=
 have M:=λx=>PySem.W.mg_none_of (n:=x) Q.X Q.G
 ⟨M _ Q.z.1,M _ Q.z.2,M _ Q.z.3,M _ Q.z.4,M _ Q.z.5,M _ Q.z.6,M _ Q.z.7,M _ Q.z.8,M _ Q.z.9,M _ Q.z.10,M _ Q.z.11,M _ Q.z.12,M _ Q.z.13,M _ Q.z.14,M _ Q.z.15,M _ Q.z.16,M _ Q.z.17,M _ Q.z.18⟩
theorem Hs.dd(Hh:Hs K n i)(k n0 np:Nat)(N:List aE)(b:SF)
  (hb:∀ {f:aD} {cg:aF} {A:cE} {outer:List dP} {s:aI} {H:Hp} {E:XK} {P0:aD->Prop} (hr:Room k (A.deeper (zM n (dD (cy i)) s.heap.objs.size f cg))),Sx (dD (cy i)).names N->N.Nodup->(A.deeper (zM n (dD (cy i)) s.heap.objs.size f cg)).units+100<cLine->(A.deeper (zM n (dD (cy i)) s.heap.objs.size f cg)).units+40<cLine->gu (oB jl P w K mg base N n (dD (cy i)) f cg A outer s H E).nox H P0 n0 (nR (cy i)) b)
  (S:FnScope N (N.take np) (dD (cy i)):=by constructor<;>first|rfl|decide +kernel) (h1:np=(N.take np).length:=by rfl) (h2:(N.take np).length<=N.length:=by decide)
  (bn:∀ f fd,Fun K n n (cy i) f fd->Binds K fd (N.take np) []:=by exact λ_ _ F=>F.binds λ_ _ _ _ _ _ us h=>by rcases us with _|⟨_,_|⟨_,_|⟨_,_|⟨_,_|⟨_,_|⟨_,_⟩⟩⟩⟩⟩⟩<;>first|(simp at h;done)|rfl):Def P w K mg base n (k+1) (N.take np) (ue K n0 (cf np N.length b)):=
 let ⟨_,_,F,a⟩:=Hh
 ⟨_,_,PJ F S h1 h2 λcg A outer s H E P0 hr=>hb hr ⟨⟩ S.nd (GC hr) (GA hr),MN Q.X Q.G a,F.kp,bn _ _ F⟩
theorem Hs.dQ(Hh:Hs K n i)(k n0 np:Nat)(N:List aE)(b:SF)
  (hb:∀ {f:aD} {cg:aF} {A:cE} {outer:List dP} {s:aI} {H H0:Hp} {E:XK} {P0:aD->Prop} (hr:Room k (A.deeper (zM n (dD (cy i)) s.heap.objs.size f cg))),Sx (dD (cy i)).names N->N.Nodup->(A.deeper (zM n (dD (cy i)) s.heap.objs.size f cg)).units+100<cLine->(A.deeper (zM n (dD (cy i)) s.heap.objs.size f cg)).units+40<cLine->gu (oB jl P w K mg base N n (dD (cy i)) f cg A outer s H E).nox H0 P0 n0 (nR (cy i)) b)
  (S:FnScope N (N.take np) (dD (cy i)):=by constructor<;>first|rfl|decide +kernel) (h1:(N.take np).length=np-1+1:=by rfl) (h2:np-1+1<=N.length:=by decide)
  (bn:∀ f fd,Fun K n n (cy i) f fd->Binds K fd (N.take np) []:=by exact λ_ _ F=>F.binds λ_ _ _ _ _ _ us h=>by rcases us with _|⟨_,_|⟨_,_|⟨_,_|⟨_,_|⟨_,_|⟨_,_⟩⟩⟩⟩⟩⟩<;>first|(simp at h;done)|rfl):Def P w K mg base n (k+1) (N.take np) (xp K n0 (qf (np-1) N.length b)):=
 let ⟨_,_,F,a⟩:=Hh
 ⟨_,_,Jb F S h1 h2 λcg A outer s H H0 E P0 hr=>hb hr ⟨⟩ S.nd (GC hr) (GA hr),MN Q.X Q.G a,F.kp,bn _ _ F⟩
def WU:=Hs.dd Q Q.a1 0 1 1 ["lines","names","line","term"] XI λhr hS nd hu hv=>by
 rw[11];refine QK 1 .s .s hv OY ?_;rw[11];refine lO (Rz rfl) Tw rfl Q.B.list EC ?_;rw[11]
def TQ:=Hs.dd Q Q.a2 0 0 2 ["terms","known"] SH λhr hS nd hu hv=>by
 rw[11]
def xI:=Hs.dd Q Q.a3 0 1 3 ["line","row","known","found","term","number","wanted"] Bl λhr hS nd hu hv=>by
 rw[11];exact xZ;rw[11];refine lO Rm Sk rfl Q.B.dict ED ?_;rw[11];refine xE tW rfl ?_ ?_ ?_;refine wZ rfl Q.B.zip ?_;rw[11];refine Hx 6 3 .s .s .s .s nd ?_ ?_ ?_ ?_;rw[11];exact xZ;rw[11]
def Yu:=Hs.dd Q Q.a4 0 0 2 ["book","line"] VW λhr hS nd hu hv=>by
 rw[11]
def Qj:=Hs.dd Q Q.a5 0 0 1 ["rows","number","own"] UL λhr hS nd hu hv=>by
 rw[11];refine nX (JU rfl) JZ rfl Q.B.max Dy ?_;rw[11]
def vK:=Hs.dd Q Q.a6 0 0 2 ["_law_script","_law_k"] YF λhr hS nd hu hv=>by
 rw[11]
def XM:=Hs.dd Q Q.a7 0 0 3 ["_law_cell_here","_law_k","_law_size","_law_number"] YJ λhr hS nd hu hv=>by
 rw[11]
def Sw:=Hs.dd Q Q.a8 0 1 3 ["_law_kind","_law_k","_law_count"] XU λhr hS nd hu hv=>by
 rw[11];refine BS rfl rfl Q.B.list rfl Q.B.range ?_;refine nX (Zt rfl) Yh rfl Q.B.min PyProof.Rows.boot_min ?_;rw[11]
def yH:=Hs.dd Q Q.a9 0 1 2 ["_law_terms","_law_row","_law_known","_law_term","_law_value_here"] WV λhr hS nd hu hv=>by
 rw[11];exact xZ;rw[11];refine xE tW rfl ?_ ?_ ?_;refine wZ rfl Q.B.zip ?_;rw[11];refine Kl 2 .s .s .s hu ?_ ?_ ?_ ?_;rw[11];exact xZ;rw[11];exact xZ;rw[11]
def ZO:=Hs.dd Q Q.a10 0 0 2 ["_law_one","_law_other","_law_name_here"] ZP λhr hS nd hu hv=>by
 rw[11];refine xE tW rfl ?_ ?_ ?_;refine Oe ?_;rw[11]
def Sz:=Hs.dd Q Q.a11 0 0 2 ["_law_lines_here","_law_left","_law_k","_law_elsewhere","_law_j","_law_lacks"] XR λhr hS nd hu hv=>by
 rw[11];refine VO 3 .s ?_;refine hZ (n:=1) ?_;refine lO (KW rfl) KZ rfl Q.B.dict ED ?_;rw[11];exact(qS (i:=5) .s rfl nd rfl (by trivial) (lQ (N:=["_law_term","_law_elsewhere","_law_lines_here","_law_j"]) (cap:=[ab,aa 3,aa 0,aa 4]) (out:=(dD (cy 43)).names) (XN:=(["_law_lines_here","_law_left","_law_k","_law_elsewhere","_law_j","_law_lacks"]:List aE)) rfl rfl (by rw[0]) rfl) mZ (sM (nH hv (nH hv (cV 0) (cV 2) (λ_ _=>rfl)) fK (λ_ _=>rfl))) (λcl C s₀ H₀ ex=>⟨qR (j:=0) (show(["_law_term","_law_elsewhere","_law_lines_here","_law_j"]:List aE).Nodup by rw[0]) rfl (dW rfl),xM (FQ (Br (jW (JC hu) xC (cV 0) (cV 1) (by with_unfolding_all rfl)) (QS (jW (XX hu) xC (cV 0) (nH hv (nH hv (cV 2) (cV 3) (λ_ _=>rfl)) fK (λ_ _=>rfl)) (by with_unfolding_all rfl))))),(cV 0)⟩))
 rw[11]
def Va:=Hs.dd Q Q.a12 1 0 2 ["lines","known"] ZK λhr hS nd hu hv=>by
 have:=TQ Q;rw[11]
def Ww:=Hs.dd Q Q.a13 1 1 2 ["lines","k","elsewhere"] RZ λhr hS nd hu hv=>by
 have:=WU Q;rw[11];refine Ph ?_ ?_;refine Bj ?_ xO ?_;rw[11];refine xJ ?_;rw[11];refine Bj ?_ ?_ xO;rw[11];refine xJ ?_;rw[11]
def Ur:=Hs.dd Q Q.a14 1 0 1 ["rows"] CW λhr hS nd hu hv=>by
 have:=Qj Q;obtain⟨_,g8⟩:=Q.c1;rw[11];exact(Xj (i:=4096) rfl (MN Q.X Q.G g8) ⟨_,rfl⟩);rw[11]
def Sf:=Hs.dd Q Q.a15 1 1 3 ["found","line","rows","told","known","row","more"] WW λhr hS nd hu hv=>by
 have:=xI Q;rw[11]
def Zi:=Hs.dd Q Q.a16 1 1 2 ["book","line"] UJ λhr hS nd hu hv=>by
 have:=xI Q;have:=Yu Q;rw[11];refine nX YU XS rfl Q.B.sorted b7 ?_;rw[11]
def Xp:=Hs.dd Q Q.a17 1 1 2 ["line","other"] RN λhr hS nd hu hv=>by
 have:=WU Q;rw[11]
def Wy:=Hs.dd Q Q.a18 1 0 3 ["line","row","names"] TB λhr hS nd hu hv=>by
 have:=TQ Q;have:=xI Q;rw[11]
def Nu:=Hs.dd Q Q.a19 1 1 2 ["head","row"] PR λhr hS nd hu hv=>by
 have:=xI Q;rw[11]
def Uz:=Hs.dd Q Q.a20 1 1 2 ["lines","kept"] ZN λhr hS nd hu hv=>by
 have:=xI Q;rw[11];refine DR rfl (lQ (N:=["line","rows"]) (cap:=[ab,ab]) (out:=(dD (cy 29)).names) (XN:=(["lines","kept"]:List aE)) rfl rfl (by rw[0]) rfl) AU ?_ (λcl C s₀ H₀ ex=>⟨BX (i:=0) (j:=1) rfl (show(["line","rows"]:List aE).Nodup by rw[0]) rfl rfl (by trivial) (by trivial),qP,hZ (n:=1) ?_⟩)
 refine wZ rfl Q.B.zip ?_;rw[11];refine xH (out:=[(".0",.local),("line",.cell),("rows",.local)]) (XN:=["line","rows"]) ⟨⟩ ?_ (λ_ _ _ _ _=>?_) (λ_ _ _ _ _=>?_)
 rw[11]
def CV:=Hs.dd Q Q.a21 1 0 2 ["_law_script","_law_k","_law_cell_here"] YQ λhr hS nd hu hv=>by
 have:=vK Q;rw[11];exact(Au fK fK);exact(Au fK fK);rw[11]
def XW:=Hs.dd Q Q.a22 1 0 2 ["_law_script","_law_k","_law_word"] YI λhr hS nd hu hv=>by
 have:=vK Q;refine JK ?_ ?_;exact(Ai (i:=2) 0 .s nd rfl (by trivial) GL)
 refine JK ?_ ?_;refine PL .s ?_ ?_ QY;refine jW (sR hu) sI ?_ fK (gW _);refine GH ?_ fK;refine sJ (by assumption) (by rw[00]) rfl ?_
 refine gZ ?_ ?_ ?_;exact(cV 0);refine gZ ?_ ?_ ?_;exact fK;exact jF
 rfl
 rfl
 refine HQ ?_;refine GG .s ?_;refine OU ?_ xO ?_;exact(cV 2);refine xJ ?_;refine GM ?_ fK;exact(cV 1);refine HQ ?_;refine GG .s ?_;refine GM ?_ ?_;refine OU ?_ xO ?_;exact(cV 2);refine xJ ?_;refine GH ?_ fK;refine Dh ?_ fK;refine sJ (by assumption) (by rw[00]) rfl ?_
 refine gZ ?_ ?_ ?_;exact(cV 0);refine gZ ?_ ?_ ?_;exact fK;exact jF
 rfl
 rfl
 refine nH hv GL ?_ (λ_ _=>rfl)
 exact(cV 1)
def YX:=Hs.dd Q Q.a23 1 0 1 ["_law_lines_here","_law_left","_law_ties","_law_tie"] YG λhr hS nd hu hv=>by
 have:=Sz Q;rw[11];refine BS rfl rfl Q.B.list rfl Q.B.range ?_;rw[11];refine RL .s 100 tW ?_ ?_;rw[11];refine VR 1 .s ?_;rw[11]
def XO:=Hs.dd Q Q.a24 1 0 4 ["_law_one","_law_row","_law_other","_law_rows","_law_known","_law_beside","_law_more"] YW λhr hS nd hu hv=>by
 have:=yH Q;have:=ZO Q;rw[11]
def ZE:=Hs.dd Q Q.a25 1 0 3 ["_law_lines_here","_law_lists","_law_some_here","_law_found","_law_k","_law_longer","_law_known","_law_row","_law_more"] ZD λhr hS nd hu hv=>by
 have:=yH Q;have:=ZO Q;rw[11];refine VO 8 .s ?_;rw[11];refine nO DM AO ?_ fK (gW _);rw[11]
def Sy:=Hs.dd Q Q.a26 2 0 3 ["lines","left","k","wanted","j"] YL λhr hS nd hu hv=>by
 have:=Ww Q;rw[11];refine Rc ?_ ?_;rw[11];refine nX (Qh rfl) Yf rfl Q.B.all boot_all ?_;rw[11];refine nO (JC hu) xC ?_ ?_ (by with_unfolding_all rfl)
 rw[11]
def We:=Hs.dd Q Q.a27 2 0 2 ["lines","rows","found","line","own"] RH λhr hS nd hu hv=>by
 have:=Sf Q;rw[11];refine xE tW rfl ?_ ?_ ?_;refine wZ rfl Q.B.zip ?_;rw[11]
def Uw:=Hs.dd Q Q.a28 2 1 4 ["line","rows","other","others","names","met"] ZM λhr hS nd hu hv=>by
 have:=Xp Q;have:=Wy Q;rw[11];refine lO (Ue hu rfl) Uj rfl Q.B.dict ED ?_;rw[11]
def Ul:=Hs.dd Q Q.a29 2 0 1 ["_law_script","_law_first","_law_count","_law_lines_here","_law_k","_law_cell_here","_law_some_here","_law_terms","_law_j","_law_more","_law_own"] YZ λhr hS nd hu hv=>by
 have:=vK Q;have:=Sw Q;have:=CV Q;have:=XW Q;rw[11];refine nX (JU rfl) JZ rfl Q.B.max Dy ?_;rw[11];refine Ci 7 .s .a ?_ ?_;rw[11]
def Tc:=Hs.dd Q Q.a30 2 0 2 ["_law_script","_law_lines_here","_law_book_here","_law_cap","_law_values","_law_k","_law_table","_law_terms","_law_row","_law_width","_law_cell_here"] XY λhr hS nd hu hv=>by
 have:=vK Q;have:=XM Q;have:=CV Q;have:=XW Q;rw[11];exact Xc;rw[11];refine QK 4 .s .s hv ?_ ?_;rw[11];refine RX 2 .s .s .a hu ?_ ?_ ?_ ?_;rw[11];refine QD 2 .s .s hv ?_ ?_;rw[11];refine Mu 2 .s hv ?_;rw[11];refine Bh ?_;rw[11];refine RX 2 .s .s .a hu ?_ ?_ ?_ ?_;rw[11];refine QD 2 .s .s hv ?_ ?_;rw[11];refine hZ (n:=1) ?_;refine lO (KW rfl) KZ rfl Q.B.dict ED ?_;rw[11];refine hZ (n:=1) ?_;refine DR rfl (lQ (N:=["_law_table","_law_rows"]) (cap:=[ab,ab]) (out:=(dD (cy 39)).names) (XN:=(["_law_script","_law_lines_here","_law_book_here","_law_cap","_law_values","_law_k","_law_table","_law_terms","_law_row","_law_width","_law_cell_here"]:List aE)) rfl rfl (by rw[0]) rfl) AU ?_ (λcl C s₀ H₀ ex=>⟨BX (i:=0) (j:=1) rfl (show(["_law_table","_law_rows"]:List aE).Nodup by rw[0]) rfl rfl (dW rfl) (dW rfl),xM (jW DM AO (nX YC VE rfl Q.B.len PySem.boot_len (gZ (cV 1) jF)) fK (gW _)),(GS (gZ (cV 0) (gZ (cV 1) jF)))⟩)
 refine SL ?_;rw[11]
def Vc:=Hs.dd Q Q.a31 2 0 2 ["_law_script","_law_lines_here","_law_there","_law_line","_law_head","_law_values","_law_at","_law_cell_here","_law_row"] ZQ λhr hS nd hu hv=>by
 have:=vK Q;have:=CV Q;rw[11];refine Jz 5 .a .s ?_ ?_;rw[11];exact(qS (i:=8) .s rfl nd rfl (by trivial) (lQ (N:=["_law_term","_law_values"]) (cap:=[ab,aa 5]) (out:=(dD (cy 40)).names) (XN:=(["_law_script","_law_lines_here","_law_there","_law_line","_law_head","_law_values","_law_at","_law_cell_here","_law_row"]:List aE)) rfl rfl (by rw[0]) rfl) mZ (sM (cV 4)) (λcl C s₀ H₀ ex=>⟨qR (j:=0) (show(["_law_term","_law_values"]:List aE).Nodup by rw[0]) rfl (dW rfl),qP,(Vw (ZZ (BC (T:="str") rfl Q.B.isinstance rfl Q.B.str PyProof.Rows.boot_str nofun (cV 0))) (nH hv (cV 1) (cV 0) (λ_ _=>rfl)) (cV 0))⟩))
 rw[11];rw[11];refine Ci 8 .a .s ?_ fK;rw[11]
def Tg:=Hs.dd Q Q.a32 2 2 2 ["_law_book_here","_law_lines_here","_law_lists","_law_table","_law_terms","_law_some_here","_law_k","_law_j"] YH λhr hS nd hu hv=>by
 have:=yH Q;have:=YX Q;have:=XO Q;rw[11];exact Vp;rw[11];exact(qS (i:=5) .s rfl nd rfl (by trivial) (lQ (N:=["_law_row","_law_terms"]) (cap:=[ab,aa 4]) (out:=(dD (cy 46)).names) (XN:=(["_law_book_here","_law_lines_here","_law_lists","_law_table","_law_terms","_law_some_here","_law_k","_law_j"]:List aE)) rfl rfl (by rw[0]) rfl) mZ (sM (IC hv (cV 0) (cV 3) (hZ (n:=1) (uP jF)))) (λcl C s₀ H₀ ex=>⟨qR (j:=0) (show(["_law_row","_law_terms"]:List aE).Nodup by rw[0]) rfl (dW rfl),xM (jW De RY (hZ (n:=1) (sJ (by assumption) (by rw[00]) rfl (gZ (cV 1) (gZ (cV 0) jF)))) AW (gW _)),(cV 0)⟩))
 rw[11];refine Px 2 .s ?_;refine nX YU XS rfl Q.B.sorted b7 ?_;rw[11];refine SW 2 .a .s ?_ ?_;rw[11]
def Up:=Hs.dQ Q Q.a33 2 0 4 ["_law_script","_law_book_here","_law_lines_here","_law_lists","_law_cell_here","_law_at","_law_width","_law_row"] DB λhr hS nd hu hv=>by
 have:=vK Q;have:=XM Q;have:=CV Q;rw[11];refine nX (JU rfl) JZ rfl Q.B.max Dy ?_;rw[11];refine Od 3 .s .a ?_ ?_;rw[11];refine lO Yz Yw rfl Q.B.int PyProof.Rows.boot_int ?_;rw[11];refine nO (sR hu) sI ?_ fK (gW _);rw[11];exact(qS (i:=7) .s rfl nd rfl (by trivial) (lQ (N:=["_law_j","_law_script","_law_cell_here"]) (cap:=[ab,aa 0,aa 4]) (out:=(dD (cy 47)).names) (XN:=(["_law_script","_law_book_here","_law_lines_here","_law_lists","_law_cell_here","_law_at","_law_width","_law_row"]:List aE)) rfl rfl (by rw[0]) rfl) mZ (Bh (UR rfl Q.B.range (gZ (cV 6) jF))) (λcl C s₀ H₀ ex=>⟨qR (j:=0) (show(["_law_j","_law_script","_law_cell_here"]:List aE).Nodup by rw[0]) rfl (dW rfl),qP,(sJ (by assumption) (by rw[00]) rfl (gZ (cV 1) (gZ (sJ (by assumption) (by rw[00]) rfl (gZ (cV 2) (gZ (cV 0) (gZ fK jF)))) jF)))⟩))
 rw[11];refine Po 3 .s .s ?_ ?_;rw[11];refine SW 3 .s .s ?_ ?_;refine lO (CU rfl) CN rfl Q.B.list EC ?_;rw[11];refine hZ (n:=1) ?_;refine Ik ?_ ?_ xO;rw[11];exact(xJ fK);rw[11]
def Uu:=Hs.dd Q Q.a34 2 0 3 ["_law_book_here","_law_lines_here","_law_lists","_law_ties","_law_rest","_law_k","_law_ears_of","_law_row"] ZH λhr hS nd hu hv=>by
 have:=yH Q;have:=YX Q;have:=XO Q;have:=ZE Q;rw[11];refine PU .s ?_ ?_;rw[11];exact(TY (i:=3) (j:=4) rfl nd rfl rfl (by trivial) (by trivial))
 rw[11];exact(qS (i:=6) .s rfl nd rfl (by trivial) (lQ (N:=["_law_tie","_law_k"]) (cap:=[ab,aa 5]) (out:=(dD (cy 49)).names) (XN:=(["_law_book_here","_law_lines_here","_law_lists","_law_ties","_law_rest","_law_k","_law_ears_of","_law_row"]:List aE)) rfl rfl (by rw[0]) rfl) mZ (sM (cV 3)) (λcl C s₀ H₀ ex=>⟨qR (j:=0) (show(["_law_tie","_law_k"]:List aE).Nodup by rw[0]) rfl (dW rfl),xM (jW (sR hu) sI (nH hv (cV 0) fK (λ_ _=>rfl)) (cV 1) (gW _)),(nH hv (cV 0) fK (λ_ _=>rfl))⟩))
 rw[11];refine Lo ?_;rw[11]
def Tv:=Hs.dd Q Q.a35 3 0 2 ["lines","left","k","parent"] YE λhr hS nd hu hv=>by
 have:=Sy Q;rw[11]
def LO:=Hs.dd Q Q.a36 4 2 1 ["lines","taken","left","ear"] Av λhr hS nd hu hv=>by
 have:=Tv Q;rw[11];refine BS rfl rfl Q.B.list rfl Q.B.range ?_;rw[11];refine RL .s 100 tW ?_ ?_;rw[11];refine VR 2 .s ?_;rw[11];exact(Xl 1 2 nofun)
def Ju:=Hs.dd Q Q.a37 5 1 1 ["lines","rest"] ZR λhr hS nd hu hv=>by
 have:=LO Q;rw[11];refine Vk .a 1 ?_ ?_;rw[11]
def Tr:=Hs.dd Q Q.a38 5 0 2 ["lines","kept","rest"] YA λhr hS nd hu hv=>by
 have:=We Q;have:=LO Q;rw[11];refine hZ (n:=1) ?_;rw[11]
def Ut:=Hs.dd Q Q.a39 5 1 3 ["book","lines","kept","left","fit","ear","parent"] ZF λhr hS nd hu hv=>by
 have:=Zi Q;have:=Uz Q;have:=Uw Q;have:=LO Q;rw[11];refine qS (i:=3) .s rfl nd rfl (by trivial) (lQ (N:=["line","rows","book"]) (cap:=[ab,ab,aa 0]) (out:=(dD (cy 30)).names) (XN:=(["book","lines","kept","left","fit","ear","parent"]:List aE)) rfl rfl (by rw[0]) rfl) AU ?_ (λcl C s₀ H₀ ex=>⟨BX (i:=0) (j:=1) rfl (show(["line","rows","book"]:List aE).Nodup by rw[0]) rfl rfl (by trivial) (by trivial),qP,hZ (n:=1) ?_⟩)
 refine wZ rfl Q.B.zip ?_;rw[11];refine xH (out:=[(".0",.local),("line",.local),("rows",.cell),("fitting",.globalImplicit),("book",.cell)]) (XN:=["line","rows","book"]) ⟨⟩ ?_ (λ_ _ _ _ _=>?_) (λ_ _ _ _ _=>?_)
 rw[11];refine hZ (n:=1) ?_;rw[11];refine Xt 3 .a .s ?_ ?_;rw[11]
def Cd:=Hs.dd Q Q.a40 6 0 4 ["book","alternative","row","paper","known","kept","lines"] QE λhr hS nd hu hv=>by
 have:=Va Q;have:=Ur Q;have:=Nu Q;have:=Ju Q;have:=Tr Q;have:=Ut Q;rw[11];refine nO GR HH ?_ AW (gW _);rw[11];refine nX (Yq rfl) Rg rfl Q.B.any boot_any ?_;rw[11];refine nO DM AO ?_ fK (gW _);rw[11];refine nO (sR hu) sI ?_ fK (gW _);rw[11]
def Ub:=Hs.dd Q Q.a41 7 0 5 ["_law_book_here","_law_alternative","_law_row","_law_slip","_law_wanted_here","_law_kept_here","_law_held","_law_found"] YR λhr hS nd hu hv=>by
 have:=Cd Q;rw[11];refine hZ (n:=1) ?_;refine lO (KW rfl) KZ rfl Q.B.dict ED ?_;rw[11];refine hZ (n:=1) ?_;refine DR rfl (lQ (N:=["_law_table","_law_rows"]) (cap:=[ab,ab]) (out:=(dD (cy 50)).names) (XN:=(["_law_book_here","_law_alternative","_law_row","_law_slip","_law_wanted_here","_law_kept_here","_law_held","_law_found"]:List aE)) rfl rfl (by rw[0]) rfl) AU ?_ (λcl C s₀ H₀ ex=>⟨BX (i:=0) (j:=1) rfl (show(["_law_table","_law_rows"]:List aE).Nodup by rw[0]) rfl rfl (dW rfl) (dW rfl),qP,(GS (gZ (cV 0) (gZ (hZ (n:=1) (lO (CU rfl) CN rfl Q.B.list EC (gZ (cV 1) jF))) jF)))⟩)
 refine SL ?_;rw[11];exact(qS (i:=6) .s rfl nd rfl (by trivial) (lQ (N:=["_law_rows"]) (cap:=[ab]) (out:=(dD (cy 50)).names) (XN:=(["_law_book_here","_law_alternative","_law_row","_law_slip","_law_wanted_here","_law_kept_here","_law_held","_law_found"]:List aE)) rfl rfl (by rw[0]) rfl) mZ (sM (cV 3)) (λcl C s₀ H₀ ex=>⟨qR (j:=0) (show(["_law_rows"]:List aE).Nodup by rw[0]) rfl (dW rfl),qP,(hZ (n:=1) (lO (CU rfl) CN rfl Q.B.list EC (gZ (cV 0) jF)))⟩))
 rw[11];refine LP ?_ ?_;refine BC (T:="bool") rfl Q.B.isinstance rfl Q.B.bool PyProof.Rows.boot_bool nofun ?_
 rw[11];refine LP ?_ ?_;refine nO (sR hu) sI ?_ ?_ (gW _);rw[11];refine LP ?_ ?_;refine nO (Lb hu) Nn ?_ ?_ (gW _);rw[11];refine Lg ?_;refine nO (sR hu) sI ?_ ?_ (gW _);rw[11]
end
set_option maxHeartbeats 4000000 in
theorem all_mk {P:bP}{w:bE}{h:aU}{mg:aE->Option aF}{fa:aD}(yx:mg "law" = aa (.ref fa))(Q:∀ base,Al P w K mg base h) :
  ∃ fd:kI,(∀ (s:aI) (v:aF),BindsTo s fd ⟨[v],[]⟩ [("_law_script",v)])/\∀ base:aU,K.In base->base.Ns jI mg->FnOk P w K mg base jl 9 fa fd ["_law_script"] (DV K):=by
 obtain⟨f,fd,F,a⟩:=(Q h).a42;cases yx.symm.trans (MN (Q h).X (Q h).G a);refine⟨fd,λs v=>?_,λbase _ _=>?_⟩
 .obtain⟨_,_,_,_,_,_,_,_,_,rfl,_⟩:=F.ex;exact .of_eq rfl
 have Q:=Q base;refine(PJ F (N:=["_law_script","_law_lines_here","_law_book_here","_law_head","_law_row","_law_known","_law_found","_law_slip","_law_put","_law_wanted_here","_law_every"]) (ps:=["_law_script"]) (by constructor<;>first|rfl|decide +kernel) rfl nofun λcg A outer s H E P0 hr=>?_).imp Il
 have hS:Sx (dD (cy 51)).names ["_law_script","_law_lines_here","_law_book_here","_law_head","_law_row","_law_known","_law_found","_law_slip","_law_put","_law_wanted_here","_law_every"]:=⟨⟩;have nd:(["_law_script","_law_lines_here","_law_book_here","_law_head","_law_row","_law_known","_law_found","_law_slip","_law_put","_law_wanted_here","_law_every"]:List aE).Nodup:=by rw[0]
 have hu:=GC hr;have hv:=GA hr;have:=yH Q;have:=ZE Q;have:=Ul Q;have:=Tc Q;have:=Vc Q;have:=Tg Q;have:=Up Q;have:=Uu Q;have:=Cd Q;have:=Ub Q;rw[11];refine PU .s ?_ ?_;rw[11];exact(TY (i:=3) (j:=4) rfl nd rfl rfl (by trivial) (by trivial))
 rw[11];refine BC (T:="bool") rfl Q.B.isinstance rfl Q.B.bool PyProof.Rows.boot_bool nofun ?_
 rw[11];refine nO GR HH ?_ AW (gW _);rw[11];refine hZ (n:=2) ?_;rw[11];refine hZ (n:=1) ?_;refine xH (out:=[(".0",.local),("_law_line",.local),("tuple",.globalImplicit),("_law_known",.cell)]) (XN:=["_law_line","_law_known"]) ⟨⟩ ?_ (λ_ _ _ _ _=>?_) (λ_ _ _ _ _=>?_)
 rw[11];rw[11];refine Np (by assumption) (by rw[00]) rfl ?_ ?_ ?_ ?_
 rw[11];exact(qS (i:=10) .s rfl nd rfl (by trivial) (lQ (N:=["_law_line","_law_book_here"]) (cap:=[ab,aa 2]) (out:=(dD (cy 51)).names) (XN:=(["_law_script","_law_lines_here","_law_book_here","_law_head","_law_row","_law_known","_law_found","_law_slip","_law_put","_law_wanted_here","_law_every"]:List aE)) rfl rfl (by rw[0]) rfl) mZ (sM (cV 8)) (λcl C s₀ H₀ ex=>⟨qR (j:=0) (show(["_law_line","_law_book_here"]:List aE).Nodup by rw[0]) rfl (dW rfl),qP,(IC hv (cV 1) (nH hv (cV 0) fK (λ_ _=>rfl)) (hZ (n:=1) (uP jF)))⟩))
 rw[11];refine hZ (n:=1) ?_;refine BS rfl rfl Q.B.list rfl Q.B.range ?_;rw[11];rw[11]
theorem walk {l:PySem.W.OpenLaw}{q:bP}{gj:List aE}{XP:(aE->Option aF)->aU->Prop}{YP:bE->aU->Prop}{d:DefRec}{K:Params->aM}(hn:l.most=aa 63)(tf:d.params.defaults=[])
  (hY:∀ (w:bE) (h:aU),YP w h->(K w.params).In h)
  (F:∀ (w:bE) (mg:aE->Option aF) (fa:aD) (h:aU),(K w.params).In h->h.Ns jI mg->mg d.name=aa (.ref fa) ->
   ∃ fd:kI,(∀ (s:aI) (u:aF),BindsTo s fd ⟨[u],[]⟩ [("_law_script",u)])/\∀ base:aU,(K w.params).In base->base.Ns jI mg->FnOk l.prog w (K w.params) mg base jl 9 fa fd ["_law_script"] (DV (K w.params))) :
  PySem.W.WalkO q gj XP YP l.row.toRowW d [] (λf vs=>PySem.call f vs):=
 L2.A7b (n:=63) (k:=9) (x:="_law_script") (CX:=λ_=>jl) (sp:=λw=>DV (K w.params)) hn nofun tf ⟨rfl,nofun,nofun⟩ hY F (λ_ _ a ns hb hl _ hS=>⟨a,ns,rfl,hS,hl,hb,λ_=>rfl⟩) λ_ _ _ _ _ z=>z
end Aw
namespace PySem.W.Fast
def tw12243890775989370049:=0
def tw18223013763132839340:=0
def tw9505452988001156156:=0
def tw17855540191204583611:=0
def tw10441429636398263699:=0
def tw6360103082160748198:=0
def tw10549062693077812862:=0
def tw10763009771913121090:=0
def tw1559241720744515355:=0
def tw119782951786597039:=0
def tw2754221990233611875:=0
def tw16238190784398933724:=0
def tw13774427292853338241:=0
def tw17365217194200917881:=0
def tw12704243348178995191:=0
def tw11704680774692027083:=0
def tw6487229958527279738:=0
def tw915215988537537292:=0
def tw12607156928427924581:=0
def tw8844760227624573549:=0
def tw2880536405781437601:=0
def tw15143965033063553556:=0
def tw7752108523192043825:=0
def tw2547134867485226679:=0
def tw2713994866828825748:=0
def tw648167846552118139:=0
def tw2746199119743800194:=0
def tw15688393591958209162:=0
def tw14235452541089764312:=0
def tw1181201514142532248:=0
def tw7014309110385855820:=0
def tw7871429094357294605:=0
def tw17400269467353879750:=0
def tw13910692022560519306:=0
def tw6906319489368885035:=0
def tw4471994014344452164:=0
def tw3082566813424370210:=0
def tw13406827796842666806:=0
def tw18280154520984675581:=0
def tw5201606067956412675:=0
def tw15754994188820736977:=0
def tw3807968650558660146:=0
def tw6436115896346692079:=0
def tw3889860460331733207:=0
def tw16311229883635804485:=0
def tw11288248294751297546:=0
def tw16941000655240401190:=0
def tw12349732310676532050:=0
def tw15093268194684722774:=0
def tw4821800517732571876:=0
def tw17822617487739806368:=0
def tw15816783789282253174:=0
def tw16375665293435898621:=0
def tw3350188115590699588:=0
def tw14444176613638120079:=0
def tw1166974134388450169:=0
def tw12341027423005110601:=0
def tw9725898709583436873:=0
def tw17125865036725329543:=0
def tw15367474138662915617:=0
def tw4554583628271163707:=0
def tw5879942443457995896:=0
def tw11017562453676075422:=0
def tw7805433555781283814:=0
def tw503626043964339717:=0
def tw2952295828545883549:=0
def tw15138842379269958260:=0
def tw3713562456798569042:=0
def tw16321308765803640477:=0
def tw13647373033590752141:=0
def tw9942457858157491347:=0
def tw7261154013344082259:=0
def tw12805430958293156877:=0
def tw3440961280559983134:=0
def tw15711134532086774355:=0
def tw13079658987497559562:=0
def tw11667980529965727193:=0
def tw5805313855155273256:=0
def tw15846328449361748134:=0
def tw3166786198752498400:=0
def tw11694873512119561059:=0
def tw7431940480232937504:=0
def tw3409831434169770394:=0
def tw12505318147762232979:=0
def tw11760191049243167704:=0
def tw5360575176043763465:=0
def tw9898155199877342360:=0
def tw9731269100183826370:=0
def tw11100302130541110250:=0
def tw17881458282317465926:=0
def tw12376531711220789301:=0
def tw12386296405249786516:=0
def tw5262596971598769522:=0
def tw1702177927641231512:=0
def tw9398529168242119849:=0
def tw4108143048035882194:=0
def tw11858064713451160803:=0
def tw14077615310006240003:=0
def tw7199069603739737045:=0
def tw13303942967100070452:=0
def tw17086902354489495982:=0
def tw5481811857610846489:=0
def tw17932586739707443437:=0
def tw13045481050895890568:=0
def tw5546019465064383989:=0
def tw7333735678220209581:=0
def tw910465142530775416:=0
def tw5084807677602019108:=0
def tw13618856730045927631:=0
def tw8087312309153725751:=0
def tw12083056993489302503:=0
def tw17204459898464976013:=0
def tw4504487886342359271:=0
def tw1774643273753639630:=0
def tw13472566479444301524:=0
def tw11858088458171597006:=0
def tw10787838409682407598:=0
def tw17776069933895503275:=0
def tw8310760524536108823:=0
def tw2365529125986838322:=0
def tw6980904525861427391:=0
def tw18355811439377371221:=0
def tw16510137432452403063:=0
def tw4590175898796643980:=0
def tw16175292809169000021:=0
def tw18340532590028225039:=0
def tw14083026988952300358:=0
def tw12278561730719042092:=0
def tw16394845921495574587:=0
def tw2429842964665875287:=0
def tw5509306001731480028:=0
def tw3116030226956749476:=0
def tw14228954742124648510:=0
def tw6772361466855557730:=0
def tw14526386956216667090:=0
def tw7532449054746944001:=0
def tw5743245459474455923:=0
def tw10440837723690746143:=0
def tw8007992210752382581:=0
def tw10936501789777891846:=0
def tw4078303250363514263:=0
def tw7774616061534295262:=0
def tw5477561670571081771:=0
def tw6218184966234962885:=0
def tw149658731561109630:=0
def tw7165910868199108450:=0
def tw519364646029872211:=0
def tw787954205727668938:=0
def tw15376632867751492243:=0
def tw9523246442051576956:=0
def tw3652587488164537718:=0
def tw14926012499831086041:=0
def tw11532362132519562244:=0
def tw13358313762792921513:=0
def tw8890004679354669382:=0
def tw9879726202735563011:=0
def tw4676347944498992190:=0
def tw16872474286833507511:=0
def tw10609702185289137809:=0
def tw16437624047173775672:=0
def tw5637261123985854721:=0
def tw15258137552142021938:=0
def tw18055721509412870686:=0
def tw16686983902482799425:=0
def tw3479182000619679213:=0
def tw9275755728765562705:=0
def tw5571352642035245324:=0
def tw5858602111277266866:=0
def tw18435885051746789804:=0
def tw14270339043300353077:=0
def tw180411351838014367:=0
def tw7497431752721892233:=0
def tw6523394837903925073:=0
def tw4351504246531052264:=0
def tw3490806231929141005:=0
def tw13604711794697477701:=0
def tw12824342350519060564:=0
def tw1909395023107951937:=0
def tw8249230110964553428:=0
def tw14673183977432824531:=0
def tw9173757779691300491:=0
def tw4412928539612152440:=0
def tw16675063769779465921:=0
def tw4774980463449990120:=0
def tw16284027865608261897:=0
def tw16013404610374004063:=0
def tw9342842808733263240:=0
def tw4090795945209678671:=0
def tw4846027189315753650:=0
def tw4270354944883535877:=0
def tw2216533070884410223:=0
def tw18322900890776778756:=0
def tw1903426645841657714:=0
def tw5898396616307345497:=0
def tw10895411071346717516:=0
def tw5664881271500879688:=0
def tw276568461082625943:=0
def tw3136355982540459802:=0
def tw15224491368968460484:=0
def tw9536244823936560942:=0
def tw2626666878089151487:=0
def tw721421018304649524:=0
def tw2921844145728002907:=0
def tw2210743095179996893:=0
def tw14043620551125511011:=0
def tw3398093431044851622:=0
def tw10042304299003277426:=0
def tw7956674677244034479:=0
def tw13225849936326168084:=0
def tw5507962805878048432:=0
def tw1717901348586164082:=0
def tw12034341953085723861:=0
def tw2884809372184612192:=0
def tw5343939842219486469:=0
def tw9693580202007741735:=0
def tw5337111630136297687:=0
def tw10803966161722378636:=0
def tw16536392833964716702:=0
def tw7512599946033122104:=0
def tw15838934366223083018:=0
def tw3430282274150602018:=0
def tw3396522657595761137:=0
def tw1262635935091647280:=0
def tw11719791885923412077:=0
def tw2718556028076892665:=0
def tw13415733837349342379:=0
def tw7625902499908156079:=0
def tw15109474992976622942:=0
def tw15704900034187323991:=0
def tw18134826326151074661:=0
def tw14205808593526272049:=0
def tw13219814977428470897:=0
def tw15228593838002885708:=0
def tw4808048383327537445:=0
def tw824979181262669959:=0
def tw5845105080645350875:=0
def tw270650039390976332:=0
def tw7054561415237101271:=0
def tw7296632312856128631:=0
def tw12698662728130531485:=0
def tw1436741198909479289:=0
def tw10269447227771094289:=0
def tw14866212697702922788:=0
def tw11889124414107743564:=0
def tw8291285814808740021:=0
def tw2208522338811712061:=0
def tw1201149579685168770:=0
def tw10297434696650904170:=0
def tw5978882878526887489:=0
def tw18355832088488114032:=0
def tw3791066137668895609:=0
def tw17947664215863681266:=0
def tw1811954724248016922:=0
def tw17636692349381486636:=0
def tw12295779468022913614:=0
def tw6512592295701795372:=0
def tw843580251632241816:=0
def tw16083868277543899134:=0
def tw4888356884849861579:=0
def tw14322745031687590870:=0
def tw14911996607793914629:=0
def tw16943264936490394968:=0
def tw6703699958981214554:=0
def tw1805623676484062449:=0
end PySem.W.Fast
open PySem PySem.W PyProof.Rows
set_option maxRecDepth 100000 in
set_option maxHeartbeats 0 in
theorem PySem.Challenge.cw_askwithin_k38_papers_that_hold_holds : PySem.Challenge.rw_askwithin_k38_papers_that_hold.Holds := by
 w_on;o_law;k_head;(case hw=>w_witness2)
 k_fill
 refine Aw.walk (l:=PySem.Challenge.rw_askwithin_k38_papers_that_hold) rfl rfl (λw h am=>PySem.W.kIn_of am) ?F
 case F=>
  intro w mg fa h KX G tj;refine Aw.all_mk (h:=h) tj λ_=>?_;refine' ⟨KX,G,?_,?_,?_,?_,?_,?_,?_,?_,?_,?_,?_,?_,?_,?_,?_,?_,?_,?_,?_,?_,?_,?_,?_,?_,?_,?_,?_,?_,?_,?_,?_,?_,?_,?_,?_,?_,?_,?_,?_,?_,?_,?_,?_,⟨?_,?_,?_,?_,?_,?_,?_,?_,?_,?_,?_,?_,?_,?_,?_,?_,?_,?_⟩⟩;any_goals refine' Aw.Bii ?_ ?_ ?_ ?_
  any_goals refine' Aw.Bie ?_
  any_goals k_is
