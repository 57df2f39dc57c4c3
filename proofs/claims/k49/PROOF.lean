import PyProof.Rows.All
import Wide.All
import OpenK.AllK
import Wide.FinOn
import Lean
import PyProof.EqAt
import PyProof.EqKinds
import PyProof.TupleCall
import PyProof.TupleOfStr
import PyProof.ListStr
import PyProof.ZipIter
import PyProof.TupleIter
import PyProof.EnumMake
import PyProof.ListRange
import PyProof.AutoListH
import PyProof.ListNew
import PyProof.FactsAll.list_2
import KE.KSortTup
import PyProof.Rows.SortShellK
import PyProof.MeetsSeq2
import PyProof.FactsAll.list_4
import PyProof.AutoSeq1
import PyProof.ConsumeWalk
import PyProof.AttrMissHeap
import PyProof.FactsAll.zip_1
import PyProof.Rows.FStr
import PyProof.ListMulRoad
import PyProof.Rows.SeqMore
import PyProof.FactsAll.tuple_2
import PyProof.FactsAll.list_3
import PyProof.IsRules
import PyProof.DictItemsLoops
import PyProof.MeetsDictList
import PyProof.Rows.SortStr
import PyProof.SetKind
import PyProof.Rows.SetFrom
import PySem.Challenge.RW_askwithin_k49_whole_chases_keep_answers
open PySem renaming PyData->aA,Addr->aC,Str->aD,Value->aF,wpAny_bind->aI,Shared->aK,wpAny->aP,Expr->aS,model->aW,Heap->aY,wpAny_pure->aZ,World->bG,Pos->bH,Obj->bJ,starEach->bM,Program->bW,eval->cA,Around->cP,Env->fE,Stmt->fU,wpAny_field->gG,assignEach->gH,Paired->gJ,compareOp->gR,Scope->gY,sysModules->iD,mainGlobals->iS,backTo->iT,rawInt->jA,merged->jB,cellsFrom->jC,pyNext->jJ,wpAny_call_entry->jR,NameKind->jS,wpAny_holding->kH,swapsWith->kI,binaryOp->kW,FuncData->lA,wpAny_mono->lP,IsPair->mJ,wpAny_seqItems->mZ,bootBuiltins->nA,assign->nB,wpAny_typeOf->nW,wpAny_setField_rec->nX,wpAny_newObj_type->nY,wpAny_callSpecial?_slot->nZ,Spec->oA,codeAny->oR,sizeLine_eq->pL,getItem->pM,field->pO,ReadsAll->pP,Reads->pQ,IsPart->pV,IsEnum->pW,DictEntry->pZ,wpAny_truthy_bool->rJ,wpAny_rule->rK,stored->rL,foldedSetIterable->rM,wpAny_attempt->tP,codeAny_builtin->tQ,Result->tR,Keyword->tW,wpAny_passesOwn->vN,valueAt->vO,typeLookup->vP,sliceBounds->vQ,relabel->vR,callerA->vT,behindInMarks->vU,mem_of_lookup->vV,ItemsOf->wI,wpAny_newList->zN,wpAny_isInstance->zO,plainId_quiet->zP,PassesOwn->zU,wpAny_specialOf->DU,wpAny_pyIter_list->DV,wpAny_newTuple->DX,call_meetsIn->DY,boot_len->EA,wpAny_typeNameOf_keyiter->KY,wpAny_typeNameOfWhole_keyiter->KZ,wpAny_setField->LA,wpAny_onRaise->LB,wpAny_letGo->LC,wpAny_execs_nil->LD,typeLookup_type->LF,subscripted->LG,letOwnedTupleGo->LI,keywordEach->LJ,isSubtype_stop->LK,concat_meets->LL,codeAny_mono->LM,builtinLookup_eq_fast->LN,attributeBase->LO,wpAny_updateSeq_pair->Bi,wpAny_pyIter_zip->Bj,wpAny_notOrdered_dict->Bl,wpAny_dictEntries->Bn,wpAny_Call_Name_kw->Bo,noFill_tuple_add->Bp
open PySem.W renaming Frag->aM,kia_one->nC,nsIn->pR,mg_of->tT,fnOf->vW,keepIn->EB,codeIn->LR,methodObj->Bq,lookIn->Br,kitx_list->Bs,kitx_dict->Bt,kitOne->Bu,instObj->Bv
open PySem.PyData renaming int->bC,eqv->bE,depthAll->cI,depth->dC,canLay0->eY,bool->eZ,tuple->fO,eqvAll->iU,str->jK,list->kJ,canLayAll0->zT,dict->ED,strOk->LW
open List renaming range->bD,mem_cons_self->bT,mem_map->cG,mem_cons_of_mem->cL,map_cons->dF,mem_cons->dJ,map_map->eN,getElem?_map->eU,getElem?_eq_some_iff->eW,length_map->fA,mem_singleton->fN,mem_append->fP,size_toArray->fR,length_cons->fZ,find?_cons->gF,nodup_cons->gZ,mem_range->hE,map_append->hW,all_eq_true->iV,toArray->jD,mem_of_getElem?->jE,mem_flatten->jT,getElem?_eq_getElem->jU,map_congr_left->kZ,range'->lR,mem_filter->mH,getElem?_set_ne->mI,filter_eq_self->nD,any_eq_true->nE,replicate->oD,getElem?_set_self->oE,mem_append_right->oU,not_mem_nil->pT,getElem?_range->pU,nodup_append->rO,flatten_cons->rP,exists_of_findSome?_eq_some->rQ,take_add_one->tU,any_map->tV,zip_cons_cons->vZ,take_length->wA,of_mem_zip->wB,length_append->wC,foldl_cons->wD,filter_cons->wF,append_nil->wG,all_map->wH,length_zip->zW,length_filter_le->zX,getElem?_append_left->zY,cons_lt_cons_iff->zZ,cons_append->AA,mem_of_mem_take->EI,map->EJ,length_take->EK,getD_eq_getElem?_getD->EL,forIn_cons->EM,foldl_append->EN,find?_eq_none->EO,any_cons->ER,zipWith->MC,take_of_length_le->MD,nodup_nil->ME,map_take->MF,lookup_cons->MG,getElem_mem->MH,forIn_nil->MI,find?_some->MJ,range_succ->Cj,pairwise_map->Ck,mergeSort_perm->Cm,mem_range'_1->Cn,length_range'->Co,getElem?_append_right->Cp,findSome?_cons->Cq,filterMap_cons->Cr,ext_getElem?->Cs,pairwise_mergeSort->c8,mem_of_find?_eq_some->c9,getElem?_cons_succ->d4,eraseIdx_cons_succ->d5,drop_eq_getElem_cons->d6
open Option renaming bind_some->bR,map_eq_some_iff->iE,isSome_iff_exists->pS,map_some->vY,isSome_map->LX,map_eq_none_iff->Cg
open Nat renaming le_refl->bS,ne_of_lt->fH,zero_le->fY,lt_of_lt_of_le->iF,le_trans->kK,ne_of_gt->lQ,lt_irrefl->mE,le_succ->zV,le_of_lt->EG,le_of_eq->EH,min_eq_left->LZ,add_assoc->MA,min_eq_right->Ci
open PySem.Heap renaming lt_size->bX,get?_push_of_some->cF,get?_push_size->dZ,size_push->pX,SameBut->wJ,ExtBut->ES,get?_update_self->ML,size_update->Cy,get?_update_other->Cz
open Sum renaming inl->eR,inr->fX
open Or renaming inl->eT,inr->fQ
open Option.some renaming inj->fM
open PyProof.Rows renaming seqObj->gM,envOfC->rN,IntsAre->rR,AllBare->rS,callWith_type1->vX,listUpdate_at->zQ,listItems_at->zR,slot_tuple_getitem->LH,boot_dict->LV,slot_tuple_getitem->Cc,boot_tuple->Cd,mulOk_of_bits->c6,boot_sorted->c7
open PySem.Value renaming ref->gN,none->gS,type->kX,int->DZ,isStrOf->LP
open Bool renaming and_eq_true_iff->iG,eq_iff_iff->iW,false_ne_true->oW,false_eq_true->qA,and_self->qB,and_eq_true->EV,false_and->MV,true_and->Dk
open PySem.Obj renaming mapSeq->jL,data_mapFields->LY
open PySem.Builtin.Int renaming intBits->jM
open Int renaming eq_ofNat_of_zero_le->kL,ofNat->oV,toNat_natCast->MK,mul_nonneg->Cv,mul_le_mul->Cw
open Ne renaming symm->kY
open True renaming intro->mD
open PySem.NameKind renaming free->mF,cell->MB
open PySem.PassesOwn renaming never->oB
open PySem.Paired renaming length->oC
open False renaming elim->pY
open PySem.F renaming slot_zip_next->tX,plainAttrs_list->EC,slot_dict_keyiterator_next->ET,plainAttrs_dict->LU,slot_tuple_iterator_next->MM,slot_tuple_hash->MN,slot_enumerate_next->MO,entry_zip_next->MP,args_zip_next_1->MQ,type_list_append->Bw,slot_tuple_add->Bx,slot_list_append->By,slot_dict_get->Bz,entry_tuple_add->Ca,args_tuple_add_2->Cb,slot_zip_getattribute->Da,slot_list_getattribute->Dc,slot_dict_update->b6,slot_dict_setdefault->b7,slot_dict_getitem->b8,args_dict_get_3->b9,entry_dict_keyiterator_next->d8,args_dict_keyiterator_next_1->d9
open Sum.inr renaming inj->zS
open PySem.Heap.SameBut renaming update->AB
open ForInStep renaming yield->AC
open PySem.Expr renaming Call->AD
open PySem.Builtin.Tuple renaming tupleHashOf->AE,tupleExact->AG,tupleItemsOf->Df
open PySem.Builtin.SmallTypes renaming ownedTupleIsFree->AH,nextOf->AI,ownedTupleHandOut->Dg
open PySem.Around renaming under_plainId->AJ
open Prod renaming ext->EE
open PySem.Builtin.List renaming listExtendWith->EU,listTooLong->Di,listSameRef->Dj
open Array.Perm renaming refl->EW
open Sum.inl renaming inj->LQ
open PySem.Calls renaming spliced_cons->MR,spliced_nil->Dd,call_function_entry->De
open PySem.Builtin.Str renaming occurrences->MS
open PySem.Builtin.Slice renaming slicePlaces->MT,sliceAdjust->Dh
open PySem.Builtin.Dict renaming updateFrom->MU
open Array renaming forIn_toList->MW,toList_inj->Dl,getElem?_toList->Dm
open PySem.PyData.tuple renaming inj->Ce
open List.Pairwise renaming filter->Ct
open List.Nodup renaming length_le_of_subset->Cu
open List.Perm renaming eq_of_pairwise->d7
open Classical renaming propDecidable->e8
abbrev aap:=Option Int
abbrev aao:=Option aF
abbrev aan:=List aD
abbrev aam:=List Nat
abbrev aal:=List aF
abbrev aaj:=List aC
abbrev aai:=List Int
abbrev aaf:=Option aA
abbrev aae:=List aA
abbrev aac:=Option aae
abbrev wv:=List aaj
abbrev wp:=List (aD×jS)
abbrev wn:=List (aD×Int)
abbrev lm:=List (aD×aC)
abbrev lf:=List (Option Nat)
abbrev ld:=List aae
abbrev dl:=List (aC×bJ)
abbrev bv:=List aai
abbrev bd:=List aaf
abbrev am:=List (aA×aA)
theorem ao {α β:Type}{x:Option α}{f:α->Option β}{b:β}(h:x.bind f=some b) : ∃ a,x=some a/\f a=some b:=Option.bind_eq_some_iff.1 h
set_option Elab.async false
set_option compiler.extract_closed false
set_option bootstrap.genMatcherCode false
set_option genSizeOfSpec false
set_option linter.all false
set_option maxRecDepth 100000
set_option exponentiation.threshold 2000
noncomputable section
local macro_rules|`(())=>`(by lia)
local macro_rules|`(nofun)=>`(by decide)
set_option hygiene false in
local macro_rules|`(tactic|rw[0])=>`(tactic|decide +kernel)
set_option hygiene false in
local macro_rules
|`(tactic|rw[1])=>`(tactic|intro ac s σ H x y v u Q I rx ry h)
|`(tactic|rw[2])=>`(tactic|obtain⟨P,Y,d,hP,rs,ef,k⟩:=gh)
|`(tactic|rw[3])=>`(tactic|intro ac s σ H xs us Q I r h)
|`(tactic|rw[4])=>`(tactic|obtain⟨B0,Y,fp,o,S,ef,k⟩:=gh)
|`(tactic|rw[5])=>`(tactic|intro ac s σ H Q I h)
|`(tactic|rw[6])=>`(tactic|obtain⟨v,rfl,r'⟩:=gQ r)
|`(tactic|rw[7])=>`(tactic|refine gP rfl ?_)
|`(tactic|rw[8])=>`(tactic|sleep 0)
local macro_rules|`(tactic|trivial)=>`(tactic|first|exact eT rfl|exact fQ rfl)
open Option renaming some->aa,none->ab
open Bool renaming true->af,false->ag
namespace L2
open PySem PySem.Spec PyProof.Rows
variable {h h' base:aY}{ks:aae}{a b C dx:aC}{xs:List (List aA×aC×aF)}{us:aal}{o:bJ}{u:aF}{x:aD}{t' i k ep:Nat}{ch fp:aaj}{e c tg:aS}{M:Model}{A:cP}{E Q:aF->aK->Prop}{s' s:aK}{pos p:bH}{ac:dl}{K:aM}{f:aF->aF->Sem aF}{es:List aS}{body:List fU}{op:CmpOp}{mg:aD->aao}{fd:lA}{ps:aan}{prog:bW}
instance decEqData:DecidableEq aA:=λa b=>e8 (a=b)
mutual
def bU:aA->Bool
 |.int _=>af
 |.str x=>eY (.str x)
 |.tuple ds=>cW ds
 |_=>ag
def cW:aae->Bool
 |[]=>af
 |d::r=>bU d&&cW r
end
mutual
theorem HV:∀ d:aA,bU d=af->d.canLay0=af
 |.int _,_=>by simp[eY]
 |.str x,h=>by simpa [bU] using h
 |.tuple ds,h=>by
  simp only[eY];exact UY ds (by simpa [bU] using h)
 |.none,h=>by simp[bU] at h
 |.bool _,h=>by simp[bU] at h
 |.list _,h=>by simp[bU] at h
 |.dict _,h=>by simp[bU] at h
theorem UY:∀ ds:aae,cW ds=af->zT ds=af
 |[],_=>by simp[zT]
 |d::r,h=>by
  have h':bU d=af/\cW r=af:=by simpa [cW] using h
  simp only[zT,HV d h'.1,UY r h'.2,qB]
end
mutual
theorem HW:∀ x y:aA,bU x=af->bU y=af->bE x y=decide (x=y)
 |.int i,.int j,_,_=>by
  by_cases e:i=j
  .subst e;simp[bE]
  .have:¬ bC i=.int j:=λq=>e (PyData.int.inj q)
   simp[bE,e]
 |.str i,.str j,_,_=>by
  by_cases e:i=j
  .subst e;simp[bE]
  .simp[bE,e]
 |.tuple xs,.tuple ys,h1,h2=>by
  have e:=IH xs ys (by simpa [bU] using h1) (by simpa [bU] using h2)
  simp only[bE,e]
  grind
 |.int _,.str _,_,_=>by simp[bE]
 |.int _,.tuple _,_,_=>by simp[bE]
 |.str _,.int _,_,_=>by simp[bE]
 |.str _,.tuple _,_,_=>by simp[bE]
 |.tuple _,.int _,_,_=>by simp[bE]
 |.tuple _,.str _,_,_=>by simp[bE]
 |.none,_,h,_=>by simp[bU] at h
 |.bool _,_,h,_=>by simp[bU] at h
 |.list _,_,h,_=>by simp[bU] at h
 |.dict _,_,h,_=>by simp[bU] at h
 |.int _,.none,_,h=>by simp[bU] at h
 |.int _,.bool _,_,h=>by simp[bU] at h
 |.int _,.list _,_,h=>by simp[bU] at h
 |.int _,.dict _,_,h=>by simp[bU] at h
 |.str _,.none,_,h=>by simp[bU] at h
 |.str _,.bool _,_,h=>by simp[bU] at h
 |.str _,.list _,_,h=>by simp[bU] at h
 |.str _,.dict _,_,h=>by simp[bU] at h
 |.tuple _,.none,_,h=>by simp[bU] at h
 |.tuple _,.bool _,_,h=>by simp[bU] at h
 |.tuple _,.list _,_,h=>by simp[bU] at h
 |.tuple _,.dict _,_,h=>by simp[bU] at h
theorem IH:∀ xs ys:aae,cW xs=af->cW ys=af->iU xs ys=decide (xs=ys)
 |[],[],_,_=>by simp[iU]
 |[],_::_,_,_=>by simp[iU]
 |_::_,[],_,_=>by simp[iU]
 |x::xs,y::ys,h1,h2=>by
  have sv:bU x=af/\cW xs=af:=by simpa [cW] using h1
  have qd:bU y=af/\cW ys=af:=by simpa [cW] using h2
  simp only[iU,HW x y sv.1 qd.1,IH xs ys sv.2 qd.2]
  grind
end
mutual
def sG (w:bG):aA->Int
 |.int i=>hashInt i
 |.str x=>hashStr w x
 |.tuple ds=>reduceHash (AE (mB w ds))
 |_=>0
def mB (w:bG):aae->aai
 |[]=>[]
 |d::r=>sG w d::mB w r
end
mutual
def sO:aA->Nat
 |.tuple ds=>oG ds+1
 |_=>1
def oG:aae->Nat
 |[]=>0
 |d::r=>sO d+oG r
end
theorem XZ (a b:aae):oG (a++b)=oG a+oG b:=by
 induction a with
 |nil=>simp[oG]
 |cons x r ih=>simp only[AA,oG,ih];lia
theorem XS (w:bG)(a b:aae):mB w (a++b)=mB w a++mB w b:=by
 induction a with
 |nil=>rfl
 |cons x r ih=>simp only[AA,mB,ih]
section
variable {w:bG}
theorem vF{v:aF}{as:aaj}(r:pQ h v (.tuple ks) as):∃ a o vs n,v=.ref a/\h.get? a=aa o/\o.cls=.type "tuple" /\ o.data=.seq vs n/\pP h vs.toList ks as:=by
 cases r with
 |tuple h1 h2 h3 h4=>exact⟨_,_,_,_,rfl,h1,h2,h3,h4⟩
mutual
theorem VN:∀ (d:aA) {A:cP} {E:aF->aK->Prop} {s:aK} {v:aF} {as:aaj} {Q:Int->aK->Prop},A.units+d.depth<cLine->bU d=af->pQ s.heap v d as ->
  Q (sG w d) { s with toks:=s.toks+sO d }->aP (aW prog w) A (pyHash v) Q E s
 |.int i,A,E,s,v,as,Q,hu,hk,r,h=>by
  cases r with
  |int _ t=>exact wpAny_pyHash_int (by simpa [sG,sO] using h)
 |.str x,A,E,s,v,as,Q,hu,hk,r,h=>by
  cases r with
  |str _ t=>exact wpAny_pyHash_str (by simpa [sG,sO] using h)
 |.tuple ks,A,E,s,v,as,Q,hu,hk,r,h=>by
  obtain⟨a,o,ak,n,rfl,ho,hc,hd,hi⟩:=vF r;have hT:s.TypeIs (.ref a) "tuple":=⟨o,ho,hc⟩;have qe:A.units+(cI ks+1)<cLine:=by simpa [dC] using hu
  unfold pyHash
  first|unfold pyHashByItsType|skip
  first|refine aI (wpAny_cRoomFor_or (.inr ()) ?_)|skip
  refine aI (DU hT MN.lookup ?_);rw[if_neg (by rw[beq_builtin_none];exact oW)]
  refine aI (DU hT MN.lookup ?_);refine aI (wpAny_callSpecialIfBoundUnlessNone?_slot hT MN (jR MN hT F.entry_tuple_hash ?_ (F.args_tuple_hash_1 _)));show aP _ _ (Df (.ref a)>>=_) _ _ s;refine aI (wpAny_tupleItemsOf ho hd ?_);refine aI ?_;rw[<-MW];refine wpAny_forIn_list _
   (λrest (b:Array Int) s'=>∃ done left bs,ks=done++left/\pP s.heap rest left bs/\b.toList=mB w done/\s'={ s with toks:=s.toks+oG done })
   _ ?_ ?_ _ _ ⟨[],ks,as,rfl,hi,rfl,rfl⟩
  .rintro x rest b s' ⟨done,left,bs,e,hl,hb,rfl⟩;cases hl with
   |@cons _ _ d ds F9 vm h1 k4=>
    have hm:d∈ks:=by rw[e];exact oU _ bT
    have jo:cW ks=af:=by simpa [bU] using hk
    refine aI (WU ks hm (by
     have:A.in1.units=A.units+1:=rfl
     lia) jo h1 ?_)
    first
     |exact aZ ⟨done++[d],ds,vm,by simp[e],k4,by simp[hb,XS,mB],by simp[XZ,oG,MA]⟩
     |exact aI (aZ (aZ ⟨done++[d],ds,vm,by simp[e],k4,by simp[hb,XS,mB],by simp[XZ,oG,MA]⟩))
  .rintro b s' ⟨done,left,bs,e,hl,hb,rfl⟩;cases hl;rw[wG] at e;subst e;show aP _ _ (retInt (AE b.toList)) _ _ _;rw[hb];refine wpAny_ret_mkInt ?_;show aP _ _ (if (decide (-(2:Int)^63<=AE (mB w ks))&&decide (AE (mB w ks)<2^63))=af then _ else _) Q E _
   simp only[sG,sO] at h;unfold reduceHash at h;by_cases hr:(decide (-(2:Int)^63<=AE (mB w ks))&&decide (AE (mB w ks)<2^63))=af
   .rw[if_pos hr];rw[if_pos hr] at h;exact aZ (by simpa [MA] using h)
   .rw[if_neg hr];rw[if_neg hr] at h;exact aI (rK (aZ (by simpa [MA] using h)))
 |.none,A,E,s,v,as,Q,hu,hk,r,h=>by simp[bU] at hk
 |.bool _,A,E,s,v,as,Q,hu,hk,r,h=>by simp[bU] at hk
 |.list _,A,E,s,v,as,Q,hu,hk,r,h=>by simp[bU] at hk
 |.dict _,A,E,s,v,as,Q,hu,hk,r,h=>by simp[bU] at hk
theorem WU:∀ (ks:aae) {d:aA},d∈ks->∀ {A:cP} {E:aF->aK->Prop} {s:aK} {v:aF} {as:aaj} {Q:Int->aK->Prop},A.units+cI ks<cLine->cW ks=af->pQ s.heap v d as ->
  Q (sG w d) { s with toks:=s.toks+sO d }->aP (aW prog w) A (pyHash v) Q E s
 |[],_,hm,_,_,_,_,_,_,_,_,_,_=>by simp at hm
 |k::ks,d,hm,A,E,s,v,as,Q,hu,hk,r,h=>by
  have jo:bU k=af/\cW ks=af:=by simpa [cW] using hk
  have qe:A.units+max k.depth (cI ks)<cLine:=by simpa [cI] using hu
  by_cases e:d=k
  .exact VN k () jo.1 (e ▸ r) (by rw[<-e];exact h)
  .have sw:d∈ks:=by
    grind
   exact WU ks sw () jo.2 r h
end
end
section
variable {w:bG}
mutual
theorem SZ:∀ (d:aA) (n:Nat) {A:cP} {E:aF->aK->Prop} {s:aK} {v:aF} {as:aaj} {Q:Bool->aK->Prop},d.depth<=n->bU d=af->pQ s.heap v d as ->
  Q af s->aP (aW prog w) A (eqIsQuiet n v) Q E s
 |.int i,n,A,E,s,v,as,Q,hu,hk,r,h=>by
  cases r with
  |int _ t=>
   rw[eqIsQuiet_byValue n (by rfl)]
   exact aZ h
 |.str x,n,A,E,s,v,as,Q,hu,hk,r,h=>by
  cases r with
  |str _ t=>
   rw[eqIsQuiet_byValue n (by rfl)]
   exact aZ h
 |.tuple ks,n,A,E,s,v,as,Q,hu,hk,r,h=>by
  obtain⟨a,o,ak,m,rfl,ho,hc,hd,hi⟩:=vF r;have hT:s.TypeIs (.ref a) "tuple":=⟨o,ho,hc⟩;have qe:cI ks+1<=n:=by simpa [dC] using hu
  obtain⟨n,rfl⟩:∃ m,n=m+1:=⟨n-1,by omega⟩
  have jo:cW ks=af:=by simpa [bU] using hk
  unfold eqIsQuiet;refine aI (DU hT F.slot_tuple_eq.lookup ?_);refine aI (zO hT isSubtype_tuple_tuple ?_);simp only[Bool.not_true,qA,if_false];refine aI (mZ ho hd ?_);refine aI ?_;rw[<-MW];refine wpAny_forIn_list _ (λrest r s'=>r.1=ab/\s'=s/\∃ ds bs,pP s.heap rest ds bs/\∀ d∈ds,d∈ks) _ ?_ ?_ _ _ ⟨rfl,rfl,ks,as,hi,λ_ h=>h⟩
  .rintro v rest r s' ⟨hr,rfl,ds,bs,hl,iy⟩;cases hl with
   |@cons _ _ d ds F9 vm h1 k4=>
    refine aI (VR ks (iy d bT) n (by omega) jo h1 ?_)
    simp only[Bool.not_true,qA,if_false];exact aZ ⟨rfl,rfl,ds,vm,k4,λu Go=>iy u (cL _ Go)⟩
  .rintro⟨r1,r2⟩ s' ⟨hr,rfl,_⟩;simp only at hr;subst hr;exact aZ h
 |.none,n,A,E,s,v,as,Q,hu,hk,r,h=>by simp[bU] at hk
 |.bool _,n,A,E,s,v,as,Q,hu,hk,r,h=>by simp[bU] at hk
 |.list _,n,A,E,s,v,as,Q,hu,hk,r,h=>by simp[bU] at hk
 |.dict _,n,A,E,s,v,as,Q,hu,hk,r,h=>by simp[bU] at hk
theorem VR:∀ (ks:aae) {d:aA},d∈ks->∀ (n:Nat) {A:cP} {E:aF->aK->Prop} {s:aK} {v:aF} {as:aaj} {Q:Bool->aK->Prop},cI ks<=n->cW ks=af->pQ s.heap v d as ->
  Q af s->aP (aW prog w) A (eqIsQuiet n v) Q E s
 |[],_,hm,_,_,_,_,_,_,_,_,_,_,_=>by simp at hm
 |k::ks,d,hm,n,A,E,s,v,as,Q,hu,hk,r,h=>by
  have jo:bU k=af/\cW ks=af:=by simpa [cW] using hk
  have qe:max k.depth (cI ks)<=n:=by simpa [cI] using hu
  by_cases e:d=k
  .exact SZ k n (by omega) jo.1 (e ▸ r) h
  .have sw:d∈ks:=by
    grind
   exact VR ks sw n (by omega) jo.2 r h
end
mutual
theorem VA(kp:∀ b o vs n,h.get? b=aa o->o.cls=.type "tuple" -> o.data=.seq vs n->h'.get? b=aa o):∀ (d:aA) {v:aF} {as:aaj},bU d=af->pQ h v d as->pQ h' v d as
 |.int i,v,as,hk,r=>by
  cases r with
  |int _ t=>exact .int i t
 |.str x,v,as,hk,r=>by
  cases r with
  |str _ t=>exact .str x t
 |.tuple ks,v,as,hk,r=>by
  obtain⟨a,o,ak,m,rfl,ho,hc,hd,hi⟩:=vF r;exact .tuple (kp _ _ _ _ ho hc hd) hc hd (XT kp ks (by simpa [bU] using hk) hi)
 |.none,v,as,hk,r=>by simp[bU] at hk
 |.bool _,v,as,hk,r=>by simp[bU] at hk
 |.list _,v,as,hk,r=>by simp[bU] at hk
 |.dict _,v,as,hk,r=>by simp[bU] at hk
theorem XT(kp:∀ b o vs n,h.get? b=aa o->o.cls=.type "tuple" -> o.data=.seq vs n->h'.get? b=aa o):∀ (ds:aae) {vs:aal} {as:aaj},cW ds=af->pP h vs ds as->pP h' vs ds as
 |[],vs,as,hk,r=>by
  cases r with
  |nil=>exact .nil
 |d::ds,vs,as,hk,r=>by
  have jo:bU d=af/\cW ds=af:=by simpa [cW] using hk
  cases r with
  |cons r1 r2=>exact .cons (VA kp d jo.1 r1) (XT kp ds jo.2 r2)
end
def Alc (h:aY)(ks:aae)(a:aC):Prop:=cW ks=af/\cI ks<=6/\∃ as,pQ h (.ref a) (.tuple ks) as
theorem Alc.keep(kp:∀ b o vs n,h.get? b=aa o->o.cls=.type "tuple" -> o.data=.seq vs n->h'.get? b=aa o)(k:Alc h ks a):Alc h' ks a:=
 ⟨k.1,k.2.1,k.2.2.choose,VA kp (.tuple ks) (by simpa [bU] using k.1) k.2.2.choose_spec⟩
def qW (prog:bW)(w:bG):HeapKind prog w aae where
 is:=Alc
 hash:=λks=>sG w (.tuple ks)
 draws:=λks=>sO (.tuple ks)
 room:=λA=>A.units+20<cLine
 inj:=λ{h a x y} hx hy=>by
  obtain⟨k1,_,as,r1⟩:=hx;obtain⟨k2,_,bs,r2⟩:=hy;exact Ce (reads_det (λ_ _ e _=>e) r2 r1).1
 keeps:=λ{h h' k a d o es ep} x ho hd hs=>x.keep λb ob vs n hb _ gn=>by
  have j':b≠d:=by
   rintro rfl;rw[ho] at hb;cases hb;rw[hd] at gn;cases gn
  exact(hs.2 b j').trans hb
 pyHash:=λ{A E s k a Q} hu hk h=>by
  obtain⟨k1,k2,as,r⟩:=hk;exact VN (.tuple k) (by simp only[dC];omega) (by simpa [bU] using k1) r h
 eqBool:=λ{A E s x y a b Q} hu hx hy h=>by
  obtain⟨k1,d1,as,r1⟩:=hx;obtain⟨k2,d2,bs,r2⟩:=hy;have e:=HW (.tuple x) (.tuple y) (by simpa [bU] using k1) (by simpa [bU] using k2)
  have e2:decide ((fO x)=.tuple y)=decide (x=y):=by
   by_cases q:x=y
   .subst q;simp
   .rw[decide_eq_false q,decide_eq_false (λz=>q (Ce z))]
  have:=SeqAt.eqAt_reads (.tuple x) (.tuple y) A s (.ref a) (.ref b) as bs r1 r2 (HV _ (by simpa [bU] using k1)) (HV _ (by simpa [bU] using k2)) (by simp only[dC];omega)
  rw[e,e2] at this;exact this prog w E Q h
 quiet:=λ{A E s k a Q} hk h=>by
  obtain⟨k1,k2,as,r⟩:=hk;exact SZ (.tuple k) 8 (by simp only[dC];omega) (by simpa [bU] using k1) r h
end
abbrev aG:=Sum Int aD
abbrev aah:=List aG
abbrev aad:=List (aG×Int)
abbrev aab:=List (aG×aF)
abbrev aaa:=List (aG×aA)
noncomputable def uH:aG->aF->Bool
 |.inl k,v=>Value.isInt k v
 |.inr x,v=>LP x v
def Ef (w:bG):aG->Int
 |.inl k=>hashInt k
 |.inr x=>hashStr w x
theorem oM:∀ {k:aG} {v:aF},uH k v=af->(∃ i t,k=eR i/\v=DZ i t)\/(∃ x t,k=fX x/\v=Value.str x t)
 |.inl i,v,h=>by
  obtain⟨t,e⟩:=Value.isInt_shape (k:=i) (v:=v) h
  grind
 |.inr x,v,h=>by
  obtain⟨t,e⟩:=Value.isStrOf_shape (x:=x) (v:=v) h
  grind
theorem Zw (i:Int)(t:Tok):uH (.inl i) (.int i t)=af:=by simp[uH,Value.isInt]
theorem Ot (x:aD)(t:Tok):uH (.inr x) (.str x t)=af:=by simp[uH,LP]
theorem Hn (a b:Int):decide ((eR a:aG)=eR b)=(a==b):=by
 grind
theorem Hc (a b:aD):decide ((fX a:aG)=fX b)=decide (a=b):=by
 grind
theorem Hy (a:Int)(b:aD):decide ((eR a:aG)=fX b)=ag:=decide_eq_false (λq=>nomatch q)
theorem Ho (a:aD)(b:Int):decide ((fX a:aG)=eR b)=ag:=decide_eq_false (λq=>nomatch q)
def fD (prog:bW)(w:bG):PySem.KeyKind prog w aG where
 is:=uH
 hash:=Ef w
 inj:=λv a b ha hb=>by
  rcases oM ha with⟨i,t,rfl,rfl⟩|⟨x,t,rfl,rfl⟩
  .rcases oM hb with⟨j,u,rfl,e⟩|⟨y,u,rfl,e⟩
   .injection e with e1 _;rw[e1]
   .exact nomatch e
  .rcases oM hb with⟨j,u,rfl,e⟩|⟨y,u,rfl,e⟩
   .exact nomatch e
   .injection e with e1 _;rw[e1]
 byValue:=λk v h=>by
  rcases oM h with⟨i,t,rfl,rfl⟩|⟨x,t,rfl,rfl⟩<;>rfl
 pyHash:=λhv h=>by
  rcases oM hv with⟨i,t,rfl,rfl⟩|⟨x,t,rfl,rfl⟩
  .exact wpAny_pyHash_int h
  .exact wpAny_pyHash_str h
 eqBool:=λhu hv h=>by
  rcases oM hu with⟨i,t,rfl,rfl⟩|⟨x,t,rfl,rfl⟩
  .rcases oM hv with⟨j,u,rfl,rfl⟩|⟨y,u,rfl,rfl⟩
   .rw[Hn] at h;exact wpAny_eqBool_int h
   .rw[Hy] at h;exact SeqAt.EqAt.int_str i t y u _ _ _ _ h
  .rcases oM hv with⟨j,u,rfl,rfl⟩|⟨y,u,rfl,rfl⟩
   .rw[Ho] at h;exact SeqAt.EqAt.str_int x t j u _ _ _ _ h
   .rw[Hc] at h;exact wpAny_eqBool_str h
 «strs»:=λk x t v h=>by
  rcases oM h with⟨i,u,rfl,e⟩|⟨y,u,rfl,e⟩
  .exact nomatch e
  .injection e with e1 _;subst e1;cases v<;>rfl
theorem JV (prog:bW)(w:bG)(i:Int)(t:Tok):(fD prog w).is (.inl i) (.int i t)=af:=Zw i t
theorem JP (prog:bW)(w:bG)(x:aD)(t:Tok):(fD prog w).is (.inr x) (.str x t)=af:=Ot x t
inductive V where
 |non|bl (b:Bool)|int (i:Int)|str (x:aD)|byt (b:Array UInt8)|flt (b:UInt64)|ref (a:aC)|ty (n:String)
 deriving DecidableEq
abbrev aag:=List V
abbrev ww:=List (V×V)
abbrev ce:=List (List aA×V)
abbrev bm:=List (aG×V)
def RelV:V->aF->Prop
 |.non,u=>u=gS
 |.bl b,u=>u=Value.bool b
 |.int i,u=>∃ t,u=DZ i t
 |.str x,u=>∃ t,u=Value.str x t
 |.byt b,u=>∃ t,u=Value.bytes b t
 |.flt b,u=>∃ t,u=Value.float b t
 |.ref a,u=>u=gN a
 |.ty n,u=>u=kX n
abbrev Vals:aag->aal->Prop:=gJ RelV
theorem Vals.length {xs:aag}(r:Vals xs us):xs.length=us.length:=oC r
theorem Vals.get:∀ {xs:aag} {us:aal} {i:Nat} {x:V},Vals xs us->xs[i]?=aa x->∃ u,us[i]?=aa u/\RelV x u
 |_,_,_,_,.nil,e=>by simp at e
 |_,_,0,_,.cons r _,e=>by simp at e;subst e;exact⟨_,rfl,r⟩
 |_,_,i+1,x,.cons _ t,e=>by
  obtain⟨u,h1,h2⟩:=Vals.get (i:=i) (x:=x) t (by simpa using e)
  grind
theorem Vals.append:∀ {xs ys:aag} {us ws:aal},Vals xs us->Vals ys ws->Vals (xs++ys) (us++ws)
 |_,_,_,_,.nil,s=>s
 |_,_,_,_,.cons r t,s=>.cons r (Vals.append t s)
theorem Vals.take:∀ {xs:aag} {us:aal} (n:Nat),Vals xs us->Vals (xs.take n) (us.take n)
 |_,_,0,_=>.nil
 |_,_,_+1,.nil=>.nil
 |_,_,n+1,.cons r t=>.cons r (Vals.take n t)
theorem Vals.drop:∀ {xs:aag} {us:aal} (n:Nat),Vals xs us->Vals (xs.drop n) (us.drop n)
 |_,_,0,r=>r
 |_,_,_+1,.nil=>.nil
 |_,_,n+1,.cons _ t=>Vals.drop n t
def Asf:Option V->aao->Prop
 |some v,aa u=>RelV v u
 |none,ab=>True
 |_,_=>False
def KV {κ:Type}:List (κ×V)->List (κ×aF)->Prop:=gJ λ(p:κ×V) (q:κ×aF)=>p.1=q.1/\RelV p.2 q.2
def kV:aG->V
 |.inl i=>.int i
 |.inr x=>.str x
inductive HO where
 |lst (xs:List V)
 |tup (xs:List V)
 |dK (ep:Nat) (kvs:List (aG×V))|dT (ep:Nat) (kvs:List (List aA×V))
 |set (S:Int->Bool) (n:Nat)
 |ins (C dx:aC) (fs:List (aD×V))
 |own (x:aC)
 |xd (fs:List (aD×V))
 |met (f x:aC)
 |rng (lo hi:Int)
 |frz (o:bJ) (u:HO)
 |tbl (ps:Array aF)
 |ext (φ:aY->Prop)
abbrev Hp:=aC->Option HO
def upd (H:Hp)(a:aC)(o:HO):Hp:=λb=>if b=a then aa o else H b
theorem fT {H:Hp}{o:HO}:upd H a o a=aa o:=by unfold upd;rw[if_pos rfl]
theorem dY {H:Hp}{o:HO}(h:b≠a):upd H a o b=H b:=by unfold upd;rw[if_neg h]
theorem Kk {H:Hp}{o u:HO}:upd (upd H a o) a u=upd H a u:=by
 funext b;unfold upd;split<;>rfl
theorem Ff {H:Hp}{o u:HO}(h:H a=aa o)(h':H b=aa u)(d:o≠u):a≠b:=by
 grind
theorem kT {H:Hp}{o:HO}(h:H a=aa o)(h':H b=ab):a≠b:=by
 intro e;subst e;rw[h] at h';cases h'
mutual
def Ah2 (H:Hp):aA->V->Prop
 |.int i,v=>v=.int i
 |.str x,v=>v=.str x
 |.tuple ds,v=>∃ a xs,v=.ref a/\H a=aa (.tup xs)/\Aej H ds xs
 |_,_=>False
def Aej (H:Hp):aae->aag->Prop
 |[],vs=>vs=[]
 |d::r,vs=>∃ x rr,vs=x::rr/\Ah2 H d x/\Aej H r rr
end
mutual
theorem Ah2.keep {H H':Hp}(ht:∀ b xs,H b=aa (.tup xs)->H' b=aa (.tup xs)):∀ {d:aA} {v:V},Ah2 H d v->Ah2 H' d v
 |.int _,_,k=>by simpa [Ah2] using k
 |.str _,_,k=>by simpa [Ah2] using k
 |.tuple ds,_,k=>by
  simp only[Ah2] at k ⊢;obtain⟨a,xs,e,h,ks⟩:=k;exact⟨a,xs,e,ht _ _ h,Aej.keep ht ks⟩
 |.none,_,k=>by simp[Ah2] at k
 |.bool _,_,k=>by simp[Ah2] at k
 |.list _,_,k=>by simp[Ah2] at k
 |.dict _,_,k=>by simp[Ah2] at k
theorem Aej.keep {H H':Hp}(ht:∀ b xs,H b=aa (.tup xs)->H' b=aa (.tup xs)):∀ {ds:aae} {vs:aag},Aej H ds vs->Aej H' ds vs
 |[],_,k=>by simpa [Aej] using k
 |d::ds,_,k=>by
  simp only[Aej] at k ⊢;obtain⟨x,r,e,k1,k2⟩:=k;exact⟨x,r,e,Ah2.keep ht k1,Aej.keep ht k2⟩
end
def Apc (H:Hp)(ks:aae)(a:aC):Prop:=cW ks=af/\cI ks<=6/\∃ xs,H a=aa (.tup xs)/\Aej H ks xs
theorem Apc.keep {H H':Hp}(k:Apc H ks a)(ht:∀ b xs,H b=aa (.tup xs)->H' b=aa (.tup xs)):Apc H' ks a:=
 ⟨k.1,k.2.1,k.2.2.choose,ht _ _ k.2.2.choose_spec.1,k.2.2.choose_spec.2.keep ht⟩
def A4z (h:aY)(a:aC)(its:Array aF):Prop:=IsTup h a its/\∃ o,h.get? a=aa o/\o.dict=ab
theorem A4z.new (h:aY)(its:Array aF):A4z (h.push { cls:=.type "tuple",data:=.seq its }) h.objs.size its:=⟨IsTup.new _ _,_,dZ _ rfl,rfl⟩
section
variable (P:bW)(w:bG)
def Ac5 (H:Hp)(h:aY)(a:aC):HO->Prop
 |.lst xs=>xs.length<=sizeLine/\∃ (its:aal) (n:Nat),Vals xs its/\h.get? a=aa { cls:=.type "list",data:=.seq its.toArray n }
 |.tup xs=>xs.length<=sizeLine/\∃ its:aal,Vals xs its/\A4z h a its.toArray
 |.dK ep kvs=>kvs.length<=sizeLine/\(a==iD)=ag/\∃ vs,KV kvs vs/\h.DictAt (fD P w) a vs ep
 |.dT ep kvs=>kvs.length<=sizeLine/\(a==iD)=ag/\∃ xs:List (List aA×aC×aF),
   gJ (λ(p:List aA×V) (q:List aA×aC×aF)=>p.1=q.1/\Apc H p.1 q.2.1/\RelV p.2 q.2.2) kvs xs /\
   ∃ o es,h.get? a=aa o/\o.ExactDict/\o.data=.dict es ep/\es.toList=xs.map (entryOfKey (qW P w))/\(xs.map (·.1)).Nodup
 |.set S n=>h.SetOf (intKind P w) a S n
 |.ins C dx fs=>H dx=aa (.own a)/\fs.length<=1000/\dx≠a/\h.get? a=aa (Bv C dx) /\
   ∃ mA,h.Ns1 dx mA/\(∀ f,Asf (fs.lookup f) (mA f))/\PySem.Within mA (fs.map (·.1))
 |.own _=>∃ o,h.get? a=aa o
 |.xd fs=>∃ mA,h.Ns1 a mA/\∀ f,Asf (fs.lookup f) (mA f)
 |.rng lo hi=>∃ t u v,h.get? a=aa { cls:=.type "range",data:=.fields #[.int lo t,.int hi u,.int 1 v] }
 |.frz o u=>h.get? a=aa o/\Ac5 H h a u
 |.tbl ps=>h.get? a=aa { cls:=.none,data:=.fields ps }
 |.met f x=>h.get? a=aa (Bq (.ref f) (.ref x))
 |.ext φ=>φ h/\(∃ o,h.get? a=aa o)/\∀ h1 h2:aY,φ h1->(∀ o,h1.get? a=aa o->h2.get? a=aa o)->φ h2
def HOk (H:Hp)(h:aY):Prop:=∀ a o,H a=aa o->Ac5 P w H h a o
end
section
variable {P:bW}{w:bG}{H H':Hp}{o:HO}
theorem Ac5.lt (x:Ac5 P w H h a o):a<h.objs.size:=by
 cases o with
 |lst xs=>obtain⟨_,_,_,_,e⟩:=x;exact bX e
 |tup xs=>obtain⟨_,_,_,p⟩:=x;exact p.1.lt
 |dK ep kvs=>obtain⟨_,_,_,_,o,_,e,_⟩:=x;exact bX e
 |dT ep kvs=>obtain⟨_,_,_,_,o,_,e,_⟩:=x;exact bX e
 |set S n=>obtain⟨o,_,_,_,e,_⟩:=x;exact bX e
 |ins C dx fs=>obtain⟨_,_,_,e,_⟩:=x;exact bX e
 |own y=>obtain⟨_,e⟩:=x;exact bX e
 |xd fs=>obtain⟨_,⟨_,_,_,e,_⟩,_⟩:=x;exact bX e
 |rng lo hi=>obtain⟨_,_,_,e⟩:=x;exact bX e
 |frz ob u=>obtain⟨e,_⟩:=x;exact bX e
 |tbl ps=>exact bX (show h.get? a=aa _ from x)
 |met f y=>exact bX (show h.get? a=aa _ from x)
 |ext φ=>obtain⟨_,⟨_,e⟩,_⟩:=x;exact bX e
theorem Paired.mapP {α β:Type}{F G:α->β->Prop}:∀ {l₁:List α} {l₂:List β},gJ F l₁ l₂->(∀ a b,F a b->G a b)->gJ G l₁ l₂:=by
 intro l₁ l₂ h;induction h with
 |nil=>exact λ_=>.nil
 |cons r _ ih=>exact λf=>.cons (f _ _ r) (ih f)
theorem Ac5.stay (x:Ac5 P w H h a o)(k:∀ b u,(b=a\/H b=aa (.own a))->h.get? b=aa u->h'.get? b=aa u)
  (ho:∀ b,H b=aa (.own a)->H' b=aa (.own a)) (ht:∀ b xs,H b=aa (.tup xs)->H' b=aa (.tup xs)):Ac5 P w H' h' a o:=by
 induction o with
 |lst xs=>obtain⟨z,its,n,r,e⟩:=x;exact⟨z,its,n,r,k _ _ (.inl rfl) e⟩
 |tup xs=>obtain⟨z,its,r,⟨ob,e,c⟩,G0,e2,c2⟩:=x;exact⟨z,its,r,⟨ob,k _ _ (.inl rfl) e,c⟩,G0,k _ _ (.inl rfl) e2,c2⟩
 |dK ep kvs=>obtain⟨z,y,vs,r,ob,es,e,c⟩:=x;exact⟨z,y,vs,r,ob,es,k _ _ (.inl rfl) e,c⟩
 |dT ep kvs=>
  obtain⟨z,y,xs,r,ob,es,e,c⟩:=x;exact⟨z,y,xs,Paired.mapP r λp q z=>⟨z.1,z.2.1.keep ht,z.2.2⟩,ob,es,k _ _ (.inl rfl) e,c⟩
 |set S n=>obtain⟨ob,es,ep,t,e,c⟩:=x;exact⟨ob,es,ep,t,k _ _ (.inl rfl) e,c⟩
 |ins C dx fs=>
  obtain⟨d,z,ne,e,mA,⟨od,es,ep,e2,c⟩,r⟩:=x;exact⟨ho _ d,z,ne,k _ _ (.inl rfl) e,mA,⟨od,es,ep,k _ _ (.inr d) e2,c⟩,r⟩
 |own y=>obtain⟨ob,e⟩:=x;exact⟨ob,k _ _ (.inl rfl) e⟩
 |xd fs=>obtain⟨mA,⟨od,es,ep,e,c⟩,r⟩:=x;exact⟨mA,⟨od,es,ep,k _ _ (.inl rfl) e,c⟩,r⟩
 |rng lo hi=>obtain⟨t,u,v,e⟩:=x;exact⟨t,u,v,k _ _ (.inl rfl) e⟩
 |frz ob u ih=>obtain⟨e,q⟩:=x;exact⟨k _ _ (.inl rfl) e,ih q⟩
 |tbl ps=>
  have e:h.get? a=aa { cls:=.none,data:=.fields ps }:=x;show h'.get? a=aa { cls:=.none,data:=.fields ps };exact k a _ (.inl rfl) e
 |met f y=>
  have e:h.get? a=aa (Bq (.ref f) (.ref y)):=x;show h'.get? a=aa (Bq (.ref f) (.ref y));exact k a _ (.inl rfl) e
 |ext φ=>obtain⟨p,⟨o,e⟩,st⟩:=x;exact⟨st _ _ p λo q=>k _ _ (.inl rfl) q,⟨o,k _ _ (.inl rfl) e⟩,st⟩
theorem HOk.lt (x:HOk P w H h)(e:H a=aa o):a<h.objs.size:=(x a o e).lt
theorem HOk.fresh (x:HOk P w H h)(e:h.objs.size<=a):H a=ab:=by
 cases q:H a with
 |none=>rfl
 |some u=>exact absurd (iF (x.lt q) e) (mE _)
theorem HOk.kept (x:HOk P w H h)(k:∀ b u,h.get? b=aa u->h'.get? b=aa u):HOk P w H h':=λa o e=>
 (x a o e).stay (λb u _ q=>k b u q) (λ_ q=>q) λ_ _ q=>q
theorem HOk.laid (x:HOk P w H h)(k:∀ b u,h.get? b=aa u->h'.get? b=aa u)(hp:h.objs.size<=a)(new:Ac5 P w (upd H a o) h' a o):HOk P w (upd H a o) h':=λb u e=>by
 have hn:=x.fresh hp;by_cases hb:b=a
 .subst hb;rw[fT] at e;cases e;exact new
 .rw[dY hb] at e;exact(x b u e).stay (λc v _ q=>k c v q) (λc q=>by rw[dY (kT q hn)];exact q) λc xs q=>by rw[dY (kT q hn)];exact q
end
def Rd (H:Hp)(a:aC)(u:HO):Prop:=H a=aa u\/∃ o,H a=aa (.frz o u)
theorem Rd.ok {P:bW}{w:bG}{H:Hp}{u:HO}(r:Rd H a u)(x:HOk P w H h):Ac5 P w H h a u:=by
 rcases r with r|⟨o,r⟩
 .exact x a u r
 .obtain⟨_,q⟩:=x a _ r;exact q
def wL:Option HO->Prop
 |some (.lst _)=>True
 |some (.dK _ _)=>True
 |some (.dT _ _)=>True
 |some (.set _ _)=>True
 |some (.ins _ _ _)=>True
 |some (.ext _)=>True
 |_=>False
section
variable {P:bW}{w:bG}{H:Hp}{x e:aC}{o':HO}
theorem HOk.write (ok:HOk P w H h)(mu:wL (H x))(he:e=x\/H e=aa (.own x))(k:∀ b u,b≠e->h.get? b=aa u->h'.get? b=aa u)(sx:∃ u,h'.get? e=aa u)
  (new:Ac5 P w (upd H x o') h' x o'):HOk P w (upd H x o') h':=λb u q=>by
 have wy:∀ c y,H c=aa (.own y)->c≠x:=λc y r z=>by subst z;rw[r] at mu;exact mu
 have wz:∀ c xs,H c=aa (.tup xs)->c≠x:=λc xs r z=>by subst z;rw[r] at mu;exact mu
 by_cases hb:b=x
 .subst hb;rw[fT] at q;cases q;exact new
 .rw[dY hb] at q;by_cases G1:b=e
  .have q':H b=aa (.own x):=by
    grind
   rw[q] at q';cases q';obtain⟨v,hv⟩:=sx;exact⟨v,by rw[G1];exact hv⟩
  .refine(ok b u q).stay (λc v hc r=>k c v ?_ r) (λc r=>by rw[dY (wy c b r)];exact r) λc xs r=>by rw[dY (wz c xs r)];exact r
   grind
end
structure Un (fs ex:List aC)(H H':Hp)(h h':aY):Prop where
 keep:∀ b o,h.get? b=aa o->H b=ab->b∉fs->b∉ex->h'.get? b=aa o
 slot:∀ b o,h.get? b=aa o->H b=ab->b∈fs->b∉ex->∃ sl,h'.get? b=aa { o with slots:=sl }
 free:∀ b o,h.get? b=aa o->H b=ab->b∉ex->H' b=ab
 there:∀ b o,h.get? b=aa o->b∉ex->∃ o',h'.get? b=aa o'
 tups:∀ b xs,H b=aa (.tup xs)->H' b=aa (.tup xs)
 frzs:∀ b o u,H b=aa (.frz o u)->H' b=aa (.frz o u)
 tbls:∀ b ps,H b=aa (.tbl ps)->∃ more,H' b=aa (.tbl (ps++more))
section
variable {fs G2 ex vo:aaj}{H H1 H2:Hp}{h1 h2:aY}{x e:aC}{o:HO}
theorem Un.any (u:Un fs ex H H1 h h1){ob:bJ}(q:h.get? b=aa ob)(n:H b=ab)(hx:b∉ex):∃ sl,h1.get? b=aa { ob with slots:=sl }:=by
 by_cases hb:b∈fs
 .exact u.slot b ob q n hb hx
 .exact⟨ob.slots,u.keep b ob q n hb hx⟩
theorem Un.kept (k:∀ b u,h.get? b=aa u->h'.get? b=aa u):Un fs ex H H h h':=
 ⟨λb ob q _ _ _=>k b ob q,λb ob q _ _ _=>⟨ob.slots,k b ob q⟩,λ_ _ _ n _=>n,λb ob q _=>⟨ob,k b ob q⟩,λ_ _ q=>q,λ_ _ _ q=>q,λ_ ps q=>⟨#[],by rw[q];simp⟩⟩
theorem Un.refl:Un fs ex H H h h:=Un.kept λ_ _ q=>q
theorem Un.laid (k:∀ b u,h.get? b=aa u->h'.get? b=aa u)(hp:h.objs.size<=a)(hn:H a=ab):Un fs ex H (upd H a o) h h' where
 keep:=λb u q _ _ _=>k b u q
 slot:=λb u q _ _ _=>⟨u.slots,k b u q⟩
 free:=λb u q n _=>by rw[dY (fH (iF (bX q) hp))];exact n
 there:=λb u q _=>⟨u,k b u q⟩
 tups:=λb xs q=>by rw[dY (kT q hn)];exact q
 frzs:=λb u xs q=>by rw[dY (kT q hn)];exact q
 tbls:=λb ps q=>⟨#[],by rw[dY (kT q hn),q];simp⟩
theorem Un.write (mu:wL (H x))(he:e=x\/H e=aa (.own x))(k:∀ b u,b≠e->h.get? b=aa u->h'.get? b=aa u)(sx:∃ u,h'.get? e=aa u):Un fs ex H (upd H x o) h h':=by
 have hx:∀ b,H b=ab->b≠x:=λb n z=>by subst z;rw[n] at mu;exact mu
 have hb:∀ b,H b=ab->b≠e:=λb n z=>by
  grind
 have hm:∀ b u,H b=aa u->¬ wL (aa u)->b≠x:=λb u q nm z=>by subst z;rw[q] at mu;exact nm mu
 refine⟨λb u q n _ _=>k b u (hb b n) q,λb u q n _ _=>⟨u.slots,k b u (hb b n) q⟩,λb u q n _=>by rw[dY (hx b n)];exact n,λb u q _=>?_,
  λb xs q=>by rw[dY (hm b _ q λz=>z)];exact q,λb u xs q=>by rw[dY (hm b _ q λz=>z)];exact q,λb ps q=>⟨#[],by rw[dY (hm b _ q λz=>z),q];simp⟩⟩
 grind
end
noncomputable def wx (h:aY)(H:Hp):aaj:=(bD h.objs.size).filter λa=>(H a).isSome
def pJ (h:aY)(H:Hp):aY:=PySem.W.hideAll h (wx h H)
theorem Zq (h:aY)(H:Hp):(pJ h H).objs.size=h.objs.size:=PySem.W.hideAll_size _ _
theorem Yc{H:Hp}(e:h.get? b=aa o)(n:H b=ab):(pJ h H).get? b=aa o:=
 PySem.W.hideAll_get _ e λhm=>by
  have q:(H b).isSome=af:=(mH.1 hm).2;rw[n] at q;simp at q
theorem Lc{H:Hp}(e:(pJ h H).get? b=aa o):h.get? b=aa o/\H b=ab:=by
 have e':h.get? b=aa o:=PySem.W.of_hideAll (wx h H) e;refine⟨e',?_⟩;cases q:H b with
 |none=>rfl
 |some x=>
  have hm:b∈wx h H:=mH.2 ⟨hE.2 (bX e'),by simp[q]⟩
  have z:(pJ h H).get? b=ab:=PySem.W.hideAll_none (wx h H) hm;rw[z] at e;cases e
noncomputable def Ko (g h:aY)(L:aC):dl:=(bD h.objs.size).filterMap λa=>if a=L\/(g.get? a).isSome=af then ab else(h.get? a).map λo=>(a,o)
def rest (g h:aY)(L d:aC):dl:=(Ko g h L).filter λp=>decide (p.1≠d)
structure Mod (K:aM)(mg:aD->Option aF)(base:aY):Prop where
 kin:K.In base
 glob:base.Ns iS mg
 blt:∃ mb,base.Ns builtinsNs mb/\∀ x:aD,x ≠ "__name__" -> mb x=nA x
 nolimit:base.NoLimit
structure Cx where
 prog:bW
 w:bG
 K:aM
 mg:aD->Option aF
 base:aY
 A:cP
 N:List aD
 s₀:aK
 H₀:Hp
 env:fE
 outer:List fE
 stack:List fE
 ex:List aC
 fn:aD->Bool
 calm:Bool
 pn:List (aC×bJ)
 xe:aF->aK->Prop
def k8 (l:List fE):aaj:=l.filterMap (·.frame)
abbrev Cx.fs (X:Cx):aaj:=k8 X.outer
def wK (sc:gY)(x:aD):Prop:=sc.names.lookup x=aa .local\/sc.names.lookup x=aa .cell\/sc.names.lookup x=aa .free
def jN (sc:gY)(x:aD):Prop:=sc.names.lookup x=aa .local\/sc.names.lookup x=aa .cell
def Look (env:fE)(h:aY)(m:aD->aao)(x:aD)(u:aF):Prop:=
 (env.kindOf x=aa .local/\m x=aa u)\/((env.kindOf x=aa .cell\/env.kindOf x=aa .free)/\∃ c,env.cells.lookup x=aa c/\h.IsCell c (aa u))
abbrev Fn (X:Cx)(x:aD):Prop:=X.fn x=af\/X.env.scope.names.lookup x=aa .local
theorem jO {X:Cx}(h:X.fn x=af\/X.env.scope.names.lookup x=aa .local:=by first|exact .inl rfl|exact .inr rfl|assumption):Fn X x:=h
structure Cx.Ok (X:Cx):Prop where
 mod:Mod X.K X.mg X.base
 kind:X.env.scope.kind=.function
 glob:X.env.globals=iS
 blt:X.env.builtins=builtinsNs
 above:X.s₀.heap.objs.size<=X.env.locals
 inj:∀ x y c,X.env.cells.lookup x=aa c->X.env.cells.lookup y=aa c->x=y
 has:∀ x,(X.env.kindOf x=aa .cell\/X.env.kindOf x=aa .free)->∃ c,X.env.cells.lookup x=aa c
 cab:∀ x c,X.fn x=af->X.env.cells.lookup x=aa c->X.s₀.heap.objs.size<=c
 hd:X.calm=af->X.A.handled=ab
 frames:X.A.frames=aa X.stack
 stk:X.stack=X.outer\/(X.stack=X.env::X.outer/\X.env.frame=aa X.env.locals)
 exf:∀ b∈X.ex,b≠X.env.locals/\∀ x c,X.env.cells.lookup x=aa c->c≠b
 bs:∀ b o,X.base.get? b=aa o->X.s₀.heap.get? b=aa o/\X.H₀ b=ab
 bsz:X.base.objs.size<=X.s₀.heap.objs.size
 noex:∀ b o,X.base.get? b=aa o->b∉X.ex
 exfs:∀ b∈X.ex,b∉X.fs
 funs:X.s₀.heap.FunFrames X.base X.outer
 frf:∀ b∈X.fs,X.H₀ b=ab
structure Inv (X:Cx)(ac:List (aC×bJ))(σ:List (Option V))(H:Hp)(s:aK):Prop where
 ok:X.Ok
 os:s.os=X.s₀.os
 bare:rS s.gens
 base:Un X.fs X.ex X.H₀ H X.s₀.heap s.heap
 loc:∃ m,s.heap.Ns X.env.locals m/\∀ (i:Nat) (x:aD) (v:V),X.N[i]?=aa x->σ[i]?=aa (aa v)->wK X.env.scope x->∃ u,RelV v u/\Look X.env s.heap m x u
 cell:∀ x c,X.env.cells.lookup x=aa c->∃ v,s.heap.IsCell c v
 free:H X.env.locals=ab
 Ade:∀ x c,X.env.cells.lookup x=aa c->H c=ab
 pin:∀ p∈X.pn++ac,s.heap.get? p.1=aa p.2/\H p.1=ab/\p.1≠X.env.locals/\p.1∉X.fs/\∀ v,p.2.data ≠ .cell v
 hok:HOk X.prog X.w H s.heap
 len:σ.length=X.N.length
section
variable {X:Cx}{σ:List (Option V)}{H H':Hp}
theorem Cx.Ok.nofr (ok:X.Ok)(e:X.base.get? b=aa o):b∉X.fs:=λhb=>by
 have:=(ok.funs.mem hb).1;rw[e] at this;cases this
theorem Inv.bs (I:Inv X ac σ H s):∀ b o,X.base.get? b=aa o->s.heap.get? b=aa o/\H b=ab:=λb o e=>
 ⟨I.base.keep b o (I.ok.bs b o e).1 (I.ok.bs b o e).2 (I.ok.nofr e) (I.ok.noex b o e),I.base.free b o (I.ok.bs b o e).1 (I.ok.bs b o e).2 (I.ok.noex b o e)⟩
theorem Inv.bk (I:Inv X ac σ H s):∀ b o,X.base.get? b=aa o->s.heap.get? b=aa o:=λb o e=>(I.bs b o e).1
theorem Inv.mod (I:Inv X ac σ H s):Mod X.K X.mg X.base:=I.ok.mod
theorem Inv.kIn (I:Inv X ac σ H s):X.K.In s.heap:=I.ok.mod.kin.keeps I.bk
theorem Inv.lt (I:Inv X ac σ H s):X.env.locals<s.heap.objs.size:=let ⟨_,hn,_⟩:=I.loc;hn.lt
theorem Inv.sz (I:Inv X ac σ H s):X.s₀.heap.objs.size<=s.heap.objs.size:=kK I.ok.above (EG I.lt)
theorem Inv.nofs (I:Inv X ac σ H s)(h:s.heap.objs.size<=a):a∉X.fs:=λhb=>by
 obtain⟨_,o,ho,_⟩:=I.ok.funs.mem hb;exact absurd (iF (bX ho) (kK I.sz h)) (mE _)
theorem Inv.cne (I:Inv X ac σ H s):∀ x c,X.env.cells.lookup x=aa c->c≠X.env.locals:=λx c e z=>by
 obtain⟨v,o,ho,hd⟩:=I.cell x c e;obtain⟨m,⟨o',es,ep,j2,gn,_⟩,_⟩:=I.loc
 grind
theorem Inv.funs (I:Inv X ac σ H s):s.heap.FunFrames X.base X.outer:=by
 have all:∀ (l:List fE),(∀ b∈k8 l,b∈X.fs)->X.s₀.heap.FunFrames X.base l->s.heap.FunFrames X.base l:=by
  intro l;induction l with
  |nil=>intro _ _;trivial
  |cons env r ih=>
   intro hs hl;obtain⟨hk,⟨L,o,hf,hn,ho,hd⟩,hr⟩:=hl;have hL:L∈X.fs:=hs L (by unfold k8;rw[Cr,hf];exact bT)
   obtain⟨sl,e⟩:=I.base.slot L o ho (I.ok.frf L hL) hL λz=>I.ok.exfs L z hL
   exact⟨hk,⟨L,_,hf,hn,e,hd⟩,ih (λb hb=>hs b (by unfold k8;rw[Cr,hf];exact cL _ hb)) hr⟩
 exact all X.outer (λ_ hb=>hb) I.ok.funs
theorem Inv.stack (I:Inv X ac σ H s):s.heap.FunFrames X.base X.stack:=by
 rcases I.ok.stk with e|⟨e,hf⟩
 .rw[e];exact I.funs
 .rw[e];obtain⟨m,hn,_⟩:=I.loc;refine .cons (by rw[I.ok.kind];decide) hf hn ?_ I.funs
  exact Heap.get?_none_of_le (kK I.ok.bsz I.ok.above)
theorem Inv.stkSub (I:Inv X ac σ H s):∀ b∈k8 X.stack,b∈X.env.locals::X.fs:=λb hb=>by
 rcases I.ok.stk with e|⟨e,hf⟩
 .rw[e] at hb;exact cL _ hb
 .rw[e] at hb;unfold k8 at hb;rw[Cr,hf] at hb;exact hb
theorem Inv.stkFree (I:Inv X ac σ H s):∀ b∈k8 X.stack,H b=ab:=λb hb=>by
 rcases dJ.1 (I.stkSub b hb) with e|hb
 .rw[e];exact I.free
 .obtain⟨_,o,ho,_⟩:=I.ok.funs.mem hb;exact I.base.free b o ho (I.ok.frf b hb) λz=>I.ok.exfs b z hb
theorem Inv.step {g':Array GenState}{d':Drawn}(I:Inv X ac σ H s)
  (oh:∀ b∈ch,(b∈X.ex\/X.s₀.heap.objs.size<=b)/\b≠X.env.locals/\(∀ x c,X.env.cells.lookup x=aa c->c≠b)/\∀ p∈X.pn++ac,p.1≠b)
  (keep:∀ b o,b≠X.env.locals->b∉X.fs->b∉ch->s.heap.get? b=aa o->H b=ab->h'.get? b=aa o)
  (slot:∀ b o,b≠X.env.locals->b∈X.fs->b∉ch->s.heap.get? b=aa o->H b=ab->∃ sl,h'.get? b=aa { o with slots:=sl }) (free:∀ b o,b∉ch->s.heap.get? b=aa o->H b=ab->H' b=ab)
  (there:∀ b o,b∉ch->s.heap.get? b=aa o->∃ o',h'.get? b=aa o')
  (tups:∀ b xs,H b=aa (.tup xs)->H' b=aa (.tup xs)) (frzs:∀ b o u,H b=aa (.frz o u)->H' b=aa (.frz o u)) (tbls:∀ b ps,H b=aa (.tbl ps)->∃ more,H' b=aa (.tbl (ps++more)))
  (ns:∀ m,s.heap.Ns X.env.locals m->h'.Ns X.env.locals m) (hok:HOk X.prog X.w H' h') (hg:rS g') :
  Inv X ac σ H' { s with heap:=h',gens:=g',drawn:=d',toks:=t' }:=by
 have z8:∀ b o,X.s₀.heap.get? b=aa o->b≠X.env.locals:=λb o e=>fH (iF (bX e) I.ok.above)
 have vp:∀ b o,X.s₀.heap.get? b=aa o->b∉X.ex->b∉ch:=λb o e hx hb=>by
  rcases(oh b hb).1 with z|z
  .exact hx z
  .exact absurd (iF (bX e) z) (mE _)
 have o5:∀ x c,X.env.cells.lookup x=aa c->∀ v,s.heap.IsCell c v->h'.IsCell c v:=λx c e v gh=>by
  obtain⟨o,ho,hd⟩:=gh;have z9:c∉ch:=λz=>(oh c z).2.2.1 x c e rfl
  by_cases hc:c∈X.fs
  .obtain⟨sl,q⟩:=slot c o (I.cne x c e) hc z9 ho (I.Ade x c e);exact⟨_,q,hd⟩
  .exact⟨o,keep c o (I.cne x c e) hc z9 ho (I.Ade x c e),hd⟩
 refine⟨I.ok,I.os,hg,⟨λb o e n hb hx=>?_,λb o e n hb hx=>?_,λb o e n hx=>?_,λb o e hx=>?_,λb xs e=>tups b xs (I.base.tups b xs e),λb o xs e=>frzs b o xs (I.base.frzs b o xs e),λb ps e=>?_⟩,?_,λx c e=>?_,?_,λx c e=>?_,λp hp=>?_,hok,I.len⟩
 .exact keep b o (z8 b o e) hb (vp b o e hx) (I.base.keep b o e n hb hx) (I.base.free b o e n hx)
 .obtain⟨sl,e1⟩:=I.base.slot b o e n hb hx;obtain⟨G3,e2⟩:=slot b _ (z8 b o e) hb (vp b o e hx) e1 (I.base.free b o e n hx);exact⟨G3,e2⟩
 .obtain⟨o',e1⟩:=I.base.there b o e hx;exact free b o' (vp b o e hx) e1 (I.base.free b o e n hx)
 .obtain⟨o',e1⟩:=I.base.there b o e hx;exact there b o' (vp b o e hx) e1
 .obtain⟨m1,e1⟩:=I.base.tbls b ps e
  grind
 .obtain⟨m,hn,hl⟩:=I.loc;refine⟨m,ns m hn,λi x v e1 e2 e3=>?_⟩
  obtain⟨u,r,l⟩:=hl i x v e1 e2 e3;refine⟨u,r,?_⟩;rcases l with l|⟨k,c,e,z⟩
  .exact .inl l
  .exact .inr ⟨k,c,e,o5 x c e _ z⟩
 .obtain⟨v,z⟩:=I.cell x c e;exact⟨v,o5 x c e v z⟩
 .obtain⟨m,⟨o,_,_,ho,_⟩,_⟩:=I.loc;exact free _ o (λz=>(oh _ z).2.1 rfl) ho I.free
 .obtain⟨v,o,ho,hd⟩:=I.cell x c e;exact free c o (λz=>(oh c z).2.2.1 x c e rfl) ho (I.Ade x c e)
 .obtain⟨e,n,ne,nf,d⟩:=I.pin p hp
  grind
theorem Inv.un(I:Inv X ac σ H s)(u:Un X.fs [] H H' s.heap h')(hok:HOk X.prog X.w H' h'):Inv X ac σ H' { s with heap:=h',toks:=t' }:=by
 obtain⟨m,⟨o,es,ep,ho,r⟩,_⟩:=id I.loc;obtain⟨sl,hL⟩:=u.any ho I.free (by simp)
 exact I.step (g':=s.gens) (d':=s.drawn) (ch:=[]) (λ_ z=>nomatch z) (λb o _ hb _ e n=>u.keep b o e n hb (by simp)) (λb o _ hb _ e n=>u.slot b o e n hb (by simp)) (λb o _ e n=>u.free b o e n (by simp)) (λb o _ e=>u.there b o e (by simp)) u.tups u.frzs u.tbls (λm' hm=>by
  obtain⟨o',k5,ni,j2,r'⟩:=hm;rw[ho] at j2;cases j2;exact⟨_,k5,ni,hL,r'⟩) hok I.bare
theorem Inv.call {g':Array GenState}{d':Drawn}(I:Inv X ac σ H s)(u:Un (k8 X.stack) ch H H' s.heap h')(hok:HOk X.prog X.w H' h')(hg:rS g')
  (oh:∀ b∈ch,(b∈X.ex\/X.s₀.heap.objs.size<=b)/\b≠X.env.locals/\(∀ x c,X.env.cells.lookup x=aa c->c≠b)/\∀ p∈X.pn++ac,p.1≠b) :
  Inv X ac σ H' { s with heap:=h',gens:=g',drawn:=d',toks:=t' }:=by
 obtain⟨m,⟨o,es,ep,ho,r⟩,_⟩:=id I.loc;obtain⟨sl,hL⟩:=u.any ho I.free λz=>(oh _ z).2.1 rfl
 exact I.step (ch:=ch) oh (λb o hL hb hc e n=>u.keep b o e n (λz=>(dJ.1 (I.stkSub b z)).elim hL hb) hc) (λb o _ _ hc e n=>u.any e n hc) (λb o hc e n=>u.free b o e n hc) (λb o hc e=>u.there b o e hc) u.tups u.frzs u.tbls (λm' hm=>by
  obtain⟨o',k5,ni,j2,r'⟩:=hm;rw[ho] at j2;cases j2;exact⟨_,k5,ni,hL,r'⟩) hok hg
theorem Inv.turned{it:aC}(I:Inv X ac σ H s)(k:∀ b o,b≠it->s.heap.get? b=aa o->h'.get? b=aa o)(hn:H it=ab)(hL:it≠X.env.locals)
  (h1:it∈X.ex\/X.s₀.heap.objs.size<=it) (h2:∀ x c,X.env.cells.lookup x=aa c->c≠it) (h3:∀ p∈X.pn++ac,p.1≠it):Inv X ac σ H { s with heap:=h',toks:=t' }:=by
 have nit:∀ b u,H b=aa u->b≠it:=λb u e z=>by rw[z,hn] at e;cases e
 refine I.step (g':=s.gens) (d':=s.drawn) (ch:=[it]) (λb hb=>?_) (λb o _ _ hc e _=>k b o (λz=>hc (by simp[z])) e) (λb o _ _ hc e _=>⟨o.slots,k b o (λz=>hc (by simp[z])) e⟩) (λ_ _ _ _ n=>n)
  (λb o hc e=>⟨o,k b o (λz=>hc (by simp[z])) e⟩) (λ_ _ e=>e) (λ_ _ _ e=>e) (λb ps e=>⟨#[],by rw[e];simp⟩) (λm hm=>?_) (λb u e=>?_) I.bare
 .grind
 .obtain⟨o,es,ep,ho,r⟩:=hm;exact⟨o,es,ep,k _ o (kY hL) ho,r⟩
 .refine(I.hok b u e).stay (λc v hc q=>k c v ?_ q) (λ_ q=>q) λ_ _ q=>q
  grind
theorem Inv.tok (I:Inv X ac σ H s)(t:Nat):Inv X ac σ H { s with toks:=t }:=I.un (h':=s.heap) (t':=t) Un.refl I.hok
theorem Inv.kept(I:Inv X ac σ H s)(k:∀ b u,s.heap.get? b=aa u->h'.get? b=aa u):Inv X ac σ H { s with heap:=h',toks:=t' }:=I.un (Un.kept k) (I.hok.kept k)
theorem Inv.laid{o:HO}(I:Inv X ac σ H s)(k:∀ b u,s.heap.get? b=aa u->h'.get? b=aa u)(hp:s.heap.objs.size<=a)(new:Ac5 X.prog X.w (upd H a o) h' a o) :
  Inv X ac σ (upd H a o) { s with heap:=h',toks:=t' }:=I.un (Un.laid k hp (I.hok.fresh hp)) (I.hok.laid k hp new)
theorem Inv.write {x e:aC}{o:HO}(I:Inv X ac σ H s)(mu:wL (H x))(he:e=x\/H e=aa (.own x))(k:∀ b u,b≠e->s.heap.get? b=aa u->h'.get? b=aa u)(sx:∃ u,h'.get? e=aa u)
  (new:Ac5 X.prog X.w (upd H x o) h' x o):Inv X ac σ (upd H x o) { s with heap:=h',toks:=t' }:=I.un (Un.write mu he k sx) (I.hok.write mu he k sx new)
theorem Inv.pins_of {o6:dl}(I:Inv X ac σ H s)(h:∀ p∈o6,s.heap.get? p.1=aa p.2/\H p.1=ab/\p.1≠X.env.locals/\p.1∉X.fs/\∀ v,p.2.data ≠ .cell v):Inv X o6 σ H s:=
 ⟨I.ok,I.os,I.bare,I.base,I.loc,I.cell,I.free,I.Ade,λp hp=>(fP.1 hp).elim (λz=>I.pin p (List.mem_append_left _ z)) (h p),I.hok,I.len⟩
theorem QD {N:aan}(hN:N.Nodup){j:Nat}(a:N[i]?=aa x)(b:N[j]?=aa x):i=j:=by
 obtain⟨h1,e1⟩:=eW.1 a;obtain⟨h2,e2⟩:=eW.1 b;exact(List.getElem_inj hN).1 (e1.trans e2.symm)
theorem US{v:V}{Q:Unit->aK->Prop}(I:Inv X ac σ H s)(hN:X.N.Nodup)(hi:X.N[i]?=aa x)(hx:jN X.env.scope x)(r:RelV v u)
  (h:∀ s',Inv X ac (σ.set i (aa v)) H s'->(∃ a,wJ a s.heap s'.heap/\(a=X.env.locals\/X.env.cells.lookup x=aa a))->Q Unit.unit s') (hf:Fn X x:=by exact jO):aP M A (storeName X.env x u) Q E s:=by
 obtain⟨m,hn,hl⟩:=id I.loc;have wE:(X.env.scope.kind==.class||(X.env.scope.kind==.module&&X.env.locals != X.env.globals))=ag:=by rw[I.ok.kind];rfl
 have sy:i<σ.length:=by rw[I.len];exact(eW.1 hi).1
 have cne:=I.cne;have ka:∀ {a:aC} {h':aY},(∃ o,s.heap.get? a=aa o/\H a=ab)->wJ a s.heap h'->HOk X.prog X.w H h':=λ{a h'} ha hs b ob e=>by
  obtain⟨_,_,o7⟩:=ha;refine(I.hok b ob e).stay (λc w' hc q=>(hs.2 c ?_).trans q) (λ_ q=>q) λ_ _ q=>q
  rintro rfl;rcases hc with rfl|hc
  .rw[o7] at e;cases e
  .rw[o7] at hc;cases hc
 rcases hx with hk|hk
 .refine wpAny_storeName_local hk hn (λh' sB hs=>?_) wE
  obtain⟨oL,_,_,no,_⟩:=id hn;refine h _ ⟨I.ok,I.os,I.bare,⟨λb o e n hb hx=>?_,λb o e n hb hx=>?_,I.base.free,λb o e hx=>?_,I.base.tups,I.base.frzs,I.base.tbls⟩,⟨_,sB,λj y v' e1 e2 e3=>?_⟩,λy c e=>?_,I.free,I.Ade,λp hp=>?_,ka ⟨oL,no,I.free⟩ hs,by simpa using I.len⟩ ⟨_,hs,.inl rfl⟩
  .exact(hs.2 b (fH (iF (bX e) I.ok.above))).trans (I.base.keep b o e n hb hx)
  .obtain⟨sl,e1⟩:=I.base.slot b o e n hb hx;exact⟨sl,(hs.2 b (fH (iF (bX e) I.ok.above))).trans e1⟩
  .obtain⟨o',e1⟩:=I.base.there b o e hx;exact⟨o',(hs.2 b (fH (iF (bX e) I.ok.above))).trans e1⟩
  .by_cases hj:j=i
   .subst hj;rw[hi] at e1;cases e1;rw[oE sy] at e2;cases e2;exact⟨u,r,.inl ⟨hk,by simp⟩⟩
   .rw[mI (kY hj)] at e2;obtain⟨u',r',q⟩:=hl j y v' e1 e2 e3;refine⟨u',r',?_⟩;rcases q with⟨k,e⟩|⟨k,c,e,z⟩
    .refine .inl ⟨k,?_⟩;have:y≠x:=λe=>hj (QD hN e1 (e ▸ hi))
     simp[this,e]
    .exact .inr ⟨k,c,e,z.sameBut hs (cne y c e)⟩
  .obtain⟨w',z⟩:=I.cell y c e;exact⟨w',z.sameBut hs (cne y c e)⟩
  .obtain⟨e,n,ne,nf,d⟩:=I.pin p hp;exact⟨(hs.2 p.1 ne).trans e,n,ne,nf,d⟩
 .have wP:X.fn x=af:=by
   rcases hf with z|z
   .exact z
   .rw[z] at hk;cases hk
  obtain⟨c,hc⟩:=I.ok.has x (.inl hk);obtain⟨w',z⟩:=I.cell x c hc;refine wpAny_storeName_cell I.ok.kind hk hc z (λh' g8 hs=>?_)
  obtain⟨oc,AT,wT⟩:=id z;refine h { s with heap:=h' } ⟨I.ok,I.os,I.bare,⟨λb o e n hb hx=>?_,λb o e n hb hx=>?_,I.base.free,λb o e hx=>?_,I.base.tups,I.base.frzs,I.base.tbls⟩,⟨m,hn.sameBut hs (kY (cne x c hc)),λj y v' e1 e2 e3=>?_⟩,λy c' e=>?_,I.free,I.Ade,λp hp=>?_,ka ⟨oc,AT,I.Ade x c hc⟩ hs,by simpa using I.len⟩ ⟨c,hs,.inr hc⟩
  .exact(hs.2 b (fH (iF (bX e) (I.ok.cab x c wP hc)))).trans (I.base.keep b o e n hb hx)
  .obtain⟨sl,e1⟩:=I.base.slot b o e n hb hx;exact⟨sl,(hs.2 b (fH (iF (bX e) (I.ok.cab x c wP hc)))).trans e1⟩
  .obtain⟨o',e1⟩:=I.base.there b o e hx;exact⟨o',(hs.2 b (fH (iF (bX e) (I.ok.cab x c wP hc)))).trans e1⟩
  .by_cases hj:j=i
   .subst hj;rw[hi] at e1;cases e1;rw[oE sy] at e2;cases e2;exact⟨u,r,.inr ⟨.inl hk,c,hc,g8⟩⟩
   .rw[mI (kY hj)] at e2;obtain⟨u',r',q⟩:=hl j y v' e1 e2 e3;refine⟨u',r',?_⟩;rcases q with q|⟨k,c',e,z'⟩
    .exact .inl q
    .refine .inr ⟨k,c',e,z'.sameBut hs ?_⟩;rintro rfl;exact hj (QD hN e1 (I.ok.inj _ _ _ e hc ▸ hi))
  .by_cases A1:c'=c
   .subst A1;exact⟨_,g8⟩
   .obtain⟨w2,z2⟩:=I.cell y c' e;exact⟨w2,z2.sameBut hs A1⟩
  .obtain⟨e,n,ne,nf,d⟩:=I.pin p hp;refine⟨(hs.2 p.1 ?_).trans e,n,ne,nf,d⟩;intro q;rw[q,AT] at e;have q':oc=p.2:=fM e;exact d w' (by rw[<-q'];exact wT)
theorem QQ{v:V}{Q:Unit->aK->Prop}(I:Inv X ac σ H s)(hN:X.N.Nodup)(hi:X.N[i]?=aa x)(hx:jN X.env.scope x)(r:RelV v u)
  (h:∀ s',Inv X ac (σ.set i (aa v)) H s'->Q Unit.unit s') (hf:Fn X x:=by exact jO):aP M A (storeName X.env x u) Q E s:=
 US I hN hi hx r (λs' I' _=>h s' I') hf
theorem Inv.call'(I:Inv X ac σ H s)(ho:s'.os=s.os)(u:Un (k8 X.stack) ch H H' s.heap s'.heap)(hok:HOk X.prog X.w H' s'.heap)(hg:rS s'.gens)
  (oh:∀ b∈ch,(b∈X.ex\/X.s₀.heap.objs.size<=b)/\b≠X.env.locals/\(∀ x c,X.env.cells.lookup x=aa c->c≠b)/\∀ p∈X.pn++ac,p.1≠b):Inv X ac σ H' s':=by
 obtain⟨h',g',d',t',o'⟩:=s';have e:o'=s.os:=ho;subst e;exact I.call (g':=g') (t':=t') (d':=d') u hok hg oh
end
abbrev XK:=aF->Option aC->Hp->Prop
abbrev St:=List (Option V)
abbrev VK:=V->Hp->Prop
abbrev TE:=St->Hp->VK->Prop
abbrev TT:=St->Hp->(Bool->Hp->Prop)->Prop
abbrev TA:=St->Hp->(aag->Hp->Prop)->Prop
structure Ends where
 nx:St->Hp->Prop
 rt:VK
 bk:St->Hp->Prop:=λ_ _=>False
 ct:St->Hp->Prop:=λ_ _=>False
abbrev TS:=Ends->St->Hp->Prop
def EP (X:Cx)(ac:dl)(σ:St)(Q:VK)(u:aF)(s':aK):Prop:=∃ v H',Inv X ac σ H' s'/\RelV v u/\Q v H'
def TP (X:Cx)(ac:dl)(σ:St)(Q:Bool->Hp->Prop)(b:Bool)(s':aK):Prop:=∃ H',Inv X ac σ H' s'/\Q b H'
def AP (X:Cx)(ac:dl)(σ:St)(Q:aag->Hp->Prop)(us:aal)(s':aK):Prop:=∃ vs H',Inv X ac σ H' s'/\Vals vs us/\Q vs H'
def SP (X:Cx)(ac:dl)(D:Ends)(f:Flow)(s':aK):Prop:=
 match f with
 |.next=>∃ σ' H',Inv X ac σ' H' s'/\D.nx σ' H'
 |.brk=>∃ σ' H',Inv X ac σ' H' s'/\D.bk σ' H'
 |.cont=>∃ σ' H',Inv X ac σ' H' s'/\D.ct σ' H'
 |.ret u=>∃ v σ' H',Inv X ac σ' H' s'/\RelV v u/\D.rt v H'
def PE (X:Cx)(e:aS)(t:TE):Prop:=
 ∀ (ac:dl) (s:aK) (σ:St) (H:Hp) (Q:VK),Inv X ac σ H s->t σ H Q->aP (aW X.prog X.w) X.A (cA e X.env) (EP X ac σ Q) X.xe s
def PT (X:Cx)(e:aS)(t:TT):Prop:=
 ∀ (ac:dl) (s:aK) (σ:St) (H:Hp) (Q:Bool->Hp->Prop),Inv X ac σ H s->t σ H Q->aP (aW X.prog X.w) X.A (isTrue e X.env (cA e X.env)) (TP X ac σ Q) X.xe s
def PW (X:Cx)(e:aS)(t:TT):Prop:=
 ∀ (gc:Sem aF) (ac:dl) (s:aK) (σ:St) (H:Hp) (Q:Bool->Hp->Prop),Inv X ac σ H s->t σ H Q->aP (aW X.prog X.w) X.A (isTrue e X.env gc) (TP X ac σ Q) X.xe s
theorem PW.pt {X:Cx}{t:TT}(h:PW X e t):PT X e t:=h _
def PA (X:Cx)(es:List aS)(t:TA):Prop:=
 ∀ (pos:bH) (ac:dl) (s:aK) (σ:St) (H:Hp) (Q:aag->Hp->Prop),Inv X ac σ H s->t σ H Q->aP (aW X.prog X.w) X.A (spliced (iT pos (bM es X.env))) (AP X ac σ Q) X.xe s
def PS (X:Cx)(st:fU)(t:TS):Prop:=
 ∀ (ac:dl) (s:aK) (σ:St) (H:Hp) (D:Ends),Inv X ac σ H s->t D σ H->aP (aW X.prog X.w) X.A (exec st X.env) (SP X ac D) X.xe s
def PSs (X:Cx)(st:List fU)(t:TS):Prop:=
 ∀ (ac:dl) (s:aK) (σ:St) (H:Hp) (D:Ends),Inv X ac σ H s->t D σ H->aP (aW X.prog X.w) X.A (execs st X.env) (SP X ac D) X.xe s
theorem bb {α:Type}{t:Sem α}{Q Q':α->aK->Prop}(h:aP M A t Q E s)(hQ:∀ a s,Q a s->Q' a s):aP M A t Q' E s:=lP h hQ λ_ _ x=>x
section
variable {X:Cx}
abbrev tO (i:Nat):TE:=λσ H Q=>∃ v,σ[i]?=aa (aa v)/\Q v H
abbrev tC (v:V):TE:=λ_ H Q=>Q v H
theorem ZP(hN:X.N[i]?=aa x)(hv:wK X.env.scope x)(hd:(x==("__debug__" : aD))=ag:=by decide)(lr:(x==("__classdict__" : aD))=ag:=by decide):PE X (.Name x pos) (tO i):=by
 rw[5];obtain⟨v,e,h⟩:=h;obtain⟨m,hn,hl⟩:=I.loc;obtain⟨u,r,l⟩:=hl i x v hN e hv;have fin:EP X ac σ Q u s:=⟨v,H,I,r,h⟩;rcases l with⟨hk,hm⟩|⟨hk,c,hc,ke⟩
 .exact wpAny_Name (wpAny_loadName_local I.ok.kind hk hn hm fin) hd
 .rcases hk with hk|hk
  .exact wpAny_Name (wpAny_loadName_cell I.ok.kind hk hc ke fin) hd
  .exact wpAny_Name (wpAny_loadName_free I.ok.kind hk hc ke fin lr) hd
structure Nm (X:Cx)(i:Nat)(x:aD):Prop where
 a:X.N[i]?=aa x
 v:wK X.env.scope x
 d:(x==("__debug__" : aD))=ag
 c:(x==("__classdict__" : aD))=ag
theorem kN(hN:X.N[i]?=aa x:=by rfl)(hv:wK X.env.scope x:=by first|exact eT rfl|exact fQ (eT rfl)|exact fQ (fQ rfl))(hd:(x==("__debug__" : aD))=ag:=by decide)(lr:(x==("__classdict__" : aD))=ag:=by decide):Nm X i x:=⟨hN,hv,hd,lr⟩
theorem Nm.pe(h:Nm X i x):PE X (.Name x pos) (tO i):=ZP h.a h.v h.d h.c
theorem ZT {i j pos}:PE X (.Constant (.int i) j pos) (tC (.int i)):=λ_ _ _ H _ I h=>wpAny_Constant_int ⟨.int i,H,I.tok _,⟨_,rfl⟩,h⟩
theorem NK {b j pos}:PE X (.Constant (.bool b) j pos) (tC (.bl b)):=λ_ _ _ H _ I h=>Constant_bool ⟨.bl b,H,I,rfl,h⟩
theorem ZL {j pos}:PE X (.Constant .none j pos) (tC .non):=λ_ _ _ H _ I h=>Constant_none ⟨.non,H,I,rfl,h⟩
theorem Jw {x j pos}:PE X (.Constant (.str x) j pos) (tC (.str x)):=λ_ _ _ H _ I h=>Calls.Constant_str ⟨.str x,H,I.tok _,⟨_,rfl⟩,h⟩
def Gl (X:Cx)(x:aD):Prop:=X.env.kindOf x=aa .globalImplicit
theorem Am{σ:St}{H:Hp}(I:Inv X ac σ H s)(hg:Gl X x)(hm:X.mg x=aa u)(h:Q u s)
  (hd:(x==("__debug__" : aD))=ag:=by decide):aP (aW X.prog X.w) X.A (cA (.Name x pos) X.env) Q E s:=
 Calls.Name_function_global I.ok.kind hg (Calls.loadGlobal_global (by rw[I.ok.glob];exact I.mod.glob.keeps I.bk) hm h) hd
theorem pE{σ:St}{H:Hp}(I:Inv X ac σ H s)(hg:Gl X x)(hm:X.mg x=ab)(hv:nA x=aa u)(h:Q u s)
  (hn:x ≠ "__name__":=by decide) (hd:(x==("__debug__" : aD))=ag:=by decide):aP (aW X.prog X.w) X.A (cA (.Name x pos) X.env) Q E s:=by
 obtain⟨mb,h1,h2⟩:=I.mod.blt;exact Calls.Name_function_global I.ok.kind hg (Calls.loadGlobal_builtin (by rw[I.ok.glob];exact I.mod.glob.keeps I.bk) hm (by rw[I.ok.blt];exact h1.keeps I.bk) ((h2 x hn).trans hv) h) hd
theorem GR{v:V}(hg:Gl X x)(hm:X.mg x=aa u)(r:RelV v u)(hd:(x==("__debug__" : aD))=ag:=by decide):PE X (.Name x pos) (tC v):=
 λ_ _ _ H _ I h=>Am I hg hm ⟨v,H,I,r,h⟩ hd
theorem Lx{v:V}(hg:Gl X x)(hm:X.mg x=ab)(hv:nA x=aa u)(r:RelV v u)(hn:x ≠ "__name__":=by decide)(hd:(x==("__debug__" : aD))=ag:=by decide):PE X (.Name x pos) (tC v):=
 λ_ _ _ H _ I h=>pE I hg hm hv ⟨v,H,I,r,h⟩ hn hd
variable {a b:aS}{ta tb:TE}
def tB (t:TE):TT:=λσ H Q=>t σ H λx H1=>∃ c,x=.bl c/\Q c H1
theorem Jp{t:TE}(h:PE X e t)(he:∀ gc,isTrue e X.env gc=(do let v <-gc;standAt e.pos;holding [v] (truthy v)):=by intro _;rfl):PT X e (tB t):=by
 intro ac s σ H Q I hw;refine isTrue_plain (bb (h ac s σ H _ I hw) λv s1 ⟨x,H1,I1,r1,q1⟩=>?_) (he _)
 obtain⟨d,rfl,q⟩:=q1;cases r1;exact rJ ⟨H1,I1,q⟩
variable {tA tB':TT}{rest:List aS}
def Dy (t u:TT):TT:=λσ H Q=>t σ H λc H1=>if c=af then u σ H1 Q else Q ag H1
def T8 (t u:TT):TT:=λσ H Q=>t σ H λc H1=>if c=af then Q af H1 else u σ H1 Q
def Ec (t:TT):TT:=λσ H Q=>t σ H λc H1=>Q (!c) H1
theorem Ls (ha:PT X a tA):PW X (.BoolOp .And [a] pos) tA:=by
 intro wh ac s σ H Q I h;refine isTrue_and (bb (ha ac s σ H Q I h) λc s1 e=>?_)
 cases c with
 |true=>exact isTrue_and_nil e
 |false=>exact e
theorem Jr (ha:PT X a tA):PW X (.BoolOp .Or [a] pos) tA:=by
 intro wh ac s σ H Q I h;refine isTrue_or (bb (ha ac s σ H Q I h) λc s1 e=>?_)
 cases c with
 |false=>exact isTrue_or_nil e
 |true=>exact e
theorem Hf (ha:PT X a tA)(hb:PW X (.BoolOp .And (b::rest) pos) tB'):PW X (.BoolOp .And (a::b::rest) pos) (Dy tA tB'):=by
 intro wh ac s σ H Q I h;refine isTrue_and (bb (ha ac s σ H _ I h) λc s1 gh=>?_)
 obtain⟨H1,I1,q1⟩:=gh;cases c with
 |true=>exact hb wh ac s1 σ H1 Q I1 q1
 |false=>exact⟨H1,I1,q1⟩
theorem Fw (ha:PT X a tA)(hb:PW X (.BoolOp .Or (b::rest) pos) tB'):PW X (.BoolOp .Or (a::b::rest) pos) (T8 tA tB'):=by
 intro wh ac s σ H Q I h;refine isTrue_or (bb (ha ac s σ H _ I h) λc s1 gh=>?_)
 obtain⟨H1,I1,q1⟩:=gh;cases c with
 |true=>exact⟨H1,I1,q1⟩
 |false=>exact hb wh ac s1 σ H1 Q I1 q1
theorem Ib (ha:PT X a tA):PT X (.UnaryOp .Not a pos) (Ec tA):=by
 rw[5];exact isTrue_not (ha ac s σ H (λc H1=>Q (!c) H1) I h)
def Eu (ta tb:TE):TE:=λσ H Q=>ta σ H λx H1=>∃ c,x=.bl c/\if c=af then tb σ H1 Q else Q (.bl ag) H1
def Ei (ta tb:TE):TE:=λσ H Q=>ta σ H λx H1=>∃ c,x=.bl c/\if c=af then Q (.bl af) H1 else tb σ H1 Q
def Ft (ta:TE):TE:=λσ H Q=>ta σ H λx H1=>∃ c,x=.bl c/\Q (.bl (!c)) H1
theorem Im {op}{t:TE}(h:PE X a t):PE X (.BoolOp op [a] pos) t:=λac s σ H Q I hw=>BoolOp_one (h ac s σ H Q I hw)
theorem Hw (ha:PE X a ta)(hb:PE X (.BoolOp .And (b::rest) pos) tb):PE X (.BoolOp .And (a::b::rest) pos) (Eu ta tb):=by
 rw[5];refine BoolOp_and (bb (ha ac s σ H _ I h) λv s1 gh=>?_)
 obtain⟨x,H1,I1,r1,q1⟩:=gh;obtain⟨c,rfl,q1⟩:=q1;cases r1;refine rJ ?_;cases c with
 |true=>exact hb ac s1 σ H1 Q I1 q1
 |false=>exact⟨.bl ag,H1,I1,rfl,q1⟩
theorem Fo (ha:PE X a ta)(hb:PE X (.BoolOp .Or (b::rest) pos) tb):PE X (.BoolOp .Or (a::b::rest) pos) (Ei ta tb):=by
 rw[5];refine BoolOp_or (bb (ha ac s σ H _ I h) λv s1 gh=>?_)
 obtain⟨x,H1,I1,r1,q1⟩:=gh;obtain⟨c,rfl,q1⟩:=q1;cases r1;refine rJ ?_;cases c with
 |false=>exact hb ac s1 σ H1 Q I1 q1
 |true=>exact⟨.bl af,H1,I1,rfl,q1⟩
theorem Jc (ha:PE X a ta):PE X (.UnaryOp .Not a pos) (Ft ta):=by
 rw[5];refine UnaryOp_ (bb (ha ac s σ H _ I h) λv s1 gh=>?_)
 obtain⟨x,H1,I1,r1,q1⟩:=gh;obtain⟨c,rfl,q1⟩:=q1;cases r1;exact not_of (rJ ⟨.bl (!c),H1,I1,rfl,q1⟩)
def T6 (t:TT)(ta tb:TE):TE:=λσ H Q=>t σ H λc H1=>if c=af then ta σ H1 Q else tb σ H1 Q
theorem Vc(hc:PT X c tA)(ha:PE X a ta)(hb:PE X b tb):PE X (.IfExp c a b pos) (T6 tA ta tb):=by
 rw[5];refine wpAny_IfExp (bb (hc ac s σ H _ I h) λd s1 gh=>?_)
 obtain⟨H1,I1,q1⟩:=gh;cases d with
 |true=>exact ha ac s1 σ H1 Q I1 q1
 |false=>exact hb ac s1 σ H1 Q I1 q1
end
def SqL (K:aM)(H:Hp)(a:aC)(xs:aag):Prop:=
 Rd H a (.lst xs) \/
  ∃ (o:bJ) (its:Array aF) (n:Nat),K.lookup a=aa o/\o.cls=.type "list" /\ o.dict=ab/\o.data=.seq its n/\its.size<=sizeLine/\Vals xs its.toList
def SqT (K:aM)(H:Hp)(a:aC)(xs:aag):Prop:=
 Rd H a (.tup xs) \/
  ∃ (o:bJ) (its:Array aF) (n:Nat),K.lookup a=aa o/\o.cls=.type "tuple" /\ o.data=.seq its n/\its.size<=sizeLine/\Vals xs its.toList
noncomputable def Dx:aF->Option V
 |.none=>aa .non
 |.bool b=>aa (.bl b)
 |.int i _=>aa (.int i)
 |.str x _=>aa (.str x)
 |.bytes b _=>aa (.byt b)
 |.float b _=>aa (.flt b)
 |.ref a=>aa (.ref a)
 |.type n=>aa (.ty n)
 |_=>ab
theorem RelV.abs {x:V}(r:RelV x u):Dx u=aa x:=by
 cases x with
 |non=>cases r;rfl
 |bl _=>cases r;rfl
 |int _=>obtain⟨t,rfl⟩:=r;rfl
 |str _=>obtain⟨t,rfl⟩:=r;rfl
 |byt _=>obtain⟨t,rfl⟩:=r;rfl
 |flt _=>obtain⟨t,rfl⟩:=r;rfl
 |ref _=>cases r;rfl
 |ty _=>cases r;rfl
theorem RelV.inj {x y:V}(r:RelV x u)(q:RelV y u):x=y:=fM (r.abs.symm.trans q.abs)
theorem Vals.inj:∀ {xs ys:aag} {us:aal},Vals xs us->Vals ys us->xs=ys:=by
 intro xs ys us h;induction h generalizing ys with
 |nil=>intro h;cases h;rfl
 |cons r _ ih=>
  intro h;cases h with
  |cons r' t'=>rw[r.inj r',ih t']
section
variable {X:Cx}{σ:St}{H:Hp}{xs ys:aag}
theorem SqL.of(h:H a=aa (.lst xs)):SqL K H a xs:=.inl (.inl h)
theorem SqT.of(h:H a=aa (.tup xs)):SqT K H a xs:=.inl (.inl h)
theorem Inv.list (I:Inv X ac σ H s)(h:SqL X.K H a xs):∃ its:aal,Vals xs its/\PlainL s.heap a its.toArray/\xs.length<=sizeLine:=by
 rcases h with h|⟨o,its,n,hk,hc,hd,hs,hz,r⟩
 .obtain⟨z,its,n,r,e⟩:=h.ok I.hok;exact⟨its,r,⟨_,n,e,rfl,rfl,rfl⟩,z⟩
 .refine⟨its.toList,r,⟨o,n,I.kIn a o hk,hc,hd,by simpa using hs⟩,?_⟩
  have e:=r.length
  grind
theorem Inv.tuple (I:Inv X ac σ H s)(h:SqT X.K H a xs):∃ its:aal,Vals xs its/\IsTup s.heap a its.toArray/\xs.length<=sizeLine:=by
 rcases h with h|⟨o,its,n,hk,hc,hs,hz,r⟩
 .obtain⟨z,its,r,p⟩:=h.ok I.hok;exact⟨its,r,p.1,z⟩
 .refine⟨its.toList,r,⟨o,I.kIn a o hk,hc,n,by simpa using hs⟩,?_⟩
  have e:=r.length
  grind
theorem Inv.list_inj (I:Inv X ac σ H s)(h:SqL X.K H a xs)(h':SqL X.K H a ys):xs=ys:=by
 obtain⟨its,r,⟨o,n,e,_,_,d⟩,_⟩:=I.list h;obtain⟨its',r',⟨o',n',e',_,_,d'⟩,_⟩:=I.list h';rw[e] at e';cases e';rw[d] at d';injection d' with d1 _;have:its=its':=by simpa using congrArg Array.toList d1
 subst this;exact r.inj r'
theorem Inv.tuple_inj (I:Inv X ac σ H s)(h:SqT X.K H a xs)(h':SqT X.K H a ys):xs=ys:=by
 obtain⟨its,r,⟨o,e,_,n,d⟩,_⟩:=I.tuple h;obtain⟨its',r',⟨o',e',_,n',d'⟩,_⟩:=I.tuple h';rw[e] at e';cases e';rw[d] at d';injection d' with d1 _;have:its=its':=by simpa using congrArg Array.toList d1
 subst this;exact r.inj r'
end
abbrev Cx.wish (X:Cx)(E:aF->aK->Prop):Cx:={ X with xe:=E }
abbrev Cx.nox (X:Cx):Cx:=X.wish λ_ _=>False
theorem Cx.Ok.wish {X:Cx}(ok:X.Ok)(E:aF->aK->Prop):(X.wish E).Ok:=
 ⟨ok.mod,ok.kind,ok.glob,ok.blt,ok.above,ok.inj,ok.has,ok.cab,ok.hd,ok.frames,ok.stk,ok.exf,ok.bs,ok.bsz,ok.noex,ok.exfs,ok.funs,ok.frf⟩
theorem Cx.Ok.unwish {X:Cx}(ok:(X.wish E).Ok):X.Ok:=
 ⟨ok.mod,ok.kind,ok.glob,ok.blt,ok.above,ok.inj,ok.has,ok.cab,ok.hd,ok.frames,ok.stk,ok.exf,ok.bs,ok.bsz,ok.noex,ok.exfs,ok.funs,ok.frf⟩
section
variable {X:Cx}{σ:St}{H:Hp}
theorem Inv.wish (I:Inv X ac σ H s)(E:aF->aK->Prop):Inv (X.wish E) ac σ H s:=⟨I.ok.wish E,I.os,I.bare,I.base,I.loc,I.cell,I.free,I.Ade,I.pin,I.hok,I.len⟩
theorem Inv.unwish (I:Inv (X.wish E) ac σ H s):Inv X ac σ H s:=⟨I.ok.unwish,I.os,I.bare,I.base,I.loc,I.cell,I.free,I.Ade,I.pin,I.hok,I.len⟩
theorem SP.unwish {D:Ends}{f:Flow}(h:SP (X.wish E) ac D f s'):SP X ac D f s':=by
 cases f with
 |next=>obtain⟨σ',H',I,q⟩:=h;exact⟨σ',H',I.unwish,q⟩
 |brk=>obtain⟨σ',H',I,q⟩:=h;exact⟨σ',H',I.unwish,q⟩
 |cont=>obtain⟨σ',H',I,q⟩:=h;exact⟨σ',H',I.unwish,q⟩
 |ret u=>obtain⟨v,σ',H',I,r,q⟩:=h;exact⟨v,σ',H',I.unwish,r,q⟩
theorem PSs.nox {st:List fU}{t:TS}(h:PSs X.nox st t):PSs X st t:=λac s σ H D I hw=>
 lP (h ac s σ H D (I.wish _) hw) (λ_ _ q=>q.unwish) λ_ _ z=>pY z
end
section
variable {X:Cx}{st:fU}{rest:List fU}{t u:TS}{te:TE}
def wW:TS:=λD σ H=>D.nx σ H
def AM (t u:TS):TS:=λD σ H=>t { D with nx:=u D } σ H
theorem GV:PSs X [] wW:=λ_ _ σ H _ I h=>LD ⟨σ,H,I,h⟩
theorem yF (h1:PS X st t)(h2:PSs X rest u):PSs X (st::rest) (AM t u):=by
 intro ac s σ H D I h;refine wpAny_execs_cons (bb (h1 ac s σ H { D with nx:=u D } I h) λf s1 q=>?_)
 cases f with
 |next=>
  obtain⟨σ',H',I',q⟩:=q;exact h2 ac s1 σ' H' D I' q
 |ret v=>exact q
 |brk=>exact q
 |cont=>exact q
theorem BR (h1:PS X st t):PSs X [st] t:=by
 intro ac s σ H D I h;refine wpAny_execs_cons (bb (h1 ac s σ H D I h) λf s1 q=>?_)
 cases f with
 |next=>exact LD q
 |ret v=>exact q
 |brk=>exact q
 |cont=>exact q
theorem Inv.quiet{σ:St}{H:Hp}(I:Inv X ac σ H s):interactive X.env=ag:=by simp[interactive,I.ok.kind]
def FS (te:TE):TS:=λD σ H=>te σ H λ_ H1=>D.nx σ H1
theorem qR (he:PE X e te)(hs:kI e ab pos.line X.env=pure ag:=by rfl):PS X (.Expr e pos) (FS te):=by
 intro ac s σ H D I h;exact wpAny_Expr_any (bb (he ac s σ H _ I h) λv s1 ⟨x,H1,I1,r1,q1⟩=>⟨σ,H1,I1,q1⟩) I.quiet hs
def Du (te:TE):TS:=λD σ H=>te σ H D.rt
theorem uQ (he:PE X e te):PS X (.Return (aa e) pos) (Du te):=by
 intro ac s σ H D I h;exact wpAny_Return_some (bb (he ac s σ H _ I h) λv s1 ⟨x,H1,I1,r1,q1⟩=>⟨x,σ,H1,I1,r1,q1⟩)
def FJ (c:TT)(t u:TS):TS:=λD σ H=>c σ H λb H1=>if b=af then t D σ H1 else u D σ H1
theorem OB{a b:List fU}{tc:TT}(hc:PT X c tc)(ha:PSs X a t)(hb:PSs X b u):PS X (.If c a b pos) (FJ tc t u):=by
 intro ac s σ H D I h;refine wpAny_If (bb (hc ac s σ H _ I h) λd s1 gh=>?_)
 obtain⟨H1,I1,q1⟩:=gh;cases d with
 |true=>exact ha ac s1 σ H1 D I1 q1
 |false=>exact hb ac s1 σ H1 D I1 q1
end
abbrev TG:=V->St->Hp->(St->Hp->Prop)->Prop
abbrev rh:=aag->St->Hp->(St->Hp->Prop)->Prop
def PG (X:Cx)(ic:aS)(t:TG):Prop:=
 ∀ (ac:dl) (s:aK) (σ:St) (H:Hp) (v:V) (u:aF) (Q:St->Hp->Prop),Inv X ac σ H s->RelV v u->t v σ H Q ->
  aP (aW X.prog X.w) X.A (nB ic X.env u) (λ_ s'=>∃ σ' H',Inv X ac σ' H' s'/\Q σ' H') X.xe s
def wm (X:Cx)(ts:List aS)(t:rh):Prop:=
 ∀ (ac:dl) (s:aK) (σ:St) (H:Hp) (vs:aag) (us:aal) (Q:St->Hp->Prop),Inv X ac σ H s->Vals vs us->t vs σ H Q ->
  aP (aW X.prog X.w) X.A (assignInOrder ((gH ts X.env).map (·.2)) us) (λ_ s'=>∃ σ' H',Inv X ac σ' H' s'/\Q σ' H') X.xe s
section
variable {X:Cx}
def wV (i:Nat):TG:=λv σ H Q=>Q (σ.set i (aa v)) H
theorem oI(hN:X.N.Nodup)(hi:X.N[i]?=aa x)(hx:jN X.env.scope x)(hf:Fn X x:=by exact jO):PG X (.Name x pos) (wV i):=by
 intro ac s σ H v u Q I r h;exact wpAny_assign_Name (QQ I hN hi hx r (λs' I'=>⟨_,H,I',h⟩) hf)
def Dw:rh:=λvs σ H Q=>vs=[]/\Q σ H
def Fl (t:TG)(u:rh):rh:=λvs σ H Q=>∃ v r,vs=v::r/\t v σ H λσ' H'=>u r σ' H' Q
theorem GT:wm X [] Dw:=by
 intro ac s σ H vs us Q I r h;obtain⟨e,h⟩:=h;subst e;cases r;exact assignInOrder_nil ⟨σ,H,I,h⟩
theorem tD{t:TG}{u:rh}(h1:PG X e t)(h2:wm X es u)
  (hs:(gH (e::es) X.env).map (·.2)=nB e X.env::(gH es X.env).map (·.2):=by rfl):wm X (e::es) (Fl t u):=by
 intro ac s σ H vs us Q I r h;obtain⟨v,vr,e1,h⟩:=h;subst e1;cases r with
 |cons r rr=>
  rw[hs];refine assignInOrder_cons (bb (h1 ac s σ H _ _ _ I r h) λ_ s1 gh=>?_)
  obtain⟨σ1,H1,I1,q1⟩:=gh;exact h2 ac s1 σ1 H1 _ _ Q I1 rr q1
def Do (K:aM)(n:Nat)(t:rh):TG:=λv σ H Q=>∃ a xs,v=.ref a/\SqT K H a xs/\xs.length=n/\t xs σ H Q
theorem KS{t:rh}{n:Nat}(hc:X.calm=af)(h:wm X es t)
  (hn:(gH es X.env).length=n:=by rfl) (j3:(gH es X.env).findIdx? (·.1)=ab:=by rfl):PG X (.Tuple es k pos) (Do X.K n t):=by
 intro ac s σ H v u Q I r hw;obtain⟨a,xs,e1,hq,hl,hw⟩:=hw;subst e1;cases r;obtain⟨its,rv,ht,hz⟩:=I.tuple hq;refine assign_Tuple_tuple (I.ok.hd hc) ht (by simp[hn,<-hl,rv.length]) j3 λh' hx=>?_
 have I1:Inv X ac σ H { s with heap:=h' }:=I.kept (t':=s.toks) λb o e=>hx b o (fH (bX e)) e
 exact h ac _ σ H xs _ Q I1 (by simpa using rv) hw
def wR (te:TE)(g:TG):TS:=λD σ H=>te σ H λx H1=>g x σ H1 D.nx
theorem Gy{te:TE}{g:TG}(he:PE X e te)(hg:PG X tg g)(hs:swapsWithSole [tg] e pos.line X.env=pure ag:=by rfl)(hw:swappedStores [tg] e X.env=pure ab:=by rfl)
  (h1:(gH [tg] X.env).map (·.2)=[nB tg X.env]:=by rfl):PS X (.Assign [tg] e pos) (wR te g):=by
 intro ac s σ H D I h;refine wpAny_Assign_stores (bb (he ac s σ H _ I h) λv s1 ⟨x,H1,I1,r1,q1⟩=>?_) hs hw
 rw[h1];exact bb (hg ac s1 σ H1 x v _ I1 r1 q1) λ_ s2 q=>q
theorem KI{te:TE}{jp:bH}(hN:X.N.Nodup)(hi:X.N[i]?=aa x)(hx:jN X.env.scope x)(he:PE X e te)(hs:kI e (aa (.Name x jp)) pos.line X.env=pure ag:=by rfl)(hf:Fn X x:=by exact jO) :
  PS X (.Assign [.Name x jp] e pos) (wR te (wV i)):=by
 intro ac s σ H D I h;refine wpAny_Assign_Name (bb (he ac s σ H _ I h) λv s1 ⟨y,H1,I1,r1,q1⟩=>?_) hs
 exact QQ I1 hN hi hx r1 (λs2 I2=>⟨_,H1,I2,q1⟩) hf
end
section
variable {X:Cx}
def Gq (c:TT)(tb:TS):TS:=λD σ H=>∃ W:Nat->St->Hp->Prop,(∃ m,W m σ H)/\∀ m σ H,W m σ H ->
 c σ H λb H1=>if b=af then ∃ N:St->Hp->Prop,(∀ σ' H',N σ' H'->∃ m',m'<m/\W m' σ' H')/\tb { D with nx:=N,ct:=N,bk:=D.nx } σ H1 else D.nx σ H1
theorem Xw{tc:TT}{tb:TS}(hp:zU (aW X.prog X.w) X.A X.env X.xe)(hc:PT X c tc)(hb:PSs X body tb):PS X (.While c body [] pos) (Gq tc tb):=by
 intro ac s σ H D I h;obtain⟨W,⟨m0,w0⟩,turn⟩:=h;refine wpAny_While (codeAny_whileLoop (λn s'=>∃ σ' H',Inv X ac σ' H' s'/\W n σ' H') ?_ m0 ⟨σ,H,I,w0⟩)
 rintro n s1 ⟨σ1,H1,I1,w1⟩;refine vN hp (bb (hc ac s1 σ1 H1 _ I1 (turn n σ1 H1 w1)) λb s2 gh=>?_)
 obtain⟨H2,I2,q2⟩:=gh;cases b with
 |true=>
  obtain⟨N,hN,q2⟩:=q2;rw[if_pos rfl];refine vN hp (bb (hb ac s2 σ1 H2 _ I2 q2) λf s3 q3=>?_)
  cases f with
  |next=>
   obtain⟨σ3,H3,I3,n3⟩:=q3
   grind
  |cont=>
   obtain⟨σ3,H3,I3,n3⟩:=q3
   grind
  |brk=>exact q3
  |ret v=>exact q3
 |false=>
  rw[if_neg oW];exact LD ⟨σ1,H2,I2,q2⟩
end
structure It where
 go:Nat->Hp->Prop
 yld:Nat->Hp->V->Hp->Prop
 stop:Nat->Hp->Prop
def jV (X:Cx)(ac:dl)(H:Hp)(b:aC):Prop:=
 H b=ab/\b≠X.env.locals/\b∉X.fs/\(b∈X.ex\/X.s₀.heap.objs.size<=b)/\(∀ x c,X.env.cells.lookup x=aa c->c≠b)/\∀ p∈X.pn++ac,p.1≠b
theorem Inv.fpOk {X:Cx}{σ:St}{H H':Hp}(I:Inv X ac σ H s)(hb:s.heap.objs.size<=b)(hn:H' b=ab):jV X ac H' b:=by
 refine⟨hn,lQ (iF I.lt hb),I.nofs hb,.inr (kK I.sz hb),λx c e z=>?_,λp hp z=>?_⟩
 .obtain⟨v,q⟩:=I.cell x c e;exact absurd (iF q.lt (by rw[z];exact hb)) (mE _)
 .exact absurd (iF (bX (I.pin p hp).1) (by rw[z];exact hb)) (mE _)
structure Turn (P:bW)(w:bG)(K:aM)(tg:aS)(J:It)(fp:List aC)(it:aC)(tn:Nat->aY->Prop):Prop where
 mem:it∈fp
 obj:∀ i h,tn i h->∀ b∈fp,∃ o,h.get? b=aa o/\∀ v,o.data ≠ .cell v
 keep:∀ i h h',tn i h->(∀ b∈fp,∀ o,h.get? b=aa o->h'.get? b=aa o)->tn i h'
 item:∀ (X:Cx),X.prog=P->X.w=w->X.K=K->X.calm=af->∀ (i:Nat) (ac:List (aC×bJ)) (s:aK) (σ:St) (H:Hp) (E:aF->aK->Prop),Inv X ac σ H s->(∀ b∈fp,jV X ac H b)->tn i s.heap->J.go i H ->
  aP (aW P w) X.A (jJ (.ref it)) (λr s1=>∃ u,r=aa u /\
   aP (aW P w) X.A (LI tg (.ref it) u) (λ_ s2=>∃ x H',Inv X ac σ H' s2/\RelV x u/\J.yld i H x H'/\tn (i+1) s2.heap/\∀ b∈fp,H' b=ab) E s1) E s
 done:∀ (X:Cx),X.prog=P->X.w=w->X.K=K->X.calm=af->∀ (i:Nat) (ac:List (aC×bJ)) (s:aK) (σ:St) (H:Hp) (E:aF->aK->Prop),Inv X ac σ H s->(∀ b∈fp,jV X ac H b)->tn i s.heap->J.stop i H ->
  aP (aW P w) X.A (jJ (.ref it)) (λr s1=>r=ab/\Inv X ac σ H s1) E s
 self:∀ (A:cP) (i:Nat) (s:aK) (Q:aF->aK->Prop) (E:aF->aK->Prop),tn i s.heap->Q (.ref it) s->aP (aW P w) A (pyIter (.ref it)) Q E s
abbrev TI:=St->Hp->(It->Hp->Prop)->Prop
def zx (X:Cx)(ac:dl)(σ:St)(tg:aS)(R:It->Hp->Prop)(vq:aF)(s2:aK):Prop:=
 ∃ (it:aC) (fp:aaj) (tn:Nat->aY->Prop) (J:It) (H':Hp),vq=.ref it/\Inv X ac σ H' s2/\Turn X.prog X.w X.K tg J fp it tn/\tn 0 s2.heap/\(∀ b∈fp,jV X ac H' b)/\R J H'
def PI (X:Cx)(tg bq:aS)(wi:TI):Prop:=
 ∀ (ac:dl) (s:aK) (σ:St) (H:Hp) (R:It->Hp->Prop),Inv X ac σ H s->wi σ H R ->
  aP (aW X.prog X.w) X.A (cA bq X.env) (λv s1=>aP (aW X.prog X.w) X.A (pyIter v) (zx X ac σ tg R) X.xe s1) X.xe s
theorem CY{it:aC}{n:String}{vs:Array aF}{Q:Unit->aK->Prop}(ho:s.heap.get? it=aa o)(hc:o.cls=.type n)(hd:o.data=.fields vs)
    (hn:["enumerate","zip","dict_itemiterator","dict_reverseitemiterator","odict_iterator","itertools.zip_longest","itertools.pairwise"].contains n=ag) (hQ:Q Unit.unit s):aP M A (LI tg (.ref it) u) Q E s:=by
  unfold LI;cases tg<;>first
    |exact aZ hQ
    | (cases u<;>first
        |exact aZ hQ
        | (refine aI (wpAny_load ho ?_)
           rw[hc,hd];show aP M A (if (["enumerate","zip","dict_itemiterator","dict_reverseitemiterator","odict_iterator","itertools.zip_longest","itertools.pairwise"].contains n&&vs[0]?==aa (jA _))=af then _ else _) Q E s
           rw[if_neg (by intro h;rw[hn,MV] at h;cases h)]
           exact aZ hQ))
def EY (K:aM)(a:aC):It:=
 ⟨λi H=>∃ xs x,SqL K H a xs/\xs[i]?=aa x,λi H x H'=>H'=H/\∀ xs,SqL K H a xs->xs[i]?=aa x,λi H=>∃ xs,SqL K H a xs/\xs.length<=i⟩
def tY (K:aM)(a:aC):It:=
 ⟨λi H=>∃ xs x,SqT K H a xs/\xs[i]?=aa x,λi H x H'=>H'=H/\∀ xs,SqT K H a xs->xs[i]?=aa x,λi H=>∃ xs,SqT K H a xs/\xs.length<=i⟩
def wM (lo:Int)(n:Nat):It:=⟨λi _=>i<n,λi H x H'=>H'=H/\x=.int (lo+i),λi _=>n<=i⟩
theorem Pa {P:bW}{w:bG}(a it:aC):Turn P w K tg (EY K a) [it] it (λi h=>h.IsListIter it a i) where
 mem:=by simp
 obj:=λi h st b hb=>by
  have e:b=it:=by simpa using hb
  subst e;obtain⟨o,e,c,d⟩:=st
  grind
 keep:=λi h h' st k=>st.at λo e=>k it (by simp) o e
 item:=by
  intro X hP hw hK hc i ac s σ H E I hf st hg;subst hP hw hK;obtain⟨xs,x,hq,hx⟩:=hg;obtain⟨its,rv,p,hz⟩:=I.list hq;obtain⟨u,hu,ru⟩:=rv.get hx;obtain⟨f0,f1,f2,f3,f4,f5⟩:=hf it (by simp)
  refine wpAny_pyNext_list_item st p.isList (x:=u) (by simpa using hu) λh' jh sb=>?_
  have I1:Inv X ac σ H { s with heap:=h' }:=I.turned (t':=s.toks) (λb o hb e=>(sb.2 b hb).trans e) f0 f1 f3 f4 f5
  obtain⟨o,e,c,d⟩:=id jh;exact⟨u,rfl,CY (s:={ s with heap:=h' }) e c d nofun ⟨x,H,I1,ru,⟨rfl,λys hy=>by rw[I.list_inj hy hq];exact hx⟩,jh,λb hb=>(hf b hb).1⟩⟩
 done:=by
  intro X hP hw hK hc i ac s σ H E I hf st hg;subst hP hw hK;obtain⟨xs,hq,hx⟩:=hg;obtain⟨its,rv,p,hz⟩:=I.list hq;obtain⟨f0,f1,f2,f3,f4,f5⟩:=hf it (by simp)
  have hl:=rv.length;exact wpAny_pyNext_list_end (I.ok.hd hc) st p.isList (by simp;lia) λh' eb=>⟨rfl,I.turned (t':=s.toks) (λb o hb e=>eb b o hb e) f0 f1 f3 f4 f5⟩
 self:=λ_ _ _ _ _ st h=>wpAny_pyIter_listiter st h
theorem Rn {P:bW}{w:bG}(a it:aC):Turn P w K tg (tY K a) [it] it (λi h=>h.IsTupleIter it a i) where
 mem:=by simp
 obj:=λi h st b hb=>by
  have e:b=it:=by simpa using hb
  subst e;obtain⟨o,e,c,d⟩:=st
  grind
 keep:=λi h h' st k=>st.at λo e=>k it (by simp) o e
 item:=by
  intro X hP hw hK hc i ac s σ H E I hf st hg;subst hP hw hK;obtain⟨xs,x,hq,hx⟩:=hg;obtain⟨its,rv,p,hz⟩:=I.tuple hq;obtain⟨u,hu,ru⟩:=rv.get hx;obtain⟨f0,f1,f2,f3,f4,f5⟩:=hf it (by simp)
  refine wpAny_pyNext_tuple_item st (show s.heap.IsTuple a its.toArray from p) (x:=u) (by simpa using hu) λh' jh sb=>?_
  have I1:Inv X ac σ H { s with heap:=h' }:=I.turned (t':=s.toks) (λb o hb e=>(sb.2 b hb).trans e) f0 f1 f3 f4 f5
  obtain⟨o,e,c,d⟩:=id jh;exact⟨u,rfl,CY (s:={ s with heap:=h' }) e c d nofun ⟨x,H,I1,ru,⟨rfl,λys hy=>by rw[I.tuple_inj hy hq];exact hx⟩,jh,λb hb=>(hf b hb).1⟩⟩
 done:=by
  intro X hP hw hK hc i ac s σ H E I hf st hg;subst hP hw hK;obtain⟨xs,hq,hx⟩:=hg;obtain⟨its,rv,p,hz⟩:=I.tuple hq;obtain⟨f0,f1,f2,f3,f4,f5⟩:=hf it (by simp)
  have hl:=rv.length;exact wpAny_pyNext_tuple_end (I.ok.hd hc) st (show s.heap.IsTuple a its.toArray from p) (by simp;lia) λh' eb=>⟨rfl,I.turned (t':=s.toks) (λb o hb e=>eb b o hb e) f0 f1 f3 f4 f5⟩
 self:=λ_ _ _ _ _ st h=>wpAny_pyIter_tupleiter st h
theorem Qm {P:bW}{w:bG}(it:aC)(lo:Int)(n:Nat):Turn P w K tg (wM lo n) [it] it (λi h=>IsRangeIter h it (lo+(i:Nat)*1) ((n:Int)-(i:Nat)) 1) where
 mem:=by simp
 obj:=λi h st b hb=>by
  grind
 keep:=λi h h' st k=>k it (by simp) _ st
 item:=by
  intro X hP hw hK hc i ac s σ H E I hf st hg;subst hP hw hK;obtain⟨f0,f1,f2,f3,f4,f5⟩:=hf it (by simp)
  have W:=Walks.range (prog:=X.prog) (w:=X.w) (I.ok.hd hc) it lo 1 n;refine W.item i s _ _ hg st λv h' tk hv jh kk=>?_
  obtain⟨t,rfl⟩:=hv;have I1:Inv X ac σ H { s with heap:=h',toks:=tk }:=I.turned (λb o hb e=>kk b o (by simpa using hb) e) f0 f1 f3 f4 f5
  refine⟨_,rfl,CY (s:={ s with heap:=h',toks:=tk }) (n:="range_iterator") jh rfl rfl nofun ⟨.int (lo+i),H,I1,⟨t,?_⟩,⟨rfl,rfl⟩,jh,λb hb=>(hf b hb).1⟩⟩
  rw[Int.mul_one]
 done:=by
  intro X hP hw hK hc i ac s σ H E I hf st hg;subst hP hw hK;obtain⟨f0,f1,f2,f3,f4,f5⟩:=hf it (by simp)
  exact wpAny_pyNext_range_end (I.ok.hd hc) st (by have:n<=i:=hg;lia) λh' eb=>⟨rfl,I.turned (t':=s.toks) (λb o hb e=>eb b o hb e) f0 f1 f3 f4 f5⟩
 self:=λ_ _ _ _ _ st h=>wpAny_pyIter_rangeiter st h
section
variable {X:Cx}
def Gf (K:aM)(tl:TE):TI:=λσ H R=>tl σ H λx H1=>∃ a,x=.ref a/\(∃ xs,SqL K H1 a xs)/\R (EY K a) H1
def Ds (K:aM)(tl:TE):TI:=λσ H R=>tl σ H λx H1=>∃ a,x=.ref a/\(∃ xs,SqT K H1 a xs)/\R (tY K a) H1
theorem My {l:aS}{tl:TE}(hl:PE X l tl):PI X tg l (Gf X.K tl):=by
 intro ac s σ H R I h;refine bb (hl ac s σ H _ I h) λv s1 gh=>?_
 obtain⟨x,H1,I1,r1,q1⟩:=gh;obtain⟨a,e,⟨xs,hq⟩,q⟩:=q1;subst e;cases r1;obtain⟨its,rv,p,hz⟩:=I1.list hq;refine DV p.isList ?_;refine⟨s1.heap.objs.size,[s1.heap.objs.size],_,_,H1,rfl,I1.kept (t':=s1.toks) λb o e=>cF _ e,Pa a _,⟨_,dZ _ rfl,rfl,rfl⟩,λb hb=>?_,q⟩
 have e:b=s1.heap.objs.size:=by simpa using hb
 subst e;exact I1.fpOk (bS _) (I1.hok.fresh (bS _))
theorem ZU {l:aS}{tl:TE}(hl:PE X l tl):PI X tg l (Ds X.K tl):=by
 intro ac s σ H R I h;refine bb (hl ac s σ H _ I h) λv s1 gh=>?_
 obtain⟨x,H1,I1,r1,q1⟩:=gh;obtain⟨a,e,⟨xs,hq⟩,q⟩:=q1;subst e;cases r1;obtain⟨its,rv,p,hz⟩:=I1.tuple hq;refine wpAny_pyIter_tuple (show s1.heap.IsTuple a its.toArray from p) ?_
 refine⟨s1.heap.objs.size,[s1.heap.objs.size],_,_,H1,rfl,I1.kept (t':=s1.toks) λb o e=>cF _ e,Rn a _,⟨_,dZ _ rfl,rfl,rfl⟩,λb hb=>?_,q⟩
 have e:b=s1.heap.objs.size:=by simpa using hb
 subst e;exact I1.fpOk (bS _) (I1.hok.fresh (bS _))
theorem RC{σ:St}{H:Hp}{R:It->Hp->Prop}{lo hi:Int}{t u v:Tok}{tk:Nat}(I:Inv X ac σ H s)(h1 : -(2^62)<=lo)(h2:lo<2^62)(h3 : -(2^62)<=hi)(h4:hi<2^62)
  (q:R (wM lo (hi-lo).toNat) H):aP (aW X.prog X.w) X.A (pyIter (.ref s.heap.objs.size)) (zx X ac σ tg R) E { s with heap:=s.heap.push { cls:=.type "range",data:=.fields #[.int lo t,.int hi u,.int 1 v] },toks:=tk }:=by
 refine wpAny_pyIter_range (IsRange.new ..) (small_one h1 h2 h3 h4) ?_;have I1:Inv X ac σ H { s with heap:=s.heap.push { cls:=.type "range",data:=.fields #[.int lo t,.int hi u,.int 1 v] },toks:=tk }:=I.kept λb o e=>cF _ e
 refine⟨(s.heap.push { cls:=.type "range",data:=.fields #[.int lo t,.int hi u,.int 1 v] }).objs.size,[(s.heap.push { cls:=.type "range",data:=.fields #[.int lo t,.int hi u,.int 1 v] }).objs.size],_,_,H,rfl,
  I1.kept (t':=tk) λb o e=>cF _ e,Qm _ lo (hi-lo).toNat,?_,λb hb=>?_,q⟩
 .have e1:lo+((0:Nat):Int)*1=lo:=by simp
  have e2:(((hi-lo).toNat:Nat):Int)-((0:Nat):Int)=Builtin.Range.rangeSize lo hi 1:=by rw[rangeSize_one];split<;>lia
  show IsRangeIter _ _ (lo+((0:Nat):Int)*1) ((((hi-lo).toNat:Nat):Int)-((0:Nat):Int)) 1;rw[e1,e2];exact dZ _ rfl
 .have e:b=(s.heap.push { cls:=.type "range",data:=.fields #[.int lo t,.int hi u,.int 1 v] }).objs.size:=by simpa using hb
  subst e;exact I1.fpOk (bS _) (I1.hok.fresh (bS _))
def Fu (ta:TA):TI:=λσ H R=>ta σ H λvs H1=>∃ j:Int,vs=[.int j] /\ -(2^62)<=j/\j<2^62/\R (wM 0 j.toNat) H1
def Fq (ta:TA):TI:=λσ H R=>ta σ H λvs H1=>∃ i j:Int,vs=[.int i,.int j]/\(-(2^62)<=i/\i<2^62 /\ -(2^62)<=j/\j<2^62)/\R (wM i (j-i).toNat) H1
theorem Yv {a:aS}{ta:TA}(hg:Gl X "range")(hm:X.mg "range" = ab)(ha:PA X [a] ta)(hs:bM [a] X.env=[(ag,cA a X.env)]:=by rfl):PI X tg (.Call (.Name "range" p) [a] [] pos) (Fu ta):=by
 intro ac s σ H R I h;refine Call_ (pE I hg hm boot_range (vX (bb (ha pos ac s σ H _ I h) λus s1 ⟨vs,H1,I1,r1,q1⟩=>?_) hs rfl))
 obtain⟨j,e,q1,q2,q⟩:=q1;subst e;cases r1 with
 |cons r rr=>
  cases rr;obtain⟨t,rfl⟩:=r;exact call_range_1 (RC I1 () () q1 q2 (by simpa using q))
theorem Yu {a b:aS}{ta:TA}(hg:Gl X "range")(hm:X.mg "range" = ab)(ha:PA X [a,b] ta)(hs:bM [a,b] X.env=[(ag,cA a X.env),(ag,cA b X.env)]:=by rfl)(gw:bM [b] X.env=[(ag,cA b X.env)]:=by rfl) :
  PI X tg (.Call (.Name "range" p) [a,b] [] pos) (Fq ta):=by
 intro ac s σ H R I h;refine Call_ (pE I hg hm boot_range (vX (bb (ha pos ac s σ H _ I h) λus s1 ⟨vs,H1,I1,r1,q1⟩=>?_) (by rw[hs,gw]) (by rw[gw];rfl)))
 obtain⟨i,j,e,⟨q1,q2,q3,q4⟩,q⟩:=q1;subst e;cases r1 with
 |cons r rr=>
  cases rr with
  |cons r' rr=>
   cases rr;obtain⟨t,rfl⟩:=r;obtain⟨t',rfl⟩:=r';exact call_range_2 (RC I1 q1 q2 q3 q4 q)
def Ej (wi:TI)(g:TG)(tb:TS):TS:=λD σ H=>wi σ H λJ H1=>∃ W:Nat->Nat->St->Hp->Prop,(∃ m,W 0 m σ H1)/\∀ i m σ H,W i m σ H ->
 (J.stop i H/\D.nx σ H)\/(J.go i H/\∃ N:St->Hp->Prop,(∀ σ' H',N σ' H'->∃ m',m'<m/\W (i+1) m' σ' H')/\∀ x H',J.yld i H x H'->g x σ H' λσ2 H2=>tb { D with nx:=N,ct:=N,bk:=D.nx } σ2 H2)
def xK (fp:aaj)(h:aY):dl:=fp.filterMap λb=>(h.get? b).map λo=>(b,o)
theorem CN(hb:b∈fp)(e:h.get? b=aa o):(b,o)∈xK fp h:=List.mem_filterMap.2 ⟨b,hb,by rw[e];rfl⟩
theorem Zx{p:aC×bJ}(hp:p∈xK fp h):p.1∈fp/\h.get? p.1=aa p.2:=by
 obtain⟨b,hb,e⟩:=List.mem_filterMap.1 hp;cases q:h.get? b with
 |none=>rw[q] at e;cases e
 |some o=>
  grind
theorem Inv.pinned{σ:St}{H:Hp}(I:Inv X ac σ H s)(hf:∀ b∈fp,jV X ac H b)(ho:∀ b∈fp,∃ o,s.heap.get? b=aa o/\∀ v,o.data ≠ .cell v):Inv X (ac++xK fp s.heap) σ H s:=
 I.pins_of λp hp=>(fP.1 hp).elim (λz=>I.pin p (oU _ z)) λz=>by
  obtain⟨hb,e⟩:=Zx z;obtain⟨f0,f1,f2,_⟩:=hf p.1 hb
  grind
theorem Inv.unpinned {pl:dl}{σ:St}{H:Hp}(I:Inv X (ac++pl) σ H s):Inv X ac σ H s:=I.pins_of λp hp=>I.pin p (oU _ (List.mem_append_left _ hp))
theorem ZA {bq:aS}{wi:TI}{g:TG}{tb:TS}(hp:zU (aW X.prog X.w) X.A X.env X.xe)(hc:X.calm=af)(hi:PI X tg bq wi)(hg:PG X tg g)(hb:PSs X body tb)
  (hs:∀ x,rM bq X.env x=pure x:=by intro _;rfl):PS X (.For tg bq body [] pos) (Ej wi g tb):=by
 intro ac s σ H D I h;refine wpAny_For (bb (hi ac s σ H _ I h) λv s1 h1=>bb h1 λvq s2 h2=>?_) hs
 obtain⟨it,fp,tn,J,H2,e,I2,T,j4,f2,W,⟨m0,w0⟩,turn⟩:=h2;subst e;have j5:∀ {H':Hp},(∀ b∈fp,H' b=ab)->∀ b∈fp,jV X ac H' b:=λhn b hb=>⟨hn b hb,(f2 b hb).2⟩
 refine codeAny_forLoop_any (λn s'=>∃ i σ' H',Inv X ac σ' H' s'/\tn i s'.heap/\(∀ b∈fp,H' b=ab)/\W i n σ' H') ?_ m0 ⟨0,σ,H2,I2,j4,λb hb=>(f2 b hb).1,w0⟩
 rintro n s3 ⟨i,σ3,H3,I3,sK,tf,w3⟩;rcases turn i n σ3 H3 w3 with⟨stop,qn⟩|⟨go,N,hN,step⟩
 .refine vN hp (bb (T.done X rfl rfl rfl hc i ac s3 σ3 H3 X.xe I3 (j5 tf) sK stop) λr s4 gh=>?_)
  obtain⟨hr,I4⟩:=gh;subst hr;exact LD ⟨σ3,H3,I4,qn⟩
 .refine vN hp (bb (T.item X rfl rfl rfl hc i ac s3 σ3 H3 X.xe I3 (j5 tf) sK go) λr s4 gh=>?_)
  obtain⟨u,hr,h4⟩:=gh;subst hr;refine vN hp (bb h4 λ_ s5 gh=>?_)
  obtain⟨x,H5,I5,r5,y5,df,w6⟩:=gh;have w9:=I5.pinned (j5 w6) (T.obj _ _ df);refine vN hp (bb (hg _ s5 σ3 H5 x u _ w9 r5 (step x H5 y5)) λ_ s6 gh=>?_)
  obtain⟨σ6,H6,I6,q6⟩:=gh;refine vN hp (bb (hb _ s6 σ6 H6 _ I6 q6) λf s7 q7=>?_)
  have again:∀ {σ7:St} {H7:Hp},Inv X (ac++xK fp s5.heap) σ7 H7 s7->N σ7 H7->∃ m,m<n/\∃ i σ' H',Inv X ac σ' H' s7/\tn i s7.heap/\(∀ b∈fp,H' b=ab)/\W i m σ' H':=λ{σ7 H7} I7 n7=>by
   obtain⟨m',hm,w7⟩:=hN σ7 H7 n7;refine⟨m',hm,i+1,σ7,H7,I7.unpinned,T.keep _ _ _ df λb hb o e=>(I7.pin (b,o) (oU _ (oU _ (CN hb e)))).1,λb hb=>?_,w7⟩
   obtain⟨o,e,d⟩:=T.obj _ _ df b hb;exact(I7.pin (b,o) (oU _ (oU _ (CN hb e)))).2.1
  cases f with
  |next=>obtain⟨σ7,H7,I7,n7⟩:=q7;exact again I7 n7
  |cont=>obtain⟨σ7,H7,I7,n7⟩:=q7;exact again I7 n7
  |brk=>obtain⟨σ7,H7,I7,q7⟩:=q7;exact⟨σ7,H7,I7.unpinned,q7⟩
  |ret v=>obtain⟨x7,σ7,H7,I7,r7,q7⟩:=q7;exact⟨x7,σ7,H7,I7.unpinned,r7,q7⟩
end
theorem Ld{xs:aag}{g:TG}{tb:TS}{D:Ends}{σ:St}{H:Hp}(Pv:Nat->St->Hp->Prop)(h0:Pv 0 σ H)(hl:∀ i σ H,i<=xs.length->Pv i σ H->SqT K H a xs)
  (hs:∀ i x σ H,xs[i]?=aa x->Pv i σ H->g x σ H λσ2 H2=>tb { D with nx:=Pv (i+1),ct:=Pv (i+1),bk:=D.nx } σ2 H2) (hd:∀ σ H,Pv xs.length σ H->D.nx σ H) :
  ∃ W:Nat->Nat->St->Hp->Prop,(∃ m,W 0 m σ H)/\∀ i m σ H,W i m σ H ->
   ((tY K a).stop i H/\D.nx σ H)\/((tY K a).go i H/\∃ N:St->Hp->Prop,(∀ σ' H',N σ' H'->∃ m',m'<m/\W (i+1) m' σ' H')/\∀ x H',(tY K a).yld i H x H'->g x σ H' λσ2 H2=>tb { D with nx:=N,ct:=N,bk:=D.nx } σ2 H2):=by
 refine⟨λi m σ H=>m=xs.length-i/\i<=xs.length/\Pv i σ H,⟨xs.length,by simp,fY _,h0⟩,?_⟩
 rintro i m σ H ⟨rfl,hi,p⟩;have q:=hl i σ H hi p;by_cases bu:i<xs.length
 .refine .inr ⟨⟨xs,xs[i],q,by simp[bu]⟩,Pv (i+1),λσ' H' p'=>⟨xs.length-(i+1),(),rfl,bu,p'⟩,λx H' y=>?_⟩
  obtain⟨e,y⟩:=y;subst e;exact hs i x σ _ (y xs q) p
 .have e:i=xs.length:=()
  subst e;exact .inl ⟨⟨xs,q,bS _⟩,hd σ H p⟩
abbrev R2:=V->V->Hp->VK->Prop
def OpR (X:Cx)(f:aF->aF->Sem aF)(r:R2):Prop:=
 ∀ (ac:dl) (s:aK) (σ:St) (H:Hp) (x y:V) (v u:aF) (Q:VK),Inv X ac σ H s->RelV x v->RelV y u->r x y H Q ->
  aP (aW X.prog X.w) X.A (f v u) (EP X ac σ Q) X.xe s
def Adn (X:Cx)(f:aF)(r:aag->Hp->VK->Prop):Prop:=
 ∀ (ac:dl) (s:aK) (σ:St) (H:Hp) (xs:aag) (us:aal) (Q:VK),Inv X ac σ H s->Vals xs us->r xs H Q ->
  aP (aW X.prog X.w) X.A (call f us) (EP X ac σ Q) X.xe s
def rp (r:R2)(ta tb:TE):TE:=λσ H Q=>ta σ H λx H1=>tb σ H1 λy H2=>r x y H2 Q
def rI (C:Int->Int->Prop)(g:Int->Int->V):R2:=λx y H Q=>∃ i j,x=.int i/\y=.int j/\C i j/\Q (g i j) H
def lh (g:Int->Int->V):R2:=λx y H Q=>∃ i j,x=.int i/\y=.int j/\Q (g i j) H
section
variable {X:Cx}{a b:aS}{ta tb tc:TE}
theorem FD (ha:PE X a ta)(hb:PE X b tb){σ:St}{H:Hp}{R:V->V->Hp->Prop}(I:Inv X ac σ H s)
  (h:ta σ H λx H1=>tb σ H1 λy H2=>R x y H2) {Q:aF->aK->Prop} {f:aF->aF->Sem aF}
  (hf:∀ v u s2 x y H2,Inv X ac σ H2 s2->RelV x v->RelV y u->R x y H2->aP (aW X.prog X.w) X.A (f v u) Q X.xe s2) :
  aP (aW X.prog X.w) X.A (cA a X.env) (λv s₁=>aP (aW X.prog X.w) X.A (cA b X.env) (λu s₂=>aP (aW X.prog X.w) X.A (f v u) Q X.xe s₂) X.xe s₁) X.xe s:=by
 refine bb (ha ac s σ H _ I h) λv s1 gh=>?_
 obtain⟨x,H1,I1,r1,q1⟩:=gh;refine bb (hb ac s1 σ H1 _ I1 q1) λu s2 gh=>?_
 obtain⟨y,H2,I2,r2,q2⟩:=gh;exact hf v u s2 x y H2 I2 r1 r2 q2
theorem Ga {op:Operator}{r:R2}(ho:OpR X (kW op) r)(ha:PE X a ta)(hb:PE X b tb):PE X (.BinOp a op b pos) (rp r ta tb):=by
 rw[5];exact wpAny_BinOp (FD ha hb I h λv u s2 x y H2 I2 rx ry q=>ho ac s2 σ H2 x y v u Q I2 rx ry q)
theorem sr{C:Int->Int->Prop}{g:Int->Int->Int}
  (rule:∀ (i j:Int) (t u:Tok) (s:aK) (Q:aF->aK->Prop) (E:aF->aK->Prop),C i j->Q (.int (g i j) s.toks) { s with toks:=s.toks+1 }->aP (aW X.prog X.w) X.A (f (.int i t) (.int j u)) Q E s) :
  OpR X f (rI C λi j=>.int (g i j)):=by
 rw[1];obtain⟨i,j,rfl,rfl,hc,q⟩:=h;obtain⟨t,rfl⟩:=rx;obtain⟨t',rfl⟩:=ry;exact rule i j t t' s _ _ hc ⟨.int (g i j),H,I.tok _,⟨_,rfl⟩,q⟩
theorem NB{g:Int->Int->Int}
  (rule:∀ (i j:Int) (t u:Tok) (s:aK) (Q:aF->aK->Prop) (E:aF->aK->Prop),Q (.int (g i j) s.toks) { s with toks:=s.toks+1 }->aP (aW X.prog X.w) X.A (f (.int i t) (.int j u)) Q E s) :
  OpR X f (lh λi j=>.int (g i j)):=by
 rw[1];obtain⟨i,j,rfl,rfl,q⟩:=h;obtain⟨t,rfl⟩:=rx;obtain⟨t',rfl⟩:=ry;exact rule i j t t' s _ _ ⟨.int (g i j),H,I.tok _,⟨_,rfl⟩,q⟩
theorem FH{g:Int->Int->Bool}
  (rule:∀ (i j:Int) (t u:Tok) (s:aK) (Q:aF->aK->Prop) (E:aF->aK->Prop),Q (.bool (g i j)) s->aP (aW X.prog X.w) X.A (f (.int i t) (.int j u)) Q E s) :
  OpR X f (lh λi j=>.bl (g i j)):=by
 rw[1];obtain⟨i,j,rfl,rfl,q⟩:=h;obtain⟨t,rfl⟩:=rx;obtain⟨t',rfl⟩:=ry;exact rule i j t t' s _ _ ⟨.bl (g i j),H,I,rfl,q⟩
def Dq (i j:Int):Prop:=0<j/\j<1073741824
def Ed (i j:Int):Prop:=0<=j/\j<=1000000/\i.natAbs<2^64
def Bhj (i j:Int):Prop:=(-(2^64)<i/\i<2^64)\/(-(2^64)<j/\j<2^64)
theorem Bhj.ok {i j:Int}(h:Bhj i j):IntMulOk i j:=by
 rcases h with⟨h1,h2⟩|⟨h1,h2⟩
 .exact .of_left (intBits_le_64 h1 h2)
 .exact .of_right (intBits_le_64 h1 h2)
theorem Be7:OpR X (kW .Add) (lh λi j=>.int (i+j)):=NB λ_ _ _ _ _ _ _ q=>add_int q
theorem Jl:OpR X (kW .Sub) (lh λi j=>.int (i-j)):=NB λ_ _ _ _ _ _ _ q=>sub_int q
theorem Jo:OpR X (kW .Mult) (rI Bhj λi j=>.int (i*j)):=sr λ_ _ _ _ _ _ _ hc q=>mul_int q hc.ok
theorem Nj:OpR X (kW .FloorDiv) (rI Dq λi j=>.int (i/j)):=sr λi j _ _ _ _ _ hc q=>by
 have h1:(0:Int)<j:=hc.1;have h2:j<1073741824:=hc.2;exact floordiv_int () (by rw[Int.fdiv_eq_ediv_of_nonneg i ()];exact q) (.inl (PyProof.noPylong_small ()))
theorem Gw:OpR X (kW .Mod) (rI (λ_ j=>0<j) λi j=>.int (i%j)):=sr λi j _ _ _ _ _ hc q=>by
 have h1:(0:Int)<j:=hc;exact mod_int' () (by rw[Int.fmod_eq_emod_of_nonneg i ()];exact q)
theorem Ha:OpR X (kW .Pow) (rI Ed λi j=>.int (i^j.toNat)):=sr λ_ _ _ _ _ _ _ hc q=>pow_int_small hc.1 hc.2.1 hc.2.2 q
end
section
variable {X:Cx}{a b:aS}{ta tb tc:TE}
theorem BA{σ:St}{H:Hp}{Q:VK}{k k':Bool}(I:Inv X ac σ H s)(q:Q (.bl k) H)(e:k=k'):EP X ac σ Q (.bool k') s:=by
 subst e;exact⟨.bl k,H,I,rfl,q⟩
theorem Awv:OpR X (gR .Lt) (lh λi j=>.bl (decide (i<j))):=FH λ_ _ _ _ _ _ _ q=>lt_int q
theorem Fz:OpR X (gR .Gt) (lh λi j=>.bl (decide (j<i))):=FH λ_ _ _ _ _ _ _ q=>gt_int q
theorem DB:OpR X (gR .GtE) (lh λi j=>.bl (decide (j<=i))):=FH λ_ _ _ _ _ _ _ q=>ge_int q
theorem vI:OpR X (gR .Lt) (λx y H Q=>∃ i j,x=.str i/\y=.str j/\Q (.bl (decide (i.cps.toList<j.cps.toList))) H):=by
 rw[1];obtain⟨i,j,rfl,rfl,q⟩:=h;obtain⟨t,rfl⟩:=rx;obtain⟨t',rfl⟩:=ry;exact lt_str (BA I q rfl)
theorem Ow:OpR X (gR .In) (λx y H Q=>∃ i j,x=.str i/\y=.str j/\Q (.bl (!(MS j i 0 j.length 1).isEmpty)) H):=by
 rw[1];obtain⟨i,j,rfl,rfl,q⟩:=h;obtain⟨t,rfl⟩:=rx;obtain⟨t',rfl⟩:=ry;exact in_str (BA I q rfl)
theorem Kq:OpR X (gR .Is) (λx y H Q=>y=.non/\Q (.bl (decide (x=.non))) H):=by
 rw[1];obtain⟨rfl,q⟩:=h;cases ry;refine is_none_gen (BA I q ?_);cases x<;>first
  |(cases rx;rfl)
  |(obtain⟨t,rfl⟩:=rx;rfl)
theorem Ax:OpR X (gR .IsNot) (λx y H Q=>y=.non/\Q (.bl (!decide (x=.non))) H):=by
 rw[1];obtain⟨rfl,q⟩:=h;cases ry;refine isnot_none_gen (BA I q ?_);cases x<;>first
  |(cases rx;rfl)
  |(obtain⟨t,rfl⟩:=rx;rfl)
theorem OpR.or{r r':R2}(h:OpR X f r)(h':OpR X f r'):OpR X f (λx y H Q=>r x y H Q\/r' x y H Q):=by
 intro ac s σ H x y v u Q I rx ry q;rcases q with q|q
 .exact h ac s σ H x y v u Q I rx ry q
 .exact h' ac s σ H x y v u Q I rx ry q
theorem gC (b:aS)(h:op ≠ .In:=by decide)(h2:op ≠ .NotIn:=by decide):vU op b=ag:=by
 have e1:(op==CmpOp.In)=ag:=by cases op<;>first|rfl|exact absurd rfl h
 have e2:(op==CmpOp.NotIn)=ag:=by cases op<;>first|rfl|exact absurd rfl h2
 cases b<;>simp[vU,e1,e2]
theorem Ut{r:R2}(ho:OpR X (gR op) r)(ha:PE X a ta)(hb:PE X b tb)(hm:vU op b=ag):PE X (.Compare a [op] [b] pos) (rp r ta tb):=by
 rw[5];exact wpAny_Compare1 (FD ha hb I h λv u s2 x y H2 I2 rx ry q=>ho ac s2 σ H2 x y v u Q I2 rx ry q) hm
def OG (t:TE):TT:=λσ H Q=>t σ H λx H'=>∃ k,x=.bl k/\Q k H'
theorem OT{r:R2}(ho:OpR X (gR op) r)(ha:PE X a ta)(hb:PE X b tb)(hm:vU op b=ag):PT X (.Compare a [op] [b] pos) (OG (rp r ta tb)):=by
 rw[5];refine wpAny_isTrue_Compare1 (bb (ha ac s σ H _ I h) λv s1 ⟨x,H1,I1,r1,q1⟩=>bb (hb ac s1 σ H1 _ I1 q1) λu s2 ⟨y,H2,I2,r2,q2⟩=>
  bb (ho ac s2 σ H2 x y v u _ I2 r1 r2 q2) λc s3 ⟨z,H3,I3,r3,k,e,q3⟩=>?_) hm
 subst e;cases r3;exact rJ ⟨H3,I3,q3⟩
def ZW (r r':R2)(ta tb tc:TE):TE:=λσ H Q=>ta σ H λx H1=>tb σ H1 λy H2=>r x y H2 λz H3=>∃ k,z=.bl k /\
 (if k=af then tc σ H3 λw' H4=>r' y w' H4 Q else Q (.bl ag) H3)
theorem Ws {qf:CmpOp}{r r':R2}(ho:OpR X (gR op) r)(j2:OpR X (gR qf) r')(ha:PE X a ta)(hb:PE X b tb)(hc:PE X c tc)
  (hm:lastMarks [op,qf] [b,c]=ag:=by with_unfolding_all rfl):PT X (.Compare a [op,qf] [b,c] pos) (OG (ZW r r' ta tb tc)):=by
 rw[5];refine isTrue_chain (bb (ha ac s σ H _ I h) λv s1 ⟨x,H1,I1,r1,q1⟩=>test_link (bb (hb ac s1 σ H1 _ I1 q1) λu s2 ⟨y,H2,I2,r2,q2⟩=>
  bb (ho ac s2 σ H2 x y v u _ I2 r1 r2 q2) λd s3 ⟨z,H3,I3,r3,k,e,q3⟩=>?_)) hm
 subst e;cases r3;refine rJ ?_;cases k with
 |false=>
  obtain⟨k',e',q'⟩:=q3;cases e';exact ite_ff ⟨H3,I3,q'⟩
 |true=>
  refine ite_tt (test_last (bb (hc ac s3 σ H3 _ I3 q3) λw' s4 ⟨z',H4,I4,r4,q4⟩=>bb (j2 ac s4 σ H4 y z' u w' _ I4 r2 r4 q4) λd' s5 gh=>?_))
  obtain⟨z2,H5,I5,r5,k2,e2,q5⟩:=gh;subst e2;cases r5;exact rJ ⟨H5,I5,q5⟩
theorem uM:(sizeLine:Nat)<2^63:=by rw[pL];decide
theorem Aww:OpR X (kW .Add) (λx y H Q=>∃ i j,x=.str i/\y=.str j/\i.length+j.length<=sizeLine/\Q (.str (i++j)) H):=by
 rw[1];obtain⟨i,j,rfl,rfl,hz,q⟩:=h;obtain⟨t,rfl⟩:=rx;obtain⟨t',rfl⟩:=ry;exact add_str (λt' tk=>⟨.str (i++j),H,I.tok _,⟨_,rfl⟩,q⟩) hz
theorem vals1 {x:V}(r:Vals [x] us):∃ u,us=[u]/\RelV x u:=by
 cases r with
 |cons r1 r2=>cases r2;exact⟨_,rfl,r1⟩
theorem vals2 {x y:V}(r:Vals [x,y] us):∃ u w',us=[u,w']/\RelV x u/\RelV y w':=by
 cases r with
 |cons r1 r2=>
  cases r2 with
  |cons r3 r4=>cases r4;exact⟨_,_,rfl,r1,r3⟩
theorem Pk (hc:X.calm=af):Adn X (.builtin "max") (λxs H Q=>∃ i j,xs=[.int i,.int j]/\Q (.int (if j > i then j else i)) H):=by
 rw[3];obtain⟨i,j,rfl,q⟩:=h;obtain⟨u,w',rfl,⟨t,rfl⟩,⟨t',rfl⟩⟩:=vals2 r;refine max_two_ints (I.ok.hd hc) λh' tk k=>⟨_,H,I.kept k,?_,q⟩
 by_cases hj:j > i
 .rw[if_pos hj,if_pos hj];exact⟨_,rfl⟩
 .rw[if_neg hj,if_neg hj];exact⟨_,rfl⟩
theorem Ym (hc:X.calm=af):Adn X (.builtin "min") (λxs H Q=>∃ i j,xs=[.int i,.int j]/\Q (.int (if j<i then j else i)) H):=by
 rw[3];obtain⟨i,j,rfl,q⟩:=h;obtain⟨u,w',rfl,⟨t,rfl⟩,⟨t',rfl⟩⟩:=vals2 r;refine min_two_ints (I.ok.hd hc) λh' tk k=>⟨_,H,I.kept k,?_,q⟩
 by_cases hj:j<i
 .rw[if_pos hj,if_pos hj];exact⟨_,rfl⟩
 .rw[if_neg hj,if_neg hj];exact⟨_,rfl⟩
theorem Qp:Adn X (.type "int") (λxs H Q=>(∃ i,xs=[.int i]/\Q (.int i) H)\/∃ k,xs=[.bl k]/\Q (.int (if k then 1 else 0)) H):=by
 rw[3];rcases h with⟨i,rfl,q⟩|⟨k,rfl,q⟩
 .obtain⟨u,rfl,t,rfl⟩:=vals1 r;exact call_int_int ⟨.int i,H,I,⟨_,rfl⟩,q⟩
 .obtain⟨u,rfl,r1⟩:=vals1 r;cases r1;exact call_int_bool ⟨.int (if k then 1 else 0),H,I.tok _,⟨_,rfl⟩,q⟩
end
structure ObjM (h:aY)(x dx C:aC)(mA:aD->Option aF):Prop where
 obj:h.get? x=aa (Bv C dx)
 ns:h.Ns1 dx mA
 ne:dx≠x
theorem Zy{mA:aD->aao}(n:h.Ns1 dx mA):∃ od,h.get? dx=aa od/\∀ name,Br name od=aa (mA name):=by
 obtain⟨o,es,ep,ho,hd,hk,_,hm⟩:=n;refine⟨o,ho,λname=>?_⟩
 have e:=hm name;unfold nsFind findBy at e;rw[<-Array.find?_toList] at e;unfold Br;rw[hd];dsimp only;split
 .rename_i y q;rw[q] at e;exact congrArg aa e
 .rename_i q;rw[q] at e;have a:es.toList.any (·.refKey)=ag:=by
   rw[List.any_eq_false];intro y hy;obtain⟨z,t,xc⟩:=hk y (Array.mem_toList_iff.1 hy);simp[DictEntry.refKey,xc]
  grind
theorem ObjM.look{x:aC}{mA:aD->aao}(I:ObjM h x dx C mA):∃ od,PySem.W.InstAt h x (Bv C dx) C (aa od)/\∀ name,Br name od=aa (mA name):=
 let ⟨od,ho,hl⟩:=Zy I.ns
 ⟨od,⟨I.obj,rfl,rfl,ho⟩,hl⟩
theorem Asf.some_of {v:V}{o:aao}(r:Asf (aa v) o):∃ u,o=aa u/\RelV v u:=by
 cases o with
 |none=>exact(show False from r).elim
 |some u=>exact⟨u,rfl,r⟩
theorem Asf.none_of {o:aao}(r:Asf ab o):o=ab:=by
 cases o with
 |none=>rfl
 |some u=>exact(show False from r).elim
section
variable {P:bW}{w:bG}{H H':Hp}{fs G2:List (aD×V)}
theorem Mb (hok:HOk P w H h)(e:H a=aa (.ins C dx fs)):∃ mA,ObjM h a dx C mA/\(∀ f,Asf (fs.lookup f) (mA f))/\PySem.Within mA (fs.map (·.1))/\fs.length<=1000/\H dx=aa (.own a):=by
 obtain⟨d,z,ne,ob,mA,n,r,q⟩:=(show Ac5 P w H h a (.ins C dx fs) from hok a _ e)
 exact⟨mA,⟨ob,n,ne⟩,r,q,z,d⟩
end
structure Cls (K:aM)(C:aC):Prop where
 pg:PySem.W.plainGet K C Str.empty=af
 hd:PySem.W.hasDictIn K C=af
 po:PySem.W.plainOver K C=af
 sa:PySem.W.findIn K (.ref C) "__setattr__" = aa (aa (.builtin "object.__setattr__"))
theorem Cls.get(c:Cls K C)(f:aD):PySem.W.plainGet K C f=af:=c.pg
section
variable {X:Cx}{σ:St}{H:Hp}{c:aF}{b:Bool}
inductive TyOf (K:aM)(H:Hp):V->aF->Prop where
 |non:TyOf K H .non (.type "NoneType")
 |bl (x:Bool):TyOf K H (.bl x) (.type "bool")
 |int (i:Int):TyOf K H (.int i) (.type "int")
 |str (x:aD):TyOf K H (.str x) (.type "str")
 |flt (x:UInt64):TyOf K H (.flt x) (.type "float")
 |lst {a:aC} {xs:List V} (e:H a=aa (.lst xs)):TyOf K H (.ref a) (.type "list")
 |frz {a:aC} {o:bJ} {xs:List V} (e:H a=aa (.frz o (.lst xs))):TyOf K H (.ref a) (.type "list")
 |tup {a:aC} {xs:List V} (e:H a=aa (.tup xs)):TyOf K H (.ref a) (.type "tuple")
 |dK {a:aC} {ep:Nat} {kvs:List (aG×V)} (e:H a=aa (.dK ep kvs)):TyOf K H (.ref a) (.type "dict")
 |dT {a:aC} {ep:Nat} {kvs:List (List aA×V)} (e:H a=aa (.dT ep kvs)):TyOf K H (.ref a) (.type "dict")
 |ins {a C dx:aC} {fs:List (aD×V)} (e:H a=aa (.ins C dx fs)) (cl:Cls K C) (ha:PySem.W.findIn K (.ref C) "__class__" = aa (aa (.builtin "object.__class__")))
   (hn:PySem.W.specialIn K (.builtin "object.__class__") "__get__" = aa (aa (.builtin "getset_descriptor.__get__"))) (qg:PySem.W.takesIn K (.builtin "object.__class__")=aa af)
   (hm:PySem.W.mroIn K C (.type "object")=aa af):TyOf K H (.ref a) (.ref C)
theorem Yo {x:V}{t:aF}(I:Inv X ac σ H s)(rx:RelV x u)(ty:TyOf X.K H x t)(e:Bu X.K t c=aa b)(h:∀ tk,Q (.bool b) { s with toks:=tk }) :
  aP (aW X.prog X.w) A (call (.builtin "isinstance") [u,c]) Q E s:=by
 cases ty with
 |non=>cases(show u=gS from rx);exact nC PySem.W.kitx_none I.kIn mD e (λz=>nomatch z) h
 |bl y=>cases(show u=Value.bool y from rx);exact nC PySem.W.kitx_bool I.kIn mD e (λz=>nomatch z) h
 |int i=>obtain⟨t,q⟩:=(show ∃ t,u=DZ i t from rx);cases q;exact nC PySem.W.kitx_int I.kIn mD e (λz=>nomatch z) h
 |str y=>obtain⟨t,q⟩:=(show ∃ t,u=Value.str y t from rx);cases q;exact nC PySem.W.kitx_str I.kIn mD e (λz=>nomatch z) h
 |flt y=>obtain⟨t,q⟩:=(show ∃ t,u=Value.float y t from rx);cases q;exact nC PySem.W.kitx_float I.kIn mD e (λz=>nomatch z) h
 |@lst a xs ea=>
  cases(show u=gN a from rx)
  obtain⟨_,_,n,_,h1⟩:=(show Ac5 X.prog X.w H s.heap a (.lst xs) from I.hok a _ ea)
  exact nC Bs I.kIn ⟨_,h1,rfl⟩ e (λz=>nomatch z) h
 |@frz a ob xs ea=>
  cases(show u=gN a from rx)
  obtain⟨_,_,_,n,_,h1⟩:=(show Ac5 X.prog X.w H s.heap a (.frz ob (.lst xs)) from I.hok a _ ea)
  exact nC Bs I.kIn ⟨_,h1,rfl⟩ e (λz=>nomatch z) h
 |@tup a xs ea=>
  cases(show u=gN a from rx)
  obtain⟨_,_,_,p⟩:=(show Ac5 X.prog X.w H s.heap a (.tup xs) from I.hok a _ ea)
  obtain⟨o,h1,h2,_⟩:=p.1;exact nC PySem.W.kitx_tuple I.kIn ⟨o,h1,h2⟩ e (λz=>nomatch z) h
 |@dK a ep kvs ea=>
  cases(show u=gN a from rx)
  obtain⟨_,_,vs,_,p⟩:=(show Ac5 X.prog X.w H s.heap a (.dK ep kvs) from I.hok a _ ea)
  obtain⟨o,es,h1,h2,_⟩:=p;exact nC Bt I.kIn ⟨o,h1,h2.1⟩ e (λz=>nomatch z) h
 |@dT a ep kvs ea=>
  cases(show u=gN a from rx)
  obtain⟨_,_,xs,_,o,es,h1,h2,_⟩:=(show Ac5 X.prog X.w H s.heap a (.dT ep kvs) from I.hok a _ ea)
  exact nC Bt I.kIn ⟨o,h1,h2.1⟩ e (λz=>nomatch z) h
 |@ins a C dx fs ea cl ha hn qg hm=>
  cases(show u=gN a from rx)
  obtain⟨mA,O,_⟩:=Mb I.hok ea;obtain⟨od,J,_⟩:=O.look;exact nC (PySem.W.kitx_own (cl.get _) cl.hd ha hn qg hm) I.kIn J e (λz=>nomatch z) h
end
structure Room (k:Nat)(A:cP):Prop where
 hd:A.handled=ab
 dp:A.depth+3*k+5<recursionLimit
 un:A.units+16*k+200<cLine
theorem Room.mono {j:Nat}(r:Room k A)(h:j<=k):Room j A:=⟨r.hd,by have:=r.dp;lia,by have:=r.un;lia⟩
theorem Room.deeper(r:Room (k+1) A)(env:fE):Room k (A.deeper env):=
 ⟨r.hd,by have:=r.dp;show A.depth+1+3*k+5<_;lia,by have:=r.un;show A.units+3+16*k+200<_;lia⟩
theorem Room.depth(r:Room k A):A.depth<recursionLimit:=by have:=r.dp;lia
theorem Room.units(r:Room k A):A.units+64<cLine:=by have:=r.un;lia
abbrev wO:TA:=λ_ H Q=>Q [] H
abbrev sF (ta:TE)(tr:TA):TA:=λσ H Q=>ta σ H λx H1=>tr σ H1 λxs H2=>Q (x::xs) H2
section
variable {X:Cx}{te:TE}{t:TA}
theorem kQ:PA X [] wO:=λ_ _ _ _ H Q I h=>Dd ⟨[],H,I,.nil,h⟩
theorem gX (ha:PE X e te)(hr:PA X es t)(hs:bM (e::es) X.env=(ag,cA e X.env)::bM es X.env:=by rfl):PA X (e::es) (sF te t):=by
 intro pos ac s σ H Q I h;rw[hs];show aP _ _ (spliced ((ag,cA e X.env)::iT pos (bM es X.env))) _ _ s;refine MR (bb (ha ac s σ H _ I h) λu s1 gh=>?_)
 obtain⟨x,H1,I1,r1,q1⟩:=gh;exact bb (hr pos ac s1 σ H1 _ I1 q1) λus s2 ⟨xs,H2,I2,r2,q2⟩=>⟨x::xs,H2,I2,.cons r1 r2,q2⟩
def Eo (t:TA):TE:=λσ H Q=>t σ H λxs H1=>xs.length<=sizeLine/\∀ p,H1 p=ab->Q (.ref p) (upd H1 p (.tup xs))
def Eg (t:TA):TE:=λσ H Q=>t σ H λxs H1=>xs.length<=sizeLine/\∀ p,H1 p=ab->Q (.ref p) (upd H1 p (.lst xs))
theorem GB {x1}(h:PA X es t):PE X (.Tuple es x1 pos) (Eo t):=by
 intro ac s σ H Q I hq;refine wpAny_Tuple_spliced (bb (h pos ac s σ H _ I hq) λus s1 ⟨xs,H1,I1,r,z,q⟩=>⟨by rw[<-r.length];exact z,?_⟩)
 have hf:H1 s1.heap.objs.size=ab:=I1.hok.fresh (bS _);refine⟨.ref s1.heap.objs.size,upd H1 s1.heap.objs.size (.tup xs),I1.laid (t':=s1.toks) (λb u e=>cF _ e) (bS _) ?_,rfl,q _ hf⟩
 exact⟨z,us,r,⟨_,dZ _ rfl,rfl,_,rfl⟩,_,dZ _ rfl,rfl⟩
theorem Jv (h:PA X es t):PE X (.List es pos) (Eg t):=by
 intro ac s σ H Q I hq;refine wpAny_List_spliced (bb (h pos ac s σ H _ I hq) λus s1 ⟨xs,H1,I1,r,z,q⟩=>⟨by rw[<-r.length];exact z,?_⟩)
 have hf:H1 s1.heap.objs.size=ab:=I1.hok.fresh (bS _);refine⟨.ref s1.heap.objs.size,upd H1 s1.heap.objs.size (.lst xs),I1.laid (t':=s1.toks) (λb u e=>cF _ e) (bS _) ?_,rfl,q _ hf⟩
 exact⟨z,us,0,r,dZ _ rfl⟩
end
abbrev Sp:=aag->Hp->VK->XK->Prop
abbrev m8:=List fE->Hp->aK->XK->aF->aK->Prop
structure Env0 (P:bW)(w:bG)(K:aM)(mg:aD->Option aF)(base:aY)(A:cP)(outer:List fE)(s:aK)(H:Hp):Prop where
 frames:A.frames=aa outer
 mod:Mod K mg base
 bs:∀ b o,base.get? b=aa o->s.heap.get? b=aa o/\H b=ab
 bsz:base.objs.size<=s.heap.objs.size
 funs:s.heap.FunFrames base outer
 frf:∀ b∈k8 outer,H b=ab
 hok:HOk P w H s.heap
 bare:rS s.gens
def CE (outer:List fE)(P:bW)(w:bG)(H:Hp)(s:aK)(Q:VK)(u:aF)(s':aK):Prop:=
 ∃ v H',s'.os=s.os/\rS s'.gens/\Un (k8 outer) [] H H' s.heap s'.heap/\HOk P w H' s'.heap/\RelV v u/\Q v H'
def CR (CX:m8)(outer:List fE)(P:bW)(w:bG)(H:Hp)(s:aK)(Q:VK)(E:XK)(r:tR)(s':aK):Prop:=
 match r with
 |.ok (.ret u)=>CE outer P w H s Q u s'
 |.ok _=>False
 |.error e=>CX outer H s E e s'
structure FnOk (P:bW)(w:bG)(K:aM)(mg:aD->Option aF)(base:aY)(CX:m8)(k:Nat)(f:aC)(fd:lA)(ps:List aD)(sp:Sp):Prop where
 len:∀ vs H Q E,sp vs H Q E->vs.length=ps.length
 run:∀ (A:cP) (outer:List fE) (s:aK) (H:Hp) (args:Args) (us:List aF) (vs:List V) (Q:VK) (E:XK),Room k A->Env0 P w K mg base A outer s H->BindsTo s fd args (ps.zip us)->Vals vs us->sp vs H Q E ->
  oR (aW P w) A (.call (.ref f) args) (CR CX outer P w H s Q E) s
theorem FnOk.imp {P:bW}{w:bG}{CX:m8}{f:aC}{sp A2:Sp}(F:FnOk P w K mg base CX k f fd ps sp)
  (h:∀ vs H Q E,A2 vs H Q E->sp vs H Q E):FnOk P w K mg base CX k f fd ps A2:=
 ⟨λvs H Q E q=>F.len vs H Q E (h _ _ _ _ q),λA outer s H args us vs Q E hr he hb hv hs=>F.run A outer s H args us vs Q E hr he hb hv (h _ _ _ _ hs)⟩
section
variable {X:Cx}{σ:St}{H:Hp}
theorem Inv.env0 (I:Inv X ac σ H s):Env0 X.prog X.w X.K X.mg X.base X.A X.stack s H:=
 ⟨I.ok.frames,I.ok.mod,I.bs,kK I.ok.bsz I.sz,I.stack,I.stkFree,I.hok,I.bare⟩
theorem Inv.after {Q:VK}(I:Inv X ac σ H s)(h:CE X.stack X.prog X.w H s Q u s'):EP X ac σ Q u s':=by
 obtain⟨v,H',os,bare,un,hok,r,q⟩:=h;obtain⟨hh,g,d,t,vt⟩:=s';obtain rfl:vt=s.os:=os;exact⟨v,H',I.call (h':=hh) (g':=g) (d':=d) (t':=t) (ch:=[]) un hok bare (λb z=>absurd z (by simp)),r,q⟩
end
def NN (sp:Sp)(o8:aag)(E:XK)(t:TA):TE:=λσ H Q=>t σ H λvs H1=>sp (vs++o8) H1 Q E
def Binds (K:aM)(fd:lA)(ps:aan)(ds:aal):Prop:=
 ∀ (s:aK) (us:aal),K.In s.heap->(us++ds).length=ps.length->BindsTo s fd ⟨us,[]⟩ (ps.zip (us++ds))
theorem Binds.all(h:∀ us:aal,us.length=ps.length->bindArgs fd ⟨us,[]⟩=pure (ps.zip us)):Binds K fd ps []:=λs us _ hl=>by
 rw[wG] at hl ⊢;exact .of_eq (h us hl)
def Passes (CX:m8)(X:Cx)(E:XK):Prop:=∀ (ac:dl) (σ:St) (H:Hp) (s:aK) (e:aF) (s':aK),Inv X ac σ H s->CX X.stack H s E e s'->X.xe e s'
section
variable {X:Cx}{CX:m8}{f:aC}{sp:Sp}{o8:aag}{ds:aal}{E:XK}{m:aD}{br:bH}{o:aS}{ta:TE}{t:TA}
theorem Jb{σ:St}{H:Hp}{Q:VK}{vs:aag}(F:FnOk X.prog X.w X.K X.mg X.base CX k f fd ps sp)(hr:Room k X.A)(hb:Binds X.K fd ps ds)(hd:Vals o8 ds)(hx:Passes CX X E)
  (I:Inv X ac σ H s) (r:Vals vs us) (h:sp (vs++o8) H Q E):aP (aW X.prog X.w) X.A (call (.ref f) us) (EP X ac σ Q) X.xe s:=by
 have r2:Vals (vs++o8) (us++ds):=r.append hd;have hl:(us++ds).length=ps.length:=by rw[<-r2.length];exact F.len _ _ _ _ h
 refine wpAny_call (LM (F.run X.A X.stack s H ⟨us,[]⟩ (us++ds) (vs++o8) Q E hr I.env0 (hb s us I.kIn hl) r2 h) λr s' hq=>?_)
 cases r with
 |error e=>exact hx ac σ H s e s' I hq
 |ok fl=>
  cases fl with
  |ret u=>exact I.after hq
  |next=>exact pY hq
  |brk=>exact pY hq
  |cont=>exact pY hq
theorem Ma (F:FnOk X.prog X.w X.K X.mg X.base CX k f fd ps sp)(hr:Room k X.A)(hg:Gl X x)(hm:X.mg x=aa (.ref f))(hk:EB X.K (.ref f)=af)(hb:Binds X.K fd ps ds)(hd:Vals o8 ds)(hx:Passes CX X E)
  (ha:PA X (e::es) t) (jq:(x==("__debug__" : aD))=ag:=by decide) (he:bM (e::es) X.env=(ag,cA e X.env)::bM es X.env:=by rfl) (im:(iT pos (bM es X.env)).any (·.1)=ag:=by rfl) :
  PE X (.Call (.Name x p) (e::es) [] pos) (NN sp o8 E t):=by
 rw[5];refine Bo (Am I hg hm ?_ jq);refine PySem.W.callWith_K (h₀:=X.base) I.ok.mod.kin hk (bb (ha pos ac s σ H _ I h) λus s1 ⟨vs,H1,I1,r,q⟩=>⟨I1.kIn,?_⟩) he im
 exact Jb F hr hb hd hx I1 r q
end
structure FnScope (N P:List aD)(sc:gY):Prop where
 kind:sc.kind=.function
 co:sc.isCoroutine=ag
 gen:sc.isGenerator=ag
 nd:N.Nodup
 pre:N.take P.length=P
 par:∀ x∈P,sc.names.lookup x=aa .local\/sc.names.lookup x=aa .cell
 nofree:∀ y∈sc.names,y.2 ≠ .free
theorem UA {kindOf:aD->Option jS}:∀ {binds:List (aD×aF)} {m:aD->aao},(∀ v,(x,v)∉binds)->bindL kindOf binds m x=m x
 |[],_,_=>rfl
 |(n,v)::r,m,h=>by
  unfold bindL;rw[UA λw hw=>h w (cL _ hw)]
  split
  all_goals grind
theorem TM {kindOf:aD->Option jS}:∀ {binds:List (aD×aF)} {m:aD->aao},(∀ v,(x,v)∉binds)->bindC kindOf binds m x=m x
 |[],_,_=>rfl
 |(n,v)::r,m,h=>by
  unfold bindC;rw[TM λw hw=>h w (cL _ hw)]
  split
  all_goals grind
theorem TX {kindOf:aD->Option jS}{x:aD}{v:aF}:∀ {P:aan} {vs:aal} {i:Nat} {m:aD->aao},P.Nodup->P[i]?=aa x->vs[i]?=aa v->kindOf x=aa .local ->
  bindL kindOf (P.zip vs) m x=aa v
 |[],_,_,_,_,h,_,_=>by simp at h
 |_::_,[],_,_,_,_,h,_=>by simp at h
 |p::P,w::vs,0,m,nd,h1,h2,hk=>by
  simp at h1 h2;subst h1;subst h2;show bindL kindOf ((p,w)::P.zip vs) m p=_;unfold bindL;rw[UA λv hv=>(gZ.1 nd).1 (wB hv).1,if_pos hk]
  simp
 |p::P,w::vs,i+1,m,nd,h1,h2,hk=>by
  show bindL kindOf ((p,w)::P.zip vs) m x=_;unfold bindL;exact TX (i:=i) (gZ.1 nd).2 (by simpa using h1) (by simpa using h2) hk
theorem SY {kindOf:aD->Option jS}{x:aD}{v:aF}:∀ {P:aan} {vs:aal} {i:Nat} {m:aD->aao},P.Nodup->P[i]?=aa x->vs[i]?=aa v->kindOf x≠aa .local ->
  bindC kindOf (P.zip vs) m x=aa v
 |[],_,_,_,_,h,_,_=>by simp at h
 |_::_,[],_,_,_,_,h,_=>by simp at h
 |p::P,w::vs,0,m,nd,h1,h2,hk=>by
  simp at h1 h2;subst h1;subst h2;show bindC kindOf ((p,w)::P.zip vs) m p=_;unfold bindC;rw[TM λv hv=>(gZ.1 nd).1 (wB hv).1,if_neg hk]
  simp
 |p::P,w::vs,i+1,m,nd,h1,h2,hk=>by
  show bindC kindOf ((p,w)::P.zip vs) m x=_;unfold bindC;exact SY (i:=i) (gZ.1 nd).2 (by simpa using h1) (by simpa using h2) hk
def start (N:aan)(vs:aag):St:=vs.map aa++oD (N.length-vs.length) ab
noncomputable def mL (CX:m8)(P:bW)(w:bG)(K:aM)(mg:aD->aao)(base:aY)(N:aan)(qual:aD)(scope:gY)(f:aC)(cd:aF)(A:cP)(outer:List fE)(s:aK)(H:Hp)(E:XK):Cx where
 prog:=P
 w:=w
 K:=K
 mg:=mg
 base:=base
 A:=A.deeper (envOfC qual scope s.heap.objs.size f cd)
 N:=N
 s₀:=s
 H₀:=H
 env:=envOfC qual scope s.heap.objs.size f cd
 outer:=outer
 stack:=envOfC qual scope s.heap.objs.size f cd::outer
 ex:=[]
 calm:=af
 fn:=λ_=>af
 pn:=[]
 xe:=λe s'=>aP (aW P w) (A.deeper (envOfC qual scope s.heap.objs.size f cd)) (leaving (envOfC qual scope s.heap.objs.size f cd) e) (λ_ ti=>CX outer H s E e ti) (λe' ti=>CX outer H s E e' ti) s'
theorem PX {sc:gY}{n:Nat}(h:sc.names.lookup x=aa .cell):∃ c,(jC n sc.names []).lookup x=aa c:=by
 have q:=PySem.W.cellsFrom_some sc.names n [] (.inl h);exact pS.1 q
theorem Oq {CX:m8}{P:bW}{w:bG}{N:aan}{qual:aD}{scope:gY}{f:aC}{cd:aF}{outer:List fE}{s1:aK}{H:Hp}{E:XK}{vs:aag}
  (S:FnScope N ps scope) (hd:A.handled=ab) (e0:Env0 P w K mg base A outer s H) (hl:vs.length=ps.length) (r:Vals vs us)
  (x:InCallC s s.heap.objs.size (bindL (envOfC qual scope s.heap.objs.size f cd).kindOf (ps.zip us) λ_=>ab) (jC (s.heap.objs.size+1) scope.names []) (bindC (envOfC qual scope s.heap.objs.size f cd).kindOf (ps.zip us) λ_=>ab) s1) :
  Inv (mL CX P w K mg base N qual scope f cd A outer s H E) [] (start N vs) H s1:=by
 have im:ps.length<=N.length:=by have:=congrArg List.length S.pre;rw[EK] at this;lia
 obtain⟨h1,tk,rfl,hk⟩:=x.done;have tj:∀ b:aC,b∉(mL CX P w K mg base N qual scope f cd A outer s H E).ex:=λb z=>absurd (show b∈([]:aaj) from z) (by simp)
 refine⟨⟨e0.mod,S.kind,rfl,rfl,bS _,λy z c h1 h2=>?_,λy hy=>?_,λy c _ h=>?_,λ_=>hd,Around.frames_deeper e0.frames,.inr ⟨rfl,rfl⟩,λb z=>absurd z (tj b),e0.bs,e0.bsz,λb _ _=>tj b,λb z=>absurd z (tj b),e0.funs,e0.frf⟩,
  rfl,e0.bare,Un.kept hk,⟨_,x.toInCall.ns,λi y v h1 h2 h3=>?_⟩,λy c h=>⟨_,x.cell y c h⟩,e0.hok.fresh (bS _),λy c h=>?_,λp hp=>absurd (show p∈([]:dl) from hp) (by simp),e0.hok.kept hk,?_⟩
 .exact name_of_addr x.apart (vV h1) (vV h2)
 .have hy:scope.names.lookup y=aa .cell\/scope.names.lookup y=aa .free:=hy;rcases hy with hy|hy
  .exact PX hy
  .exact absurd rfl (S.nofree _ (vV hy))
 .exact EG (x.above y c (vV h))
 .have hi:i<vs.length:=by
   unfold start at h2;by_cases hi:i<vs.length
   all_goals grind
  have ha:vs[i]?=aa v:=by
   unfold start at h2
   grind
  obtain⟨u,hu,rv⟩:=r.get ha;have hp:ps[i]?=aa y:=by
   rw[<-S.pre,List.getElem?_take_of_lt ()];exact h1
  have A3:ps.Nodup:=by rw[<-S.pre];exact S.nd.sublist (List.take_sublist _ _)
  refine⟨u,rv,?_⟩;rcases S.par y (jE hp) with k|k
  .exact .inl ⟨k,TX A3 hp hu k⟩
  .obtain⟨c,e⟩:=PX (n:=s.heap.objs.size+1) k;refine .inr ⟨.inl k,c,e,?_⟩;have q:=x.cell y c e;rw[SY A3 hp hu (by show scope.names.lookup y≠_;rw[k];decide)] at q
   exact q
 .exact e0.hok.fresh (EG (x.above y c (vV h)))
 .unfold start;show _=N.length;rw[wC,fA,List.length_replicate]
  lia
theorem Fv {CX:m8}{P:bW}{w:bG}{f:aC}{name qual:aD}{params:Arguments}{scope:gY}{dV kV ji pm cc ct oc:aF}{an od:Option aC}
  {o9:Array aao} {N ps:aan} {sp:Sp} (lk:K.lookup f=aa ⟨oc,od,.func (vW name qual params body scope dV kV ji pm an cc ct),o9⟩) (lr:LR K cc qual=af) (S:FnScope N ps scope)
  (len:∀ vs H Q E,sp vs H Q E->vs.length=ps.length)
  (lu:∀ (A:cP) (outer:List fE) (s:aK) (H:Hp) (vs:aag) (Q:VK) (E:XK),Room k (A.deeper (envOfC qual scope s.heap.objs.size f cc))->sp vs H Q E ->
   ∃ t,PSs (mL CX P w K mg base N qual scope f cc A outer s H E) body t/\t { nx:=λ_ H'=>Q .non H',rt:=Q } (start N vs) H) :
  FnOk P w K mg base CX (k+1) f (vW name qual params body scope dV kV ji pm an cc ct) ps sp:=by
 refine⟨len,λA outer s H args us vs Q E hr e0 hb r pd=>?_⟩
 have hl:=len _ _ _ _ pd;have KX:K.In s.heap:=e0.mod.kin.keeps λb o e=>(e0.bs b o e).1
 have G4:s.heap.NoLimit:=e0.mod.nolimit.keeps λb o e=>(e0.bs b o e).1
 have lv:∀ y∈ps.zip us,scope.names.lookup y.1=aa .local\/(scope.names.lookup y.1=aa .cell/\((jC (s.heap.objs.size+1) scope.names []).lookup y.1).isSome=af):=λ⟨n,v⟩ hy=>by
  rcases S.par n (wB hy).1 with q|q
  .exact .inl q
  .exact .inr ⟨q,PySem.W.cellsFrom_some _ _ _ (.inl q)⟩
 refine codeAny_call_function hr.depth (KX _ _ lk) rfl S.co S.gen rfl (PySem.W.codeRec_of KX lr) (hb _ _ _ _ ?_);refine wpAny_newFunctionEnv_cells S.kind lv λenv he s1 x=>?_
 subst he;refine⟨G4.keeps x.toInCall.keep,codeAny_func ?_⟩;obtain⟨t,ht,hq⟩:=lu A outer s H vs Q E (hr.deeper _) pd;have I:Inv (mL CX P w K mg base N qual scope f cc A outer s H E) [] (start N vs) H s1:=Oq S hr.hd e0 hl r x;refine lP (ht [] s1 (start N vs) H _ I hq) (λfl s' hs=>?_) λe s' hs=>hs
 have fin:∀ {σ':St} {H':Hp} {v:V} {u:aF},Inv (mL CX P w K mg base N qual scope f cc A outer s H E) [] σ' H' s'->RelV v u->Q v H'->CE outer P w H s Q u s':=
  λ{σ' H' v u} J rv q=>⟨v,H',J.os,J.bare,J.base,J.hok,rv,q⟩
 cases fl with
 |ret u=>
  obtain⟨v,σ',H',J,rv,q⟩:=hs;exact fin J rv q
 |next=>
  obtain⟨σ',H',J,q⟩:=hs;exact fin (v:=V.non) (u:=gS) J rfl q
 |brk=>
  obtain⟨_,_,_,q⟩:=hs;exact pY q
 |cont=>
  obtain⟨_,_,_,q⟩:=hs;exact pY q
section
variable {X:Cx}{t:TA}{id T:String}{r:aag->Hp->VK->Prop}
def F7 (r:aag->Hp->VK->Prop)(t:TA):TE:=λσ H Q=>t σ H λvs H1=>r vs H1 Q
theorem QJ (hc:Adn X (.builtin id) r)(hg:Gl X x)(hm:X.mg x=ab)(hv:nA x=aa (.builtin id))(ha:PA X (e::es) t)(hn:x ≠ "__name__":=by decide)(jq:(x==("__debug__" : aD))=ag:=by decide)
  (he:bM (e::es) X.env=(ag,cA e X.env)::bM es X.env:=by rfl) (im:(iT pos (bM es X.env)).any (·.1)=ag:=by rfl):PE X (.Call (.Name x p) (e::es) [] pos) (F7 r t):=by
 rw[5];refine Bo (pE I hg hm hv ?_ hn jq);exact PyProof.Rows.callWith_builtin1 (bb (ha pos ac s σ H _ I h) λus s1 ⟨vs,H1,I1,r1,q1⟩=>hc ac s1 σ H1 vs us Q I1 r1 q1) he im
theorem CL (hc:Adn X (.type T) r)(hg:Gl X x)(hm:X.mg x=ab)(hv:nA x=aa (.type T))(ha:PA X (e::es) t)(hn:x ≠ "__name__":=by decide)(jq:(x==("__debug__" : aD))=ag:=by decide)
  (he:bM (e::es) X.env=(ag,cA e X.env)::bM es X.env:=by rfl) (im:(iT pos (bM es X.env)).any (·.1)=ag:=by rfl):PE X (.Call (.Name x p) (e::es) [] pos) (F7 r t):=by
 rw[5];refine Bo (pE I hg hm hv ?_ hn jq);exact vX (bb (ha pos ac s σ H _ I h) λus s1 ⟨vs,H1,I1,r1,q1⟩=>hc ac s1 σ H1 vs us Q I1 r1 q1) he im
end
section
variable {κ:Type}[DecidableEq κ]
def eX (kvs:List (κ×V))(k:κ):Option V:=(kvs.find? λkv=>decide (kv.1=k)).map (·.2)
noncomputable def putK (kvs:List (κ×V))(k:κ)(v:V):List (κ×V):=
 if (kvs.any λkv=>decide (kv.1=k))=af then kvs.map (λkv=>if kv.1=k then(kv.1,v) else kv) else kvs++[(k,v)]
theorem lM {p:κ×V}{r:List (κ×V)}{k:κ}(e:p.1=k):eX (p::r) k=aa p.2:=by simp[eX,gF,e]
theorem kS {p:κ×V}{r:List (κ×V)}{k:κ}(e:¬ p.1=k):eX (p::r) k=eX r k:=by simp[eX,gF,e]
theorem vE (k:κ):∀ kvs:List (κ×V),(kvs.any λkv=>decide (kv.1=k))=(eX kvs k).isSome
 |[]=>rfl
 |p::r=>by
  rw[ER];by_cases e:p.1=k
  .simp only[lM e,decide_eq_true e,Bool.true_or,Option.isSome_some]
  .rw[kS e,decide_eq_false e,Bool.false_or];exact vE k r
theorem RA (k j:κ)(y:V):∀ kvs:List (κ×V),eX (kvs.map λkv=>if kv.1=k then(kv.1,y) else kv) j=(eX kvs j).map λx=>if j=k then y else x
 |[]=>rfl
 |p::r=>by
  have ih:=RA k j y r;rw[dF];by_cases h:p.1=k
  .rw[if_pos h];by_cases e:p.1=j
   .rw[lM (p:=(p.1,y)) e,lM e,vY,if_pos (e.symm.trans h)]
   .rw[kS (p:=(p.1,y)) e,kS e,ih]
  .rw[if_neg h];by_cases e:p.1=j
   .rw[lM (p:=p) e,lM e,vY,if_neg (λz=>h (e.trans z))]
   .rw[kS (p:=p) e,kS e,ih]
theorem SL (k j:κ)(y:V):∀ kvs:List (κ×V),eX kvs k=ab->eX (kvs++[(k,y)]) j=if j=k then aa y else eX kvs j
 |[],_=>by
  by_cases e:k=j
  .rw[if_pos e.symm];exact lM (p:=(k,y)) e
  .rw[if_neg (λz=>e z.symm)];exact kS (p:=(k,y)) e
 |p::r,hn=>by
  rw[AA];have hk:¬ p.1=k:=λz=>by rw[lM z] at hn;cases hn
  rw[kS hk] at hn;have ih:=SL k j y r hn;by_cases e:p.1=j
  .rw[lM e,lM e,if_neg (λz=>hk (e.trans z))]
  .rw[kS e,kS e,ih]
theorem Wh (kvs:List (κ×V))(k j:κ)(y:V):eX (putK kvs k y) j=if j=k then aa y else eX kvs j:=by
 unfold putK;by_cases a:(kvs.any λkv=>decide (kv.1=k))=af
 .rw[if_pos a,RA];rw[vE] at a;by_cases e:j=k
  .obtain⟨x,hx⟩:=pS.1 a
   grind
  .rw[if_neg e];cases eX kvs j with
   |none=>rfl
   |some x=>rw[vY,if_neg e]
 .rw[if_neg a];refine SL k j y kvs ?_;rw[vE] at a;cases q:eX kvs k with
  |none=>rfl
  |some x=>rw[q] at a;exact(a rfl).elim
theorem yT (kvs:List (κ×V))(k:κ)(v:V):(putK kvs k v).length<=kvs.length+1:=by
 unfold putK
 grind
theorem Asf.isSome_eq {o:Option V}{u:aao}(r:Asf o u):o.isSome=u.isSome:=by
 cases o with
 |none=>cases u with
  |none=>rfl
  |some _=>exact(show False from r).elim
 |some _=>cases u with
  |none=>exact(show False from r).elim
  |some _=>rfl
theorem Asf.getD {o:Option V}{u:aao}{d:V}{d':aF}(r:Asf o u)(rd:RelV d d'):RelV (o.getD d) (u.getD d'):=by
 cases o with
 |none=>cases u with
  |none=>exact rd
  |some _=>exact(show False from r).elim
 |some _=>cases u with
  |none=>exact(show False from r).elim
  |some _=>exact r
theorem KV.val {kvs:List (κ×V)}{vs:List (κ×aF)}(r:KV kvs vs)(k:κ):Asf (eX kvs k) (vO vs k):=by
 unfold KV at r;induction r with
 |nil=>exact mD
 |@cons p q ps qs h t ih=>
  obtain⟨h1,h2⟩:=h;by_cases e:p.1=k
  .have e':q.1=k:=h1.symm.trans e;have b:vO (q::qs) k=aa q.2:=by simp[vO,gF,e']
   rw[lM e,b];exact h2
  .have e':¬ q.1=k:=λz=>e (h1.trans z)
   have b:vO (q::qs) k=vO qs k:=by simp[vO,gF,e']
   rw[kS e,b];exact ih
theorem KV.any {kvs:List (κ×V)}{vs:List (κ×aF)}(r:KV kvs vs)(k:κ):(kvs.any λkv=>decide (kv.1=k))=vs.any λkv=>decide (kv.1=k):=by
 unfold KV at r;induction r with
 |nil=>rfl
 |cons h t ih=>rw[ER,ER,ih,h.1]
theorem KV.repl {kvs:List (κ×V)}{vs:List (κ×aF)}(r:KV kvs vs)(k:κ){y:V}(ry:RelV y u) :
  KV (kvs.map λkv=>if kv.1=k then(kv.1,y) else kv) (vs.map λkv=>if kv.1=k then(kv.1,u) else kv):=by
 unfold KV at r ⊢;induction r with
 |nil=>exact .nil
 |@cons p q ps qs h t ih=>
  rw[dF,dF];refine .cons ?_ ih
  grind
theorem KV.put {kvs:List (κ×V)}{vs:List (κ×aF)}(r:KV kvs vs)(k:κ){y:V}(ry:RelV y u):KV (putK kvs k y) (rL vs k u):=by
 unfold putK rL;rw[r.any k];by_cases e:(vs.any λkv=>decide (kv.1=k))=af
 .rw[if_pos e,if_pos e];exact r.repl k ry
 .rw[if_neg e,if_neg e];exact Paired.snoc r ⟨rfl,ry⟩
theorem KV.length {kvs:List (κ×V)}{vs:List (κ×aF)}(r:KV kvs vs):kvs.length=vs.length:=oC r
end
theorem lW {P:bW}{w:bG}{k:aG}(r:RelV (kV k) u):(fD P w).is k u=af:=by
 cases k with
 |inl i=>obtain⟨t,e⟩:=(show ∃ t,u=DZ i t from r);subst e;exact JV P w i t
 |inr x=>obtain⟨t,e⟩:=(show ∃ t,u=Value.str x t from r);subst e;exact JP P w x t
abbrev KT (H:Hp):ce->List (List aA×aC×aF)->Prop:=gJ λp q=>p.1=q.1/\Apc H p.1 q.2.1/\RelV p.2 q.2.2
theorem KT.val {H:Hp}{kvs:ce}(r:KT H kvs xs)(k:aae):Asf (eX kvs k) ((atKey xs k).map (·.2)):=by
 induction r with
 |nil=>exact mD
 |@cons p q ps qs h t ih=>
  obtain⟨h1,_,h2⟩:=h;by_cases e:p.1=k
  .have e':q.1=k:=h1.symm.trans e;have b:atKey (q::qs) k=aa q.2:=by simp[atKey,gF,e']
   rw[lM e,b];exact h2
  .have e':¬ q.1=k:=λz=>e (h1.trans z)
   have b:atKey (q::qs) k=atKey qs k:=by simp[atKey,gF,e']
   rw[kS e,b];exact ih
theorem KT.repl {H:Hp}{kvs:ce}(r:KT H kvs xs)(k:aae){y:V}(ry:RelV y u) :
  KT H (kvs.map λkv=>if kv.1=k then(kv.1,y) else kv) (xs.map (putAt k u)):=by
 induction r with
 |nil=>exact .nil
 |@cons p q ps qs h t ih=>
  rw[dF,dF];refine .cons ?_ ih;obtain⟨h1,h2,h3⟩:=h;unfold putAt
  grind
theorem KT.put {H:Hp}{kvs:ce}(r:KT H kvs xs)(k:aae){y:V}(hb:Apc H k b)(ry:RelV y u) :
  KT H (putK kvs k y) (storedH xs k b u):=by
 have e:(kvs.any λkv=>decide (kv.1=k))=(atKey xs k).isSome:=by
  rw[vE,(r.val k).isSome_eq,LX]
 unfold putK storedH;rw[e];by_cases q:(atKey xs k).isSome=af
 .rw[if_pos q,if_pos q];exact r.repl k ry
 .rw[if_neg q,if_neg q];exact Paired.snoc r ⟨rfl,hb,ry⟩
theorem KT.keeps {H H':Hp}{kvs:ce}(r:KT H kvs xs)(ht:∀ b ys,H b=aa (.tup ys)->H' b=aa (.tup ys)):KT H' kvs xs:=
 Paired.mapP r λ_ _ z=>⟨z.1,z.2.1.keep ht,z.2.2⟩
section
variable {P:bW}{w:bG}{H:Hp}
theorem OK {u:HO}(ok:HOk P w H h)(e:Rd H a u):Ac5 P w H h a u:=e.ok ok
theorem Gd{kvs:bm}(ok:HOk P w H h)(e:Rd H a (.dK ep kvs)):kvs.length<=sizeLine/\(a==iD)=ag/\∃ vs,KV kvs vs/\h.DictAt (fD P w) a vs ep:=
 show Ac5 P w H h a (.dK ep kvs) from OK ok e
theorem oX{kvs:bm}(ok:HOk P w H h)(e:Rd H a (.dK ep kvs)):kvs.length<=sizeLine/\(a==iD)=ag/\∃ vs,KV kvs vs/\h.DictOf (fD P w) a vs:=
 let ⟨z,y,vs,r,d⟩:=Gd ok e;⟨z,y,vs,r,d.dictOf⟩
theorem uJ{kvs:bm}(ok:HOk P w H h)(e:H a=aa (.dK ep kvs)):kvs.length<=sizeLine/\(a==iD)=ag/\∃ vs,KV kvs vs/\h.DictOf (fD P w) a vs:=oX ok (.inl e)
theorem yZ {P:bW}{w:bG}(hu:A.units+40<cLine):(qW P w).room A.in1:=by
 show A.in1.units+20<cLine
 grind
mutual
theorem UK (ok:HOk P w H h):∀ (d:aA) {v:V} {u:aF},Ah2 H d v->RelV v u->∃ as,pQ h u d as
 |.int i,v,u,k,r=>by
  have e:v=.int i:=by simpa [Ah2] using k
  subst e;obtain⟨t,rfl⟩:=r;exact⟨_,.int i t⟩
 |.str x,v,u,k,r=>by
  have e:v=.str x:=by simpa [Ah2] using k
  subst e;obtain⟨t,rfl⟩:=r;exact⟨_,.str x t⟩
 |.tuple ds,v,u,k,r=>by
  simp only[Ah2] at k;obtain⟨a,xs,rfl,e,ks⟩:=k;cases r;obtain⟨_,its,rv,⟨o,h1,h2,n,h3⟩,_⟩:=(show Ac5 P w H h a (.tup xs) from ok a _ e)
  obtain⟨as,ra⟩:=UV ok ds ks rv;exact⟨as,.tuple h1 h2 h3 (by simpa using ra)⟩
 |.none,v,u,k,r=>by simp[Ah2] at k
 |.bool _,v,u,k,r=>by simp[Ah2] at k
 |.list _,v,u,k,r=>by simp[Ah2] at k
 |.dict _,v,u,k,r=>by simp[Ah2] at k
theorem UV (ok:HOk P w H h):∀ (ds:aae) {vs:aag} {us:aal},Aej H ds vs->Vals vs us->∃ as,pP h us ds as
 |[],vs,us,k,r=>by
  have e:vs=[]:=by simpa [Aej] using k
  subst e;cases r;exact⟨_,.nil⟩
 |d::ds,vs,us,k,r=>by
  simp only[Aej] at k;obtain⟨x,rr,rfl,k1,k2⟩:=k;cases r with
  |cons r1 r2=>
   obtain⟨as,ra⟩:=UK ok d k1 r1;obtain⟨bs,rb⟩:=UV ok ds k2 r2;exact⟨_,.cons ra rb⟩
end
theorem sR(ok:HOk P w H h)(e:Apc H ks a):(qW P w).is h ks a:=by
 obtain⟨k1,k2,xs,e,jy⟩:=e;refine⟨k1,k2,?_⟩;exact UK ok (.tuple ks) (v:=.ref a) (u:=.ref a) (by simp only[Ah2];exact⟨a,xs,rfl,e,jy⟩) rfl
theorem sH {kvs:ce}(ok:HOk P w H h)(e:∃ ep,Rd H a (.dT ep kvs)):kvs.length<=sizeLine/\(a==iD)=ag /\
  ∃ xs,KT H kvs xs/\h.DictOfH (qW P w) a xs:=by
 obtain⟨ep,e⟩:=e;obtain⟨z,y,xs,r,o,es,h1,h2,h3,h4,h5⟩:=(show Ac5 P w H h a (.dT ep kvs) from OK ok e)
 refine⟨z,y,xs,r,o,es,ep,h1,h2,h3,h4,λx hx=>?_,h5⟩
 have all:∀ {l:ce} {m:List (List aA×aC×aF)},KT H l m->∀ x∈m,(qW P w).is h x.1 x.2.1:=by
  intro l m q;induction q with
  |nil=>intro x hx;exact nomatch hx
  |@cons p q ps qs hq t ih=>
   intro x hx;rcases dJ.1 hx with e|hx
   .subst e;exact sR ok (by rw[<-hq.1];exact hq.2.1)
   .exact ih x hx
 exact all r x hx
theorem Fc{kvs:ce}(ok:HOk P w H h)(e:H a=aa (.dT ep kvs)):kvs.length<=sizeLine/\(a==iD)=ag /\
  ∃ xs,KT H kvs xs/\h.DictOfH (qW P w) a xs:=sH ok ⟨ep,.inl e⟩
end
def rE (H:Hp)(a:aC)(y:V)(r:Option V):Prop:=
 (∃ ep kvs k,Rd H a (.dK ep kvs)/\y=kV k/\r=eX kvs k)\/∃ kvs k b,(∃ ep,Rd H a (.dT ep kvs))/\y=.ref b/\Apc H k b/\r=eX kvs k
def NG (H:Hp)(a:aC)(y v:V)(H':Nat->Hp):Prop:=
 (∃ ep kvs k,H a=aa (.dK ep kvs)/\y=kV k/\kvs.length<sizeLine/\H'=λn=>upd H a (.dK n (putK kvs k v))) \/
 ∃ kvs k b,(∃ ep,H a=aa (.dT ep kvs))/\y=.ref b/\Apc H k b/\kvs.length<sizeLine/\H'=λn=>upd H a (.dT n (putK kvs k v))
section
variable {X:Cx}{σ:St}{H:Hp}{y v:V}{r:aF}{o:Option V}
theorem Inv.big (I:Inv X ac σ H s):iD<s.heap.objs.size:=by
 have h:iS<s.heap.objs.size:=(I.mod.glob.keeps I.bk).lt;exact Nat.lt_trans nofun h
theorem Zr(hu:A.units+40<cLine)(I:Inv X ac σ H s)(g:rE H a y (aa v))(ry:RelV y u)(h:∀ w' s',Inv X ac σ H s'->RelV v w'->Q w' s') :
  aP (aW X.prog X.w) A (pM (.ref a) u) Q E s:=by
 rcases g with⟨ep,kvs,k,e,ey,l⟩|⟨kvs,k,b,e,ey,eb,l⟩
 .subst ey;obtain⟨z,hd,vs,cr,dd⟩:=oX I.hok e;obtain⟨w',hw,i3⟩:=Asf.some_of (v:=v) (o:=vO vs k) (by rw[l];exact cr.val k)
  exact wpAny_getItem_of (lW ry) dd.mapOf hw (h w' _ (I.tok _) i3)
 .subst ey;cases(show u=gN b from ry)
  obtain⟨z,hd,xs,cr,dd⟩:=sH I.hok e;obtain⟨w',hw,i3⟩:=Asf.some_of (v:=v) (o:=(atKey xs k).map (·.2)) (by rw[l];exact cr.val k)
  obtain⟨p,hp,G5⟩:=iE.1 hw;refine wpAny_getItem_heap (yZ hu) (sR I.hok eb) dd hp ?_;rw[G5];exact h w' _ (I.tok _) i3
theorem Ee(hu:A.units+40<cLine)(I:Inv X ac σ H s)(g:rE H a y o)(ry:RelV y u)(h:∀ s',Inv X ac σ H s'->Q (.bool o.isSome) s') :
  aP (aW X.prog X.w) A (gR .In u (.ref a)) Q E s:=by
 rcases g with⟨ep,kvs,k,e,ey,l⟩|⟨kvs,k,b,e,ey,eb,l⟩
 .subst ey;obtain⟨z,hd,vs,cr,dd⟩:=oX I.hok e;refine wpAny_in_of (lW ry) hd dd.mapOf ?_;rw[<-(cr.val k).isSome_eq,<-l];exact h _ (I.tok _)
 .subst ey;cases(show u=gN b from ry)
  obtain⟨z,hd,xs,cr,dd⟩:=sH I.hok e;refine wpAny_in_heap (yZ hu) (sR I.hok eb) hd dd ?_;have q:=(cr.val k).isSome_eq;rw[LX] at q;rw[<-q,<-l];exact h _ (I.tok _)
theorem Kg(hu:A.units+40<cLine)(I:Inv X ac σ H s)(g:rE H a y o)(ry:RelV y u)(h:∀ s',Inv X ac σ H s'->Q (.bool (!o.isSome)) s') :
  aP (aW X.prog X.w) A (gR .NotIn u (.ref a)) Q E s:=by
 rcases g with⟨ep,kvs,k,e,ey,l⟩|⟨kvs,k,b,e,ey,eb,l⟩
 .subst ey;obtain⟨z,hd,vs,cr,dd⟩:=oX I.hok e;refine wpAny_notIn_of (lW ry) hd dd.mapOf ?_;rw[<-(cr.val k).isSome_eq,<-l];exact h _ (I.tok _)
 .subst ey;cases(show u=gN b from ry)
  obtain⟨z,hd,xs,cr,dd⟩:=sH I.hok e;refine wpAny_notIn_heap (yZ hu) (sR I.hok eb) hd dd ?_;have q:=(cr.val k).isSome_eq;rw[LX] at q;rw[<-q,<-l];exact h _ (I.tok _)
theorem vB{ob:HO}(I:Inv X ac σ H s)(mu:wL (H a))(hs:wJ a s.heap h')(he:∃ q,h'.get? a=aa q)(new:Ac5 X.prog X.w (upd H a ob) h' a ob) :
  Inv X ac σ (upd H a ob) { s with heap:=h',toks:=t' }:=
 I.write (x:=a) (e:=a) mu (.inl rfl) (λb q hb z=>(hs.2 b hb).trans z) he new
theorem qL {P:bW}{w:bG}{H':Hp}{kvs:bm}{vs:aab}(z:kvs.length<=sizeLine)(hd:(a==iD)=ag)(cr:KV kvs vs)(dd:h'.DictAt (fD P w) a vs ep) :
  Ac5 P w H' h' a (.dK ep kvs):=⟨z,hd,vs,cr,dd⟩
theorem Yr {H':Nat->Hp}{Q:Unit->aK->Prop}(hu:A.units+40<cLine)(I:Inv X ac σ H s)(g:NG H a y v H')(ry:RelV y u)(rv:RelV v r)(h:∀ n s',Inv X ac σ (H' n) s'->Q Unit.unit s') :
  aP (aW X.prog X.w) A (setItem (.ref a) u r) Q E s:=by
 rcases g with⟨ep,kvs,k,e,ey,l,eH⟩|⟨kvs,k,b,e,ey,eb,l,eH⟩
 .subst ey eH;obtain⟨z,hd,vs,cr,dd⟩:=uJ I.hok e;have hz:vs.length<=sizeLine:=by rw[<-cr.length];exact z
  have hl:(putK kvs k v).length<=sizeLine:=by have:=yT kvs k v;lia
  refine wpAny_setItem_pairs (hsz:=hz) (lW ry) dd λh' j6 hs=>?_
  have he:∃ q,h'.get? a=aa q:=let ⟨q,_,_,hq,_⟩:=j6;⟨q,hq⟩;obtain⟨n,da⟩:=j6.dictAt;exact h n _ (vB I (by rw[e];exact mD) hs he (qL hl hd (cr.put k rv) da))
 .subst ey eH;cases(show u=gN b from ry)
  obtain⟨ep0,e⟩:=e;obtain⟨z,hd,xs,cr,dd⟩:=Fc I.hok e;have hz:xs.length<=sizeLine:=by rw[<-oC cr];exact z
  have hl:(putK kvs k v).length<=sizeLine:=by have:=yT kvs k v;lia
  refine wpAny_setItem_heap (hsz:=hz) (yZ hu) (sR I.hok eb) dd λh' j6 hs=>?_
  obtain⟨q,es,ep,hq,h2,h3,h4,_,h5⟩:=j6;refine h ep _ ?_;refine vB I (by rw[e];exact mD) hs ⟨q,hq⟩ ⟨hl,hd,_,(cr.put k eb rv).keeps λc ys ec=>?_,q,es,hq,h2,h3,h4,h5⟩
  rw[dY (Ff ec e (λz=>nomatch z))]
  exact ec
end
section
variable {X:Cx}{σ:St}{H:Hp}{kvs:bm}{k:aG}
theorem Fm(I:Inv X ac σ H s)(e:Rd H a (.dK ep kvs))(h:∀ t s',Inv X ac σ H s'->Q (.int kvs.length t) s'):aP (aW X.prog X.w) A (call (.builtin "len") [.ref a]) Q E s:=by
 obtain⟨z,hd,vs,cr,dd⟩:=oX I.hok e;refine call_len_dict hd dd (by rw[<-cr.length];rw[pL] at z;lia) ?_
 rw[<-cr.length];exact h _ _ (I.tok _)
end
def FC (i:aS):Prop:=∀ ov iv,LG i ag ov iv=operate [ov,iv] (pM ov iv)
theorem PD{w:bG}{env:fE}{value dy:aS}{T id:String}
  (hl:vP (.type T) "__getitem__" = pure (aa (.builtin id))) (hs:FC dy)
  (h:aP (aW prog w) A (cA value env) (λo s₁=>aP (aW prog w) A (cA dy env) (λi s₂=>s₂.TypeIs o T/\aP (aW prog w) A (pM o i) Q E s₂) E s₁) E s) :
  aP (aW prog w) A (cA (.Subscript value dy pos) env) Q E s:=by
 refine Subscript_ (lP h (λo s₁ h₁=>lP h₁ (λi s₂ h₂=>?_) λ_ _ x=>x) λ_ _ x=>x)
 obtain⟨hT,h₂⟩:=h₂;unfold subscriptTail;refine aI ?_;rw[getitemInPython_of_ne hT.not_modules];refine aI (DU hT hl ?_);have fin:aP (aW prog w) A (LG dy ag o i) (λr s₃=>aP (aW prog w) A (letTemporaryGo value o r>>=λ_=>pure r) Q E s₃) E s₂:=by
  rw[hs o i];exact wpAny_operating (lP h₂ (λr s₃ h₃=>aI (wpAny_letTemporaryGo (aZ h₃))) λ_ _ x=>x)
 first
  |exact aZ (aI fin)
  |exact aI (aZ (aI fin))
  |exact aI fin
theorem Sq {X:Cx}{σ:St}{H:Hp}{y:V}{o:Option V}(I:Inv X ac σ H s)(g:rE H a y o):s.TypeIs (.ref a) "dict":=by
 rcases g with⟨ep,kvs,k,e,_,_⟩|⟨kvs,k,b,e,_,_,_⟩
 .obtain⟨_,_,vs,_,dd⟩:=oX I.hok e;exact dd.typeIs
 .obtain⟨_,_,xs,_,dd⟩:=sH I.hok e;exact dd.typeIs
def Ep (td ty:TE):TE:=λσ H Q=>td σ H λx H1=>ty σ H1 λy H2=>∃ a v,x=.ref a/\rE H2 a y (aa v)/\Q v H2
def Fd (td ty tv:TE):TS:=λD σ H=>tv σ H λv H1=>td σ H1 λx H2=>ty σ H2 λy H3=>∃ a H4,x=.ref a/\NG H3 a y v H4/\∀ n,D.nx σ (H4 n)
section
variable {X:Cx}{o i value:aS}{jp j7:bH}{td ty tv:TE}
theorem Kd (hu:X.A.units+40<cLine)(ho:PE X o td)(hi:PE X i ty)(hs:FC i):PE X (.Subscript o i pos) (Ep td ty):=by
 rw[5];refine PD b8.lookup hs (bb (ho ac s σ H _ I h) λu s1 ⟨x,H1,I1,rx,q1⟩=>bb (hi ac s1 σ H1 _ I1 q1) λiv s2 gh=>?_)
 obtain⟨y,H2,I2,ry,a,v,ex,g,q2⟩:=gh;subst ex;obtain rfl:u=gN a:=rx;exact⟨Sq I2 g,Zr hu I2 g ry λw' s3 I3 i3=>⟨v,H2,I3,i3,q2⟩⟩
theorem HK (hu:X.A.units+40<cLine)(ho:PE X o td)(hi:PE X i ty)(hv:PE X value tv)(hs:kI value (aa (.Subscript o i jp)) pos.line X.env=pure ag) :
  PS X (.Assign [.Subscript o i jp] value pos) (Fd td ty tv):=by
 intro ac s σ H D I h;refine wpAny_Assign_Subscript (bb (hv ac s σ H _ I h) λr s1 ⟨v,H1,I1,rv,q1⟩=>bb (ho ac s1 σ H1 _ I1 q1) λu s2 ⟨x,H2,I2,rx,q2⟩=>bb (hi ac s2 σ H2 _ I2 q2) λiv s3 ⟨y,H3,I3,ry,a,H4,ex,g,q3⟩=>?_) hs
 subst ex;obtain rfl:u=gN a:=rx;exact Yr hu I3 g ry rv λn s4 I4=>⟨σ,H4 n,I4,q3 n⟩
end
theorem SD {P:bW}{w:bG}{H:Hp}(h:aY)(hb:iD<h.objs.size):Ac5 P w H (h.push { cls:=.type "dict",data:=.dict #[] }) h.objs.size (.dK 0 []):=
 ⟨fY _,beq_eq_false_iff_ne.2 (kY (fH hb)),[],.nil,_,#[],dZ _ rfl,⟨rfl,rfl,rfl⟩,rfl,λ_ he=>by simp at he,Pairs.nil,ME⟩
theorem Wa {P:bW}{w:bG}{H:Hp}(h:aY)(hb:iD<h.objs.size):Ac5 P w H (h.push { cls:=.type "dict",data:=.dict #[] }) h.objs.size (.dT 0 []):=
 ⟨fY _,beq_eq_false_iff_ne.2 (kY (fH hb)),[],.nil,_,#[],dZ _ rfl,⟨rfl,rfl,rfl⟩,rfl,rfl,ME⟩
def Gx:TE:=λ_ H Q=>∀ p,H p=ab->Q (.ref p) (upd H p (.dK 0 []))
def Gp:TE:=λ_ H Q=>∀ p,H p=ab->Q (.ref p) (upd H p (.dT 0 []))
section
variable {X:Cx}
theorem RX:PE X (.Dict [] [] pos) Gx:=λac s σ H Q I h=>
 wpAny_Dict_empty ⟨.ref s.heap.objs.size,_,I.laid (a:=s.heap.objs.size) (o:=.dK 0 []) (t':=s.toks) (λ_ _ q=>cF _ q) (bS _) (SD s.heap I.big),rfl,h _ (I.hok.fresh (bS _))⟩
theorem Vy:PE X (.Dict [] [] pos) Gp:=λac s σ H Q I h=>
 wpAny_Dict_empty ⟨.ref s.heap.objs.size,_,I.laid (a:=s.heap.objs.size) (o:=.dT 0 []) (t':=s.toks) (λ_ _ q=>cF _ q) (bS _) (Wa s.heap I.big),rfl,h _ (I.hok.fresh (bS _))⟩
end
def ZN:List (TE×TE)->St->Hp->(ww->Hp->Prop)->Prop
 |[],_,H,Q=>Q [] H
 |(tk,tv)::r,σ,H,Q=>tk σ H λx H1=>tv σ H1 λy H2=>ZN r σ H2 λps H3=>Q ((x,y)::ps) H3
abbrev VV:ww->List (aF×aF)->Prop:=gJ λp q=>RelV p.1 q.1/\RelV p.2 q.2
def zy (X:Cx)(pos:bH)(keys:List (Option aS))(qh:List aS)(vv:List (TE×TE)):Prop:=
 ∀ (ac:dl) (s:aK) (σ:St) (H:Hp) (Q:ww->Hp->Prop),Inv X ac σ H s->ZN vv σ H Q ->
  aP (aW X.prog X.w) X.A (evalPairs (pairTrees keys qh X.env pos)) (λvs s'=>∃ ps H',Inv X ac σ H' s'/\VV ps vs/\Q ps H') X.xe s
theorem Kj {X:Cx}:zy X pos [] [] []:=λac s σ H Q I h=>pairTrees_nil_walk ⟨[],H,I,.nil,h⟩
theorem Vq {X:Cx}{k v:aS}{ks:List (Option aS)}{vs:List aS}{tk tv:TE}{vv:List (TE×TE)}(hk:PE X k tk)(hv:PE X v tv)(hr:zy X pos ks vs vv) :
  zy X pos (aa k::ks) (v::vs) ((tk,tv)::vv):=λac s σ H Q I h=>
 pairTrees_cons_walk (bb (hk ac s σ H _ I h) λu s1 ⟨x,H1,I1,rx,q1⟩=>bb (hv ac s1 σ H1 _ I1 q1) λw2 s2 ⟨y,H2,I2,ry,q2⟩=>
  bb (hr ac s2 σ H2 _ I2 q2) λws s3 ⟨ps,H3,I3,cr,q3⟩=>⟨(x,y)::ps,H3,I3,.cons ⟨rx,ry⟩ cr,q3⟩)
def mO (kvs more:bm):bm:=more.foldl (λaq kv=>putK aq kv.1 kv.2) kvs
theorem KV.merge:∀ {more:bm} {rs:aab} {kvs:bm} {vs:aab},KV more rs->KV kvs vs->KV (mO kvs more) (jB vs rs):=by
 intro more rs kvs vs r;unfold KV at r;induction r generalizing kvs vs with
 |nil=>intro q;exact q
 |@cons p q ps qs h t ih=>
  intro r0;have e:KV (putK kvs p.1 p.2) (rL vs q.1 q.2):=by
   have:=r0.put p.1 h.2;rw[<-h.1];exact this
  exact ih e
theorem CW:∀ (more kvs:bm),(mO kvs more).length<=kvs.length+more.length
 |[],kvs=>by show kvs.length<=kvs.length+0;lia
 |p::r,kvs=>by
  have h1:=CW r (putK kvs p.1 p.2);have h2:=yT kvs p.1 p.2;show(mO (putK kvs p.1 p.2) r).length<=_;rw[fZ];lia
theorem VT {P:bW}{w:bG}:∀ {kvs:bm} {ws:List (aF×aF)},VV (kvs.map λkv=>(kV kv.1,kv.2)) ws->∃ rs,Carries (fD P w) ws rs/\KV kvs rs
 |[],_,r=>by rw[List.map_nil] at r;cases r;exact⟨[],mD,.nil⟩
 |p::kvs,_,r=>by
  rw[dF] at r;cases r with
  |@cons a b as bs h t=>
   obtain⟨rs,c,q⟩:=VT (P:=P) (w:=w) t;obtain⟨b1,b2⟩:=b;exact⟨(p.1,b2)::rs,⟨lW h.1,rfl,c⟩,.cons ⟨rfl,h.2⟩ q⟩
structure M2 (X:Cx)(o:aS)(m:aD)(br:bH)(e f:aS)(ax:bH):Prop where
 base:LO o m X.env (cA o X.env)=cA o X.env
 few:((iT ax (bM [e,f] X.env)).all (λx=>!x.1)&&(backToKw ax (LJ [] X.env)).all (λx=>x.1.isSome)
  && decide (([e,f]:List aS).length+([]:List tW).length+(if ([]:List tW).isEmpty then 0 else 1)<30))=af
 line:(br.endLine==ax.line)=af
 trees:iT ax (bM [e,f] X.env)=[(ag,cA e X.env),(ag,cA f X.env)]
def E9 (H:Hp)(a:aC):Prop:=(∃ ep kvs,Rd H a (.dK ep kvs))\/∃ kvs,∃ ep,Rd H a (.dT ep kvs)
theorem Jy {X:Cx}{σ:St}{H:Hp}(I:Inv X ac σ H s)(d:E9 H a) :
  s.TypeIs (.ref a) "dict" /\ (∀ b,gN a=.ref b->∃ ob,s.heap.get? b=aa ob/\ob.dict=ab)/\(a==iD)=ag:=by
 rcases d with⟨ep,kvs,e⟩|⟨kvs,e⟩
 .obtain⟨_,hd,vs,_,dd⟩:=oX I.hok e;refine⟨dd.typeIs,λb q=>?_,hd⟩
  cases q;obtain⟨ob,_,_,h1,h2,_⟩:=dd;exact⟨ob,h1,h2.2.1⟩
 .obtain⟨_,hd,xs,_,dd⟩:=sH I.hok e;refine⟨dd.typeIs,λb q=>?_,hd⟩
  cases q;obtain⟨ob,_,_,h1,h2,_⟩:=dd;exact⟨ob,h1,h2.2.1⟩
section
variable {X:Cx}{σ:St}{H:Hp}{y d:V}{r:aF}{o:Option V}
theorem Kr(hu:A.units+40<cLine)(I:Inv X ac σ H s)(g:rE H a y o)(ry:RelV y u)(rd:RelV d r)(h:∀ w' s',Inv X ac σ H s'->RelV (o.getD d) w'->Q w' s') :
  aP (aW X.prog X.w) A (call (.builtin "dict.get") [.ref a,u,r]) Q E s:=by
 rcases g with⟨ep,kvs,k,e,ey,l⟩|⟨kvs,k,b,e,ey,eb,l⟩
 .subst ey;obtain⟨z,hd,vs,cr,dd⟩:=oX I.hok e;refine DY Bz dd.typeIs PySem.F.entry_dict_get (b9 _ _ _) (meets_dict_get_default (fD X.prog X.w) a (lW ry) hd r) ⟨_,dd.mapOf,h _ _ (I.tok _) ?_⟩;rw[l];exact(cr.val k).getD rd
 .subst ey;cases(show u=gN b from ry)
  obtain⟨z,hd,xs,cr,dd⟩:=sH I.hok e;refine DY Bz dd.typeIs PySem.F.entry_dict_get (b9 _ _ _) (meetsH_dict_get_default (qW X.prog X.w) a b hd r) ⟨yZ hu,k,xs,sR I.hok eb,dd,h _ _ (I.tok _) ?_⟩;rw[l];exact(cr.val k).getD rd
end
def Hx (td ty tx:TE):TE:=λσ H Q=>td σ H λx H1=>∃ a,x=.ref a/\E9 H1 a/\ty σ H1 λy H2=>tx σ H2 λz H3=>∃ o,rE H3 a y o/\Q (o.getD z) H3
section
variable {X:Cx}{o f:aS}{br ax:bH}{td ty tx:TE}
theorem Xo (hu:X.A.units+40<cLine)(ho:PE X o td)(he:PE X e ty)(hf:PE X f tx)(m:M2 X o "get" br e f ax):PE X (.Call (.Attribute o "get" br) [e,f] [] ax) (Hx td ty tx):=by
 rw[5];refine wpAny_Call_method m.base m.few m.line LU Bz PySem.F.type_dict_get (bb (ho ac s σ H _ I h) λu s1 gh=>?_)
 obtain⟨x,H1,I1,rx,a,ex,d,q1⟩:=gh;subst ex;obtain rfl:u=gN a:=rx;obtain⟨t1,t2,_⟩:=Jy I1 d;refine⟨t1,t2,?_⟩;rw[m.trees];refine Calls.callWith_builtin rfl (Calls.evalArgs_plain (MR (bb (he ac s1 σ H1 _ I1 q1) λiv s2 ⟨y,H2,I2,ry,q2⟩=>
  MR (bb (hf ac s2 σ H2 _ I2 q2) λfv s3 ⟨z,H3,I3,rz,ov,g,q3⟩=>Dd ?_))))
 exact Kr hu I3 g ry rz λw' s4 I4 i3=>⟨_,H3,I4,i3,q3⟩
end
section
variable {X:Cx}{σ:St}{H:Hp}{kvs:bm}
theorem Wp(I:Inv X ac σ H s)(e:Rd H a (.dK ep kvs))(h:∀ p n s',H p=ab->Inv X ac σ (upd H p (.dK n kvs)) s'->Q (.ref p) s'):aP (aW X.prog X.w) A (call (.type "dict") [.ref a]) Q E s:=by
 obtain⟨z,hd,vs,cr,dd⟩:=oX I.hok e;refine kt_call_dict hd dd (by rw[<-cr.length];exact z) λh' j6 hs=>?_
 obtain⟨n,da⟩:=j6.dictAt;refine h _ n _ (I.hok.fresh (bS _)) (I.laid (a:=s.heap.objs.size) (o:=.dK n kvs) (t':=s.toks) (λb q hq=>?_) (bS _) (qL z (beq_eq_false_iff_ne.2 (kY (fH I.big))) cr da))
 exact(hs.2 b (fH (bX hq))).trans (cF _ hq)
end
end L2
namespace HT
open PySem PyProof.Rows
section
variable {prog:bW}{w:bG}{A:cP}{E:aF->aK->Prop}{s:aK}
theorem Bcz {t b:aC}{vs ws:aal}{Q:aF->aK->Prop}(ht:IsTup s.heap t vs.toArray)(hb:IsTup s.heap b ws.toArray)(hv:vs≠[])
  (h1:ws=[]->Q (.ref t) s) (h2:ws≠[]->Q (.ref s.heap.objs.size) { s with heap:=s.heap.push { cls:=.type "tuple",data:=.seq (vs++ws).toArray } })
  (hsz:vs.length+ws.length<=sizeLine):aP (aW prog w) A (kW .Add (.ref t) (.ref b)) Q E s:=by
 obtain⟨⟨cls,dd,data,sl⟩,ho,hc,n,hd⟩:=id ht;obtain⟨⟨tm,ph,data2,rq⟩,nq,j8,n2,f7⟩:=id hb;simp only at hc hd j8 f7;subst hc hd j8 f7;have e:vs.toArray++ws.toArray=(vs++ws).toArray:=by simp
 by_cases hw:ws=[]
 .exact LL ⟨_,ho,rfl⟩ ⟨_,nq,rfl⟩ Bp seq_tuple_add Bx Ca (Cb _ _)
   (tuple_addW1 t b vs.toArray ws.toArray n n2 dd ph sl rq (by simpa using hv) (by simp[hw])) ⟨ho,nq,h1 hw⟩
 .refine LL ⟨_,ho,rfl⟩ ⟨_,nq,rfl⟩ Bp seq_tuple_add Bx Ca (Cb _ _)
   (tuple_addW2 t b vs.toArray ws.toArray n n2 dd ph sl rq (by simpa using hv) (by simpa using hw) (by rw[fR,fR];exact hsz)) ⟨ho,nq,?_⟩
  rw[e];exact h2 hw
noncomputable def sIx (n d:Nat):aap->Nat
 |none=>d
 |some v=>if v<0 then(v+(n:Int)).toNat else min v.toNat n
theorem Avv (n d:Nat):sIx n d ab=d:=rfl
theorem A1x (n d k:Nat):sIx n d (aa (k:Int))=min k n:=by
 show(if (k:Int)<0 then((k:Int)+(n:Int)).toNat else min (k:Int).toNat n)=min k n
 grind
theorem Jx (n d:Nat)(hd:d<=n)(o:aap):sIx n d o<=n:=by
 cases o with
 |none=>exact hd
 |some v=>
  show(if v<0 then(v+(n:Int)).toNat else min v.toNat n)<=n
  grind
theorem OX (v:Int)(n d:Nat):(if v<0 then max (v+(n:Int)) 0 else min v (n:Int))=((sIx n d (aa v):Nat):Int):=by
 show(if v<0 then max (v+(n:Int)) 0 else min v (n:Int))=(((if v<0 then(v+(n:Int)).toNat else min v.toNat n):Nat):Int)
 grind
theorem Rf (lo hi:aap)(n:Nat):Dh lo hi 1 (n:Int)=(((sIx n 0 lo:Nat):Int),((sIx n n hi:Nat):Int)):=by
 have h1:¬ ((1:Int)<0):=()
 unfold Dh;simp only[h1,if_false];refine EE ?_ ?_
 .cases lo with
  |none=>rfl
  |some v=>exact OX v n 0
 .cases hi with
  |none=>rfl
  |some v=>exact OX v n n
theorem Qu (i j:Nat):MT (i:Int) (j:Int) 1=j-i:=by
 unfold MT
 grind
theorem VL {v:aF}{o:aap}{Q:aap->aK->Prop}(p:pV v o)(h:Q o s):aP (aW prog w) A (Builtin.Slice.slicePartIndex v) Q E s:=by
 cases p with
 |none=>exact slicePart_none h
 |int i t=>exact slicePart_int h
theorem Agm {sl:aC}{vl vu:aF}{lo hi:aap}{n:Nat}{Q:Int×Int×Nat->aK->Prop}(hs:s.heap.IsSliceOf sl vl vu .none)(pl:pV vl lo)(pu:pV vu hi)
  (h:Q (((sIx n 0 lo:Nat):Int),1,sIx n n hi-sIx n 0 lo) s):aP (aW prog w) A (Builtin.Slice.sliceApplied (.ref sl) (pure (n:Int))) Q E s:=by
 obtain⟨os,ol,A4,kf⟩:=id hs;unfold Builtin.Slice.sliceApplied Builtin.Slice.sliceFields;refine aI (aI (gG ol kf (x:=vl) rfl (aI (gG ol kf (x:=vu) rfl (aI (gG ol kf (x:=.none) rfl (aZ ?_)))))));refine aI (slicePart_none ?_);show aP _ _ (if ((1:Int)==0)=af then _ else _) _ _ s
 rw[if_neg nofun]
 refine aI (VL pl (aI (VL pu (aI (aZ ?_)))));show aP _ _ (match Dh lo hi 1 (n:Int) with|(lo,hi)=>pure (lo,(1:Int),MT lo hi 1)) _ _ s
 rw[Rf lo hi n];show aP _ _ (pure (((sIx n 0 lo:Nat):Int),(1:Int),MT ((sIx n 0 lo:Nat):Int) ((sIx n n hi:Nat):Int) 1)) _ _ s;rw[Qu];exact aZ h
theorem Vm (xs:Array aF)(i k:Nat):((bD k).filterMap λ(m:Nat)=>xs[((i:Int)+(m:Int)*1).toNat]?).toArray=((xs.toList.drop i).take k).toArray:=by
 have e:(λ(m:Nat)=>xs[((i:Int)+(m:Int)*1).toNat]?)=λm=>xs[i+m]?:=by
  grind
 rw[e];have:=pick_run xs i k;rw[List.filterMap_map] at this;have e2:((λx=>xs[x]?)∘λx=>i+x)=λm=>xs[i+m]?:=rfl
 rw[e2] at this;rw[this]
theorem Ajs {t sl:aC}{ak:Array aF}{vl vu:aF}{lo hi:aap}{Q:aF->aK->Prop}(ht:IsTup s.heap t ak)(hs:s.heap.IsSliceOf sl vl vu .none)(pl:pV vl lo)(pu:pV vu hi)
  (hw:¬ (sIx ak.size 0 lo=0/\sIx ak.size ak.size hi=ak.size))
  (h:Q (.ref s.heap.objs.size) { s with heap:=s.heap.push { cls:=.type "tuple",data:=.seq ((ak.toList.drop (sIx ak.size 0 lo)).take (sIx ak.size ak.size hi-sIx ak.size 0 lo)).toArray } })
  (hsz:ak.size<=sizeLine):aP (aW prog w) A (pM (.ref t) (.ref sl)) Q E s:=by
 have kg:sizeOk (.seq ((ak.toList.drop (sIx ak.size 0 lo)).take (sIx ak.size ak.size hi-sIx ak.size 0 lo)).toArray):=by
  show((ak.toList.drop (sIx ak.size 0 lo)).take (sIx ak.size ak.size hi-sIx ak.size 0 lo)).toArray.size<=sizeLine
  grind
 have hj:sIx ak.size ak.size hi<=ak.size:=Jx _ _ (bS _) hi;obtain⟨os,ol,A4,kf⟩:=id hs;have G6:s.TypeIs (.ref sl) "slice":=⟨os,ol,A4⟩;unfold pM
 try with_reducible refine kH ?_
 first|refine aI (aZ ?_)|skip
 refine aI (wpAny_sequenceKey ht.typeIs nofun ?_)
 refine aI (nZ (name:=Str.ofString "__getitem__") ht.typeIs Cc
  (jR Cc ht.typeIs entry_tuple_getitem ?_ (args_tuple_getitem _ _)))
 show aP _ _ (Df (.ref t)>>=_) _ _ s;refine aI (tupleItemsOf_ ht ?_);refine aI (nW G6 ?_);rw[if_pos nofun]
 refine aI (Agm hs pl pu ?_);have xf:¬ ((((sIx ak.size 0 lo:Nat):Int)==0&&(1:Int)==1&&(sIx ak.size ak.size hi-sIx ak.size 0 lo)==ak.size)=af):=by
  grind
 show aP _ _ (if (((sIx ak.size 0 lo:Nat):Int)==0&&(1:Int)==1&&(sIx ak.size ak.size hi-sIx ak.size 0 lo)==ak.size)=af then _ else _) _ _ s
 rw[if_neg xf,Vm]
 first
  |exact aI (m:=AG _) (nY (aZ ⟨_,rfl,aZ h⟩) kg)
  |exact aI (m:=AG _) (nY (aI (aZ (aZ ⟨_,rfl,aZ h⟩))) kg)
  |exact aI (aI (m:=AG _) (nY (aZ (aZ ⟨_,rfl,aZ h⟩)) kg))
  |exact aI (aI (m:=AG _) (nY (aZ ⟨_,rfl,aZ h⟩) kg))
end
end HT
namespace L2
open PySem PySem.Spec PyProof.Rows
variable {n:Nat}{X:Cx}
abbrev TO:=St->Hp->(aap->Hp->Prop)->Prop
def PO (X:Cx)(e:Option aS)(t:TO):Prop:=
 ∀ (ac:dl) (s:aK) (σ:St) (H:Hp) (Q:aap->Hp->Prop),Inv X ac σ H s->t σ H Q ->
  aP (aW X.prog X.w) X.A (evalPart e X.env) (λu s'=>∃ o H',Inv X ac σ H' s'/\pV u o/\Q o H') X.xe s
def Le:TO:=λ_ H Q=>Q ab H
def Fp (t:TE):TO:=λσ H Q=>t σ H λx H1=>∃ i,x=.int i/\Q (aa i) H1
section
variable {e:aS}{te:TE}{lo hi:Option aS}{tl th:TO}{pos p2:bH}
theorem Mu:PO X ab Le:=by
 rw[5];rw[evalPart_none];exact aZ ⟨ab,H,I,.none,h⟩
theorem Lo (h:PE X e te):PO X (aa e) (Fp te):=by
 intro ac s σ H Q I hw;rw[evalPart_some];refine bb (h ac s σ H _ I hw) λu s1 gh=>?_
 obtain⟨x,H1,I1,r1,q1⟩:=gh;obtain⟨i,rfl,q⟩:=q1;obtain⟨t,rfl⟩:=r1;exact⟨aa i,H1,I1,.int i t,q⟩
def SlR (X:Cx)(r:V->aap->aap->Hp->VK->Prop):Prop:=
 ∀ (ac:dl) (s:aK) (σ:St) (H:Hp) (x:V) (v vl vu:aF) (lo hi:aap) (sl:aC) (Q:VK),Inv X ac σ H s->RelV x v->s.heap.IsSliceOf sl vl vu .none->pV vl lo->pV vu hi->r x lo hi H Q ->
  ∃ T id,vP (.type T) "__getitem__" = pure (aa (.builtin id))/\s.TypeIs v T/\aP (aW X.prog X.w) X.A (pM v (.ref sl)) (EP X ac σ Q) X.xe s
theorem SlR.or {r r':V->aap->aap->Hp->VK->Prop}(h:SlR X r)(h':SlR X r'):SlR X (λx lo hi H Q=>r x lo hi H Q\/r' x lo hi H Q):=by
 intro ac s σ H x v vl vu lo hi sl Q I rx hs pl pu q;rcases q with q|q
 .exact h ac s σ H x v vl vu lo hi sl Q I rx hs pl pu q
 .exact h' ac s σ H x v vl vu lo hi sl Q I rx hs pl pu q
def T9 (r:V->aap->aap->Hp->VK->Prop)(te:TE)(tl th:TO):TE:=λσ H Q=>te σ H λx H1=>tl σ H1 λl H2=>th σ H2 λu H3=>r x l u H3 Q
theorem RW {r:V->aap->aap->Hp->VK->Prop}(hr:SlR X r)(he:PE X e te)(hl:PO X lo tl)(hu:PO X hi th):PE X (.Subscript e (.Slice lo hi ab p2) pos) (T9 r te tl th):=by
 rw[5];refine Subscript_ (bb (he ac s σ H _ I h) λv s1 gh=>?_)
 obtain⟨x,H1,I1,r1,q1⟩:=gh;refine wpAny_Slice (bb (hl ac s1 σ H1 _ I1 q1) λvl s2 ⟨l,H2,I2,pl,q2⟩=>bb (hu ac s2 σ H2 _ I2 q2) λvu s3 gh=>?_)
 obtain⟨u,H3,I3,pu,q3⟩:=gh;rw[evalPart_none];refine aZ ?_;have I4:Inv X ac σ H3 { s3 with heap:=s3.heap.push { cls:=.type "slice",data:=.fields #[vl,vu,.none] } }:=I3.kept (t':=s3.toks) λb ob q=>cF _ q
 obtain⟨T,id,hT,ht,hg⟩:=hr ac { s3 with heap:=s3.heap.push { cls:=.type "slice",data:=.fields #[vl,vu,.none] } } σ H3 x v vl vu l u s3.heap.objs.size Q I4 r1 (Heap.IsSliceOf.new ..) pl pu q3;show aP (aW X.prog X.w) X.A (subscriptTail e (.Slice lo hi ab p2) v (.ref s3.heap.objs.size)) (EP X ac σ Q) X.xe { s3 with heap:=s3.heap.push { cls:=.type "slice",data:=.fields #[vl,vu,.none] } };exact tail_any (ops:=[.ref s3.heap.objs.size,v]) ht hT hg (by with_unfolding_all rfl)
def rF (xs:aag)(lo hi:aap):aag:=(xs.drop (HT.sIx xs.length 0 lo)).take (HT.sIx xs.length xs.length hi-HT.sIx xs.length 0 lo)
theorem WW (xs:aag)(lo hi:aap):(rF xs lo hi).length<=xs.length:=by
 unfold rF;rw[EK,List.length_drop]
 lia
def Ea (K:aM):V->aap->aap->Hp->VK->Prop:=λx lo hi H Q=>∃ a xs,x=.ref a/\SqT K H a xs /\
 ¬ (HT.sIx xs.length 0 lo=0/\HT.sIx xs.length xs.length hi=xs.length)/\∀ p,H p=ab->Q (.ref p) (upd H p (.tup (rF xs lo hi)))
theorem Ht:SlR X (Ea X.K):=by
 intro ac s σ H x v vl vu lo hi sl Q I rx hs pl pu h;obtain⟨a,xs,rfl,hx,hw,q⟩:=h;cases rx;obtain⟨its,r,ht,hz⟩:=I.tuple hx;have au:its.toArray.size=xs.length:=by rw[fR];exact r.length.symm
 refine⟨"tuple",_,Cc.lookup,ht.typeIs,?_⟩;refine HT.Ajs ht hs pl pu (by rw[au];exact hw) ?_ (by rw[au];exact hz)
 rw[au];refine⟨.ref s.heap.objs.size,_,I.laid (t':=s.toks) (o:=.tup (rF xs lo hi)) (λb ob q=>cF _ q) (bS _) ?_,rfl,q _ (I.hok.fresh (bS _))⟩
 exact⟨kK (WW xs lo hi) hz,_,(r.drop (HT.sIx xs.length 0 lo)).take (HT.sIx xs.length xs.length hi-HT.sIx xs.length 0 lo),A4z.new _ _⟩
def FM (K:aM):R2:=λx y H Q=>∃ a b xs ys,x=.ref a/\y=.ref b/\SqT K H a xs/\SqT K H b ys/\xs≠[]/\xs.length+ys.length<=sizeLine /\
 (ys=[]->Q (.ref a) H)/\(ys≠[]->∀ p,H p=ab->Q (.ref p) (upd H p (.tup (xs++ys))))
theorem Vals.nil_iff {xs:aag}{us:aal}(r:Vals xs us):us=[]↔xs=[]:=by
 cases r with
 |nil=>simp
 |cons _ _=>simp
theorem A1b:OpR X (kW .Add) (FM X.K):=by
 rw[1];obtain⟨a,b,xs,ys,rfl,rfl,ha,hb,hx,hz,q1,q2⟩:=h;cases rx;cases ry;obtain⟨its,r1,p1,_⟩:=I.tuple ha;obtain⟨gi,r2,p2,_⟩:=I.tuple hb;refine HT.Bcz p1 p2 (λz=>hx (r1.nil_iff.1 z)) (λz=>⟨.ref a,H,I,rfl,q1 (r2.nil_iff.1 z)⟩) (λz=>?_) (by rw[<-r1.length,<-r2.length];exact hz)
 refine⟨.ref s.heap.objs.size,_,I.laid (t':=s.toks) (o:=.tup (xs++ys)) (λb ob q=>cF _ q) (bS _) ?_,rfl,q2 (λw=>z (r2.nil_iff.2 w)) _ (I.hok.fresh (bS _))⟩
 exact⟨by rw[wC];exact hz,_,r1.append r2,A4z.new _ _⟩
end
noncomputable def k9 (n:Nat)(i:Int):Option Nat:=if 0<=i then(if i<n then aa i.toNat else ab) else if -(n:Int)<=i then aa (i+n).toNat else ab
def jf {α:Type}(xs:List α)(i:Int):Option α:=(k9 xs.length i).bind λj=>xs[j]?
theorem OZ{i:Int}{j:Nat}(h:k9 n i=aa j):seqIndex? i n=aa j/\j<n /\ -(n:Int)<=i/\i<n:=by
 unfold k9 at h;by_cases h0:0<=i
 .rw[if_pos h0] at h;by_cases h1:i<n
  .rw[if_pos h1] at h;have e:i.toNat=j:=fM h;exact⟨by rw[seqIndex_of h0 h1,e],(),(),h1⟩
  all_goals grind
 .rw[if_neg h0] at h;by_cases h1 : -(n:Int)<=i
  .rw[if_pos h1] at h;have e:(i+n).toNat=j:=fM h;exact⟨by rw[seqIndex_neg () h1,e],(),h1,()⟩
  all_goals grind
theorem GX {α:Type}{xs:List α}{i:Int}{v:α}(h:jf xs i=aa v):∃ j,seqIndex? i xs.length=aa j/\xs[j]?=aa v/\j<xs.length /\ -(xs.length:Int)<=i/\i<xs.length:=by
 unfold jf at h;cases e:k9 xs.length i with
 |none=>rw[e] at h;cases h
 |some j=>
  rw[e] at h;obtain⟨h1,h2,h3,h4⟩:=OZ e
  grind
theorem qS {α:Type}{xs:List α}{j:Nat}{v:α}(h:xs[j]?=aa v):jf xs (j:Int)=aa v:=by
 have hj:j<xs.length:=(eW.1 h).1;have e:k9 xs.length (j:Int)=aa j:=by
  unfold k9;rw[if_pos (),if_pos ()];simp
 unfold jf;rw[e];exact h
def HG (b:aS):Prop:=∀ o i,LG b ag o i=operate [o,i] (pM o i)
def IxR (X:Cx)(r:R2):Prop:=
 ∀ (value dy:aS) (ac:dl) (s:aK) (σ:St) (H:Hp) (x y:V) (v u:aF) (Q:VK),Inv X ac σ H s->RelV x v->RelV y u->r x y H Q ->
  LG dy ag v u=operate [v,u] (pM v u)->aP (aW X.prog X.w) X.A (subscriptTail value dy v u) (EP X ac σ Q) X.xe s
def R5 (X:Cx)(id:String)(r:V->aag->Hp->VK->Prop):Prop:=
 ∀ (ac:dl) (s:aK) (σ:St) (H:Hp) (x:V) (xs:aag) (v:aF) (us:aal) (Q:VK),Inv X ac σ H s->RelV x v->Vals xs us->r x xs H Q ->
  aP (aW X.prog X.w) X.A (call (.builtin id) (v::us)) (EP X ac σ Q) X.xe s
section
variable {a b:aS}{ta tb:TE}{pos:bH}
theorem IxR.or {r r':R2}(h:IxR X r)(h':IxR X r'):IxR X (λx y H Q=>r x y H Q\/r' x y H Q):=by
 intro value dy ac s σ H x y v u Q I rx ry q hs;rcases q with q|q
 .exact h value dy ac s σ H x y v u Q I rx ry q hs
 .exact h' value dy ac s σ H x y v u Q I rx ry q hs
theorem NO {r:R2}(hr:IxR X r)(ha:PE X a ta)(hb:PE X b tb)(hs:HG b):PE X (.Subscript a b pos) (rp r ta tb):=by
 rw[5];exact Subscript_ (FD ha hb I h λv u s2 x y H2 I2 rx ry q=>hr a b ac s2 σ H2 x y v u Q I2 rx ry q (hs _ _))
def MZ (K:aM):R2:=λx y H Q=>∃ p xs i v,x=.ref p/\y=.int i/\SqL K H p xs/\jf xs i=aa v/\Q v H
def NF (K:aM):R2:=λx y H Q=>∃ p xs i v,x=.ref p/\y=.int i/\SqT K H p xs/\jf xs i=aa v/\Q v H
def NC:R2:=λx y H Q=>∃ z i c,x=.str z/\y=.int i/\z.length<=sizeLine/\jf z.cps.toList i=aa c/\Q (.str ⟨#[c]⟩) H
theorem Bdh:IxR X (MZ X.K):=by
 intro value dy ac s σ H x y v u Q I rx ry h hs;obtain⟨p,xs,i,z,rfl,rfl,hq,he,q⟩:=h;cases rx;obtain⟨t,rfl⟩:=ry;obtain⟨its,r,pl,hz⟩:=I.list hq;obtain⟨j,h1,h2,h3,h4,h5⟩:=GX he;obtain⟨w,ew,i3⟩:=r.get h2;have hl:=r.length;have hn:=uM;have fin:EP X ac σ Q w s:=⟨z,H,I,i3,q⟩;by_cases h0:0<=i
 .have hj:i.toNat=j:=by
   rw[seqIndex_of h0 h5] at h1;exact fM h1
  exact item_listR pl.isList h0 () (by rw[hj];simpa using ew) fin hs
 .have hj:(i+(its.toArray.size:Int)).toNat=j:=by
   rw[seqIndex_neg () h4] at h1
   grind
  exact subscriptTail_builtinR (x:=w) pl.isList.typeIs slot_list_getitem.lookup
   (wpAny_getItem_list_neg (Q:=λr s'=>r=w/\EP X ac σ Q r s') pl.isList () (by rw[fR]<;>lia) () (by rw[hj];simpa using ew) ⟨rfl,fin⟩) hs
theorem Bfb:IxR X (NF X.K):=by
 intro value dy ac s σ H x y v u Q I rx ry h hs;obtain⟨p,xs,i,z,rfl,rfl,hq,he,q⟩:=h;cases rx;obtain⟨t,rfl⟩:=ry;obtain⟨its,r,pl,hz⟩:=I.tuple hq;obtain⟨j,h1,h2,h3,h4,h5⟩:=GX he;obtain⟨w,ew,i3⟩:=r.get h2;have hl:=r.length;have hn:=uM;have fin:EP X ac σ Q w s:=⟨z,H,I,i3,q⟩;exact subscriptTail_builtinR (x:=w) pl.typeIs LH.lookup
  (getItem_tuple (j:=j) (Q:=λr s'=>r=w/\EP X ac σ Q r s') pl () () (by rw[fR,<-hl];exact h1) (by simpa using ew) ⟨rfl,fin⟩) hs
theorem Jh:IxR X NC:=by
 intro value dy ac s σ H x y v u Q I rx ry h hs;obtain⟨z,i,c,rfl,rfl,hz,he,q⟩:=h;obtain⟨t,rfl⟩:=rx;obtain⟨t',rfl⟩:=ry;obtain⟨j,h1,h2,h3,h4,h5⟩:=GX he;have hl:z.cps.toList.length=z.length:=by simp[Str.length]
 rw[hl] at h1 h4 h5;have hn:=uM;exact tail_any (typeIs_str s z t) slot_str_getitem.lookup (getItem_str (c:=c) (by
  have e1:decide (i < -(2^63:Int))=ag:=decide_eq_false ()
  have e2:decide (i ≥ 2^63)=ag:=decide_eq_false ()
  rw[e1,e2,Bool.or_false]) (by rw[h1];simpa using h2) ⟨.str ⟨#[c]⟩,H,I.tok _,⟨_,rfl⟩,q⟩) hs
def z4 (K:aM):R2:=λx y H Q=>MZ K x y H Q\/NF K x y H Q\/NC x y H Q
theorem ZG:IxR X (z4 X.K):=Bdh.or (Bfb.or Jh)
theorem Tj (lo hi:aap)(n:Nat):(vQ lo hi ab n).1=((HT.sIx n 0 lo:Nat):Int)/\(vQ lo hi ab n).2.1=((HT.sIx n n hi:Nat):Int)/\(vQ lo hi ab n).2.2=1:=by
 refine⟨?_,?_,rfl⟩
 .cases lo with
  |none=>simp[vQ,HT.sIx]
  |some i=>
   simp only[vQ,HT.sIx,Option.getD_none,show(1:Int) > 0 by decide,if_true]
   grind
 .cases hi with
  |none=>simp[vQ,HT.sIx]
  |some i=>
   simp only[vQ,HT.sIx,Option.getD_none,show(1:Int) > 0 by decide,if_true]
   grind
theorem Tx (its:aal)(lo hi:aap):slicePick its.toArray lo hi ab=((its.drop (HT.sIx its.length 0 lo)).take (HT.sIx its.length its.length hi-HT.sIx its.length 0 lo)).toArray:=by
 obtain⟨h1,h2,h3⟩:=Tj lo hi its.toArray.size;unfold slicePick;rw[h1,h2,h3];simp only[sliceRange_one,pick_run,fR]<;>rfl
def Dv (K:aM):V->aap->aap->Hp->VK->Prop:=λx lo hi H Q=>∃ a xs,x=.ref a/\SqL K H a xs/\∀ p,H p=ab->Q (.ref p) (upd H p (.lst (rF xs lo hi)))
theorem Kh:SlR X (Dv X.K):=by
 intro ac s σ H x v vl vu lo hi sl Q I rx hs pl pu h;obtain⟨a,xs,rfl,hx,q⟩:=h;cases rx;obtain⟨its,r,ht,hz⟩:=I.list hx;have au:=r.length;refine⟨"list",_,slot_list_getitem.lookup,ht.isList.typeIs,?_⟩;refine wpAny_getItem_list_slice ht.isList hs pl pu .none (by simp) ?_ (by rw[fR]<;>lia)
 rw[Tx,<-au];refine⟨.ref s.heap.objs.size,_,I.laid (t':=s.toks) (o:=.lst (rF xs lo hi)) (λb ob q=>cF _ q) (bS _) ?_,rfl,q _ (I.hok.fresh (bS _))⟩
 exact⟨kK (WW xs lo hi) hz,_,0,(r.drop (HT.sIx xs.length 0 lo)).take (HT.sIx xs.length xs.length hi-HT.sIx xs.length 0 lo),dZ _ rfl⟩
theorem Tc:OpR X (gR .NotIn) (λx y H Q=>∃ i j,x=.str i/\y=.str j/\Q (.bl (!(!(MS j i 0 j.length 1).isEmpty))) H):=by
 rw[1];obtain⟨i,j,rfl,rfl,q⟩:=h;obtain⟨t,rfl⟩:=rx;obtain⟨t',rfl⟩:=ry;exact notIn_str ⟨.bl _,H,I,rfl,q⟩
theorem Aq5:Adn X (.builtin "len") (λxs H Q=>∃ p ys,xs=[.ref p]/\(SqL X.K H p ys\/SqT X.K H p ys)/\Q (.int ys.length) H):=by
 rw[3];obtain⟨p,ys,rfl,hq,q⟩:=h;obtain⟨u,rfl,rx⟩:=vals1 r;cases rx;have hn:=uM;rcases hq with hq|hq
 .obtain⟨its,r',pl,hz⟩:=I.list hq;have au:=r'.length;exact Calls.call_len_list pl.isList (by simp only[fR]<;>lia) ⟨.int ys.length,H,I.tok _,⟨s.toks+1,by rw[fR,au]⟩,q⟩
 .obtain⟨its,r',pl,hz⟩:=I.tuple hq;have au:=r'.length;exact len_tuple pl (by simp only[fR]<;>lia) ⟨.int ys.length,H,I.tok _,⟨s.toks+1,by rw[fR,au]⟩,q⟩
theorem Ar6:Adn X (.builtin "len") (λxs H Q=>∃ z,xs=[.str z]/\z.length<=sizeLine/\Q (.int z.length) H):=by
 rw[3];obtain⟨z,rfl,hz,q⟩:=h;obtain⟨u,rfl,t,rfl⟩:=vals1 r;have hn:=uM;exact len_str () ⟨.int z.length,H,I.tok _,⟨_,rfl⟩,q⟩
theorem Adn.or {f:aF}{r r':aag->Hp->VK->Prop}(h:Adn X f r)(h':Adn X f r'):Adn X f (λxs H Q=>r xs H Q\/r' xs H Q):=by
 intro ac s σ H xs us Q I rs q;rcases q with q|q
 .exact h ac s σ H xs us Q I rs q
 .exact h' ac s σ H xs us Q I rs q
theorem Aqx:Adn X (.type "list") (λxs H Q=>∃ p ys,xs=[.ref p]/\(SqL X.K H p ys\/SqT X.K H p ys)/\∀ l,H l=ab->Q (.ref l) (upd H l (.lst ys))):=by
 rw[3];obtain⟨p,ys,rfl,hq,q⟩:=h;obtain⟨u,rfl,rx⟩:=vals1 r;cases rx;have fin:∀ (its:aal),Vals ys its->ys.length<=sizeLine->∀ (h':aY) (c':Nat),(∀ b o',s.heap.get? b=aa o'->h'.get? b=aa o') ->
   h'.get? s.heap.objs.size=aa { cls:=.type "list",dict:=ab,data:=.seq its.toArray c',slots:=#[] }->EP X ac σ Q (.ref s.heap.objs.size) { s with heap:=h' }:=λits r' hz h' c' kp e=>
  ⟨.ref s.heap.objs.size,_,I.laid (t':=s.toks) kp (bS _) (show Ac5 X.prog X.w _ h' _ (.lst ys) from⟨hz,its,c',r',e⟩),rfl,q _ (I.hok.fresh (bS _))⟩
 rcases hq with hq|hq
 .obtain⟨its,r',pl,hz⟩:=I.list hq;have au:=r'.length;obtain⟨o,ho,hc,n,hd⟩:=pl.isList;exact call_list_seq p (.inl rfl) ho hc hd (λh' c' kp e=>fin its r' hz h' c' kp e) (by simp only[fR]<;>lia)
 .obtain⟨its,r',pl,hz⟩:=I.tuple hq;have au:=r'.length;obtain⟨o,ho,hc,n,hd⟩:=pl;exact call_list_seq p (.inr rfl) ho hc hd (λh' c' kp e=>fin its r' hz h' c' kp e) (by simp only[fR]<;>lia)
theorem Ud:Adn X (.type "tuple") (λxs H Q=>∃ p ys,xs=[.ref p]/\((SqL X.K H p ys/\∀ l,H l=ab->Q (.ref l) (upd H l (.tup ys)))\/(SqT X.K H p ys/\Q (.ref p) H))):=by
 rw[3];obtain⟨p,ys,rfl,h⟩:=h;obtain⟨u,rfl,rx⟩:=vals1 r;cases rx;rcases h with⟨hq,q⟩|⟨hq,q⟩
 .obtain⟨its,r',pl,hz⟩:=I.list hq;have au:=r'.length;refine call_tuple_list pl.isList (λh' kp=>?_) (by simp only[fR]<;>lia)
  have I1:Inv X ac σ H { s with heap:=h' }:=I.kept (t':=s.toks) kp;have I2:Inv X ac σ (upd H h'.objs.size (.tup ys)) { s with heap:=h'.push { cls:=.type "tuple",data:=.seq its.toArray } }:=
   I1.laid (t':=s.toks) (λb o e=>cF _ e) (bS _) (show Ac5 X.prog X.w _ _ _ (.tup ys) from⟨hz,its,r',A4z.new _ _⟩)
  exact⟨.ref h'.objs.size,_,I2,rfl,q _ (I1.hok.fresh (bS _))⟩
 .obtain⟨its,r',pl,hz⟩:=I.tuple hq;exact call_tuple_same pl ⟨.ref p,H,I,rfl,q⟩
def F8 (K:aM)(T:String)(x:V)(H:Hp):Prop:=match x with
 |.str _=>T = "str"
 |.int _=>T = "int"
 |.ref p=>(T = "list" /\ ∃ xs,SqL K H p xs)\/(T = "tuple" /\ ((∃ o,K.lookup p=aa o/\o.cls=.type "tuple" /\ o.dict=ab)\/∃ xs,H p=aa (.tup xs))) \/
   (T = "dict" /\ ((∃ ep kvs,H p=aa (.dK ep kvs))\/∃ kvs,∃ ep,H p=aa (.dT ep kvs)))\/(T = "set" /\ ∃ S n,H p=aa (.set S n))
 |_=>False
theorem Hq {ac:dl}{σ:St}{H:Hp}{s:aK}{T:String}{x:V}{v:aF}(I:Inv X ac σ H s)(r:RelV x v)(ty:F8 X.K T x H) :
  s.TypeIs v T/\∀ a,v=.ref a->∃ ob,s.heap.get? a=aa ob/\ob.dict=ab:=by
 cases x with
 |str z=>
  obtain⟨t,rfl⟩:=r;cases(show T = "str" from ty)
  exact⟨typeIs_str s z t,λ_ e=>nomatch e⟩
 |int i=>
  obtain⟨t,rfl⟩:=r;cases(show T = "int" from ty)
  exact⟨typeIs_int s i t,λ_ e=>nomatch e⟩
 |ref p=>
  cases r;rcases ty with⟨rfl,xs,hq⟩|⟨rfl,⟨o,hk,hc,hd⟩|⟨xs,hx⟩⟩|⟨rfl,hk⟩|⟨rfl,S,n,hk⟩
  .obtain⟨its,_,pl,_⟩:=I.list hq;refine⟨pl.isList.typeIs,λa e=>?_⟩
   cases e;obtain⟨o,n,e,c,hd,_⟩:=pl;exact⟨o,e,hd⟩
  .refine⟨⟨o,I.kIn p o hk,hc⟩,λa e=>?_⟩
   cases e;exact⟨o,I.kIn _ o hk,hd⟩
  .obtain⟨_,_,_,⟨o,e,c,_⟩,n⟩:=(show Ac5 X.prog X.w H s.heap p (.tup xs) from I.hok p _ hx)
   refine⟨⟨o,e,c⟩,λa e=>?_⟩
   cases e;exact n
  .have z:∃ o,s.heap.get? p=aa o/\o.ExactDict:=by
    rcases hk with⟨ep,kvs,hk⟩|⟨kvs,ep,hk⟩
    .obtain⟨_,_,_,_,o,_,e,ex,_⟩:=I.hok p _ hk;exact⟨o,e,ex⟩
    .obtain⟨_,_,_,_,o,_,e,ex,_⟩:=I.hok p _ hk;exact⟨o,e,ex⟩
   obtain⟨o,e,ex⟩:=z;refine⟨⟨o,e,ex.1⟩,λa e2=>?_⟩
   cases e2;exact⟨o,e,ex.2.1⟩
  .obtain⟨o,_,_,_,e,ex,_⟩:=I.hok p _ hk;refine⟨⟨o,e,ex.1⟩,λa e2=>?_⟩
   cases e2;exact⟨o,e,ex.2.1⟩
 |_=>exact pY ty
def vj (K:aM)(T:String)(r:V->aag->Hp->VK->Prop)(to:TE)(t:TA):TE:=λσ H Q=>to σ H λx H1=>F8 K T x H1/\t σ H1 λxs H2=>r x xs H2 Q
variable {o e:aS}{es:List aS}{to:TE}{t:TA}{name:aD}{br ax:bH}{T id:String}{r:V->aag->Hp->VK->Prop}
structure Bm (X:Cx)(o e:aS)(es:List aS)(name:aD)(br ax:bH):Prop where
 b:LO o name X.env (cA o X.env)=cA o X.env
 f:((iT ax (bM (e::es) X.env)).all (λx=>!x.1)&&(backToKw ax (LJ [] X.env)).all (λx=>x.1.isSome)&&decide ((e::es).length+([]:List tW).length+(if ([]:List tW).isEmpty then 0 else 1)<30))=af
 l:(br.endLine==ax.line)=af
 s:bM (e::es) X.env=(ag,cA e X.env)::bM es X.env
 p:(iT ax (bM es X.env)).any (·.1)=ag
theorem qJ (pa:PlainAttrs T)(slot:Slot T name id)(G7:typeOf (.builtin id)=pure (.type "method_descriptor"))(hm:R5 X id r)(ho:PE X o to)(ha:PA X (e::es) t)
  (q5:Bm X o e es name br ax:=by exact⟨rfl,rfl,rfl,rfl,rfl⟩) :
  PE X (.Call (.Attribute o name br) (e::es) [] ax) (vj X.K T r to t):=by
 rw[5];refine wpAny_Call_method_late q5.b q5.f q5.l rfl (bb (ho ac s σ H _ I h) λv s1 gh=>?_)
 obtain⟨x,H1,I1,r1,ty,q1⟩:=gh;obtain⟨h1,h2⟩:=Hq I1 r1 ty;refine⟨T,id,pa,slot,G7,h1,h2,?_⟩;have hA:=ha ax ac s1 σ H1 _ I1 q1;rw[q5.s] at hA ⊢;refine Calls.callWith_builtin (by show(ag||(iT ax (bM es X.env)).any (·.1))=ag;rw[q5.p]<;>rfl) (Calls.evalArgs_plain ?_)
 exact bb hA λus s2 ⟨vs,H2,I2,r2,q2⟩=>hm ac s2 σ H2 x vs v us Q I2 r1 r2 q2
end
def so (X:Cx)(id:String)(r:V->aag->Hp->VK->Prop):Prop:=
 ∀ (ac:dl) (s:aK) (σ:St) (H:Hp) (x:V) (xs:aag) (v:aF) (us:aal) (Q:VK),Inv X ac σ H s->RelV x v->Vals xs us->r x xs H Q ->
  aP (aW X.prog X.w) X.A (call (.builtin id) (v::us)) (EP X ac σ Q) X.xe s
theorem Vals.one:∀ {x:V} {us:aal},Vals [x] us->∃ u,us=[u]/\RelV x u:=by
 intro x us h;cases h with
 |cons r t=>cases t;exact⟨_,rfl,r⟩
theorem Vals.eraseIdx:∀ {xs:aag} {us:aal} (i:Nat),Vals xs us->Vals (xs.eraseIdx i) (us.eraseIdx i)
 |_,_,_,.nil=>.nil
 |_,_,0,.cons _ t=>t
 |_,_,i+1,.cons r t=>.cons r (Vals.eraseIdx i t)
section
variable {ac:dl}{σ:St}{H:Hp}{s:aK}{l b:aC}{xs ys zs:aag}
theorem Inv.lset {its its':aal}{f:Array aF->Array aF}{t':Nat}(I:Inv X ac σ H s)(hH:H l=aa (.lst xs))
  (e:s.heap.get? l=aa { cls:=.type "list",data:=.seq its.toArray n }) (hf:f its.toArray=its'.toArray) (hv:Vals ys its') (hz:ys.length<=sizeLine) :
  Inv X ac σ (upd H l (.lst ys)) { s with heap:=s.heap.update l (jL f),toks:=t' }:=by
 have q:=PySem.IsL.update e f;rw[hf] at q;refine I.write (x:=l) (e:=l) (by rw[hH];exact trivial) (.inl rfl) (λb' u hb hu=>(Cz s.heap (jL f) (kY hb)).trans hu) ⟨_,q⟩ ?_
 exact⟨hz,its',_,hv,q⟩
theorem Inv.lnew {its:aal}{t':Nat}(I:Inv X ac σ H s)(hv:Vals ys its)(hz:ys.length<=sizeLine) :
  Inv X ac σ (upd H s.heap.objs.size (.lst ys)) { s with heap:=s.heap.push { cls:=.type "list",data:=.seq its.toArray },toks:=t' }:=
 I.laid (λ_ _ q=>cF _ q) (bS _) ⟨hz,its,0,hv,dZ _ rfl⟩
theorem Inv.fresh (I:Inv X ac σ H s):H s.heap.objs.size=ab:=I.hok.fresh (bS _)
theorem Inv.lstM (I:Inv X ac σ H s)(hH:H l=aa (.lst xs)):xs.length<=sizeLine/\∃ (its:aal) (n:Nat),Vals xs its/\xs.length=its.length/\s.heap.get? l=aa { cls:=.type "list",data:=.seq its.toArray n }:=by
 obtain⟨z,its,n,r,e⟩:=I.hok l _ hH;exact⟨z,its,n,r,r.length,e⟩
theorem Ye(h:n<=sizeLine):Di n=ag:=by
 unfold Di;exact decide_eq_false ()
end
def HL:V->aag->Hp->VK->Prop:=λx vs H Q=>∃ l xs y,x=.ref l/\vs=[y]/\H l=aa (.lst xs)/\xs.length<sizeLine/\Q .non (upd H l (.lst (xs++[y])))
theorem CJ:so X "list.append" HL:=by
 intro ac s σ H x vs v us Q I rx rv h;obtain⟨l,xs,y,rfl,rfl,hH,hz,q⟩:=h;cases rx;obtain⟨u,rfl,ru⟩:=rv.one;obtain⟨z,its,n,r,hl,e⟩:=I.lstM hH;refine call_meets F.slot_list_append ⟨_,e,rfl⟩ F.entry_list_append (F.args_list_append_2 _ _) (PySem.list_append l its.toArray n u (by rw[fR];lia)) ⟨e,?_⟩
 refine⟨.non,_,I.lset (its':=its++[u]) hH e (by simp) (r.append (.cons ru .nil)) ?_,rfl,q⟩
 grind
def Jz:V->aag->Hp->VK->Prop:=λx vs H Q=>∃ l xs i k y,x=.ref l/\vs=[.int i]/\H l=aa (.lst xs) /\ -(2^63)<=i/\i<2^63/\seqIndex? i xs.length=aa k/\xs[k]?=aa y/\Q y (upd H l (.lst (xs.eraseIdx k)))
theorem Vx:so X "list.pop" Jz:=by
 intro ac s σ H x vs v us Q I rx rv h;obtain⟨l,xs,i,k,y,rfl,rfl,hH,h1,h2,hk,hy,q⟩:=h;cases rx;obtain⟨u,rfl,ru⟩:=rv.one;obtain⟨t,rfl⟩:=ru;obtain⟨z,its,n,r,hl,e⟩:=I.lstM hH;obtain⟨w,hw,i3⟩:=r.get hy;refine call_meets F.slot_list_pop ⟨_,e,rfl⟩ F.entry_list_pop (F.args_list_pop_2 _ _)
  (MeetsSeq.list_pop_at l its.toArray n i t k w (fitsIndex_both h1 h2) (by rw[fR,<-hl];exact hk) (by rw[<-Dm];exact hw) (by rw[fR];lia)) ⟨e,?_⟩
 refine⟨y,_,I.lset (its':=its.eraseIdx k) hH e ?_ (r.eraseIdx k) ?_,i3,q⟩
 all_goals grind
end L2
namespace Att
open PySem PySem.W PySem.Calls PyProof.Rows
theorem Uk {P:Params}{h:aY}:∀ (ns:aai) (vs:aal),WellAll P h vs (ns.map WData.int)->rR vs ns:=by
 intro ns;induction ns with
 |nil=>
  intro vs w;rw[List.map_nil] at w;cases w;exact .nil
 |cons n ns ih=>
  intro vs w;rw[dF] at w;cases w with
  |cons a b=>
   cases a;exact .cons _ _ (ih _ b)
theorem Zm {l:OpenLaw}{n:Nat}(hn:l.most=aa n){P:Params}{h:aY}{args:List WData}{qi:aal}
  (kr:l.row.toRowW.claim.pre args=af) (xg:WellAll P h qi args) :
  ∃ a vs ns,qi=[gN a]/\args=[WData.list (ns.map WData.int)]/\h.get? a=aa { cls:=.type "list",data:=.seq vs.toArray }/\rR vs ns/\ns.length<=n:=by
 have G8:WShape.hasAll [] args [.list .int]=af:=(pre_splitW kr).1;have hc:l.pre.holds [] { args:=args }=af:=(pre_splitW kr).2;obtain⟨d,r,rfl,h1,h2⟩:=hasAllW_cons G8;obtain rfl:=hasAllW_nil h2;obtain⟨xs,rfl,h3⟩:=hasW_list h1;obtain⟨ns,rfl⟩:=items_int h3;have au:ns.length<=n:=by
  unfold OpenLaw.pre at hc;have h4:(WTm.not (.lt (.lit (.int (n:Int))) (.len (.arg 0)))).holds [] { args:=[.list (ns.map .int)] }=af:=by
   have h4:=(holds_andW hc).1;rw[hn] at h4;exact h4
  have h5:=condW_of h4 (w_not (w_lt w_lit (w_len_list (w_arg rfl))))
  grind
 cases xg with
 |cons w1 w2=>
  cases w2;cases w1 with
  |list ho iy=>exact⟨_,_,ns,rfl,rfl,ho,Uk ns _ iy,au⟩
theorem Qc (l:OpenLaw)(args:List WData):l.row.toRowW.claim.post args (.bool af) args=af:=
 postW_of (r:=l.row.toRowW) (X:=(af==af))
  (show WShape.has [] (.bool af) .bool=af by first|rfl|decide|simp[WShape.has,WShape.arms,WShape.armsAll])
  (show(WTm.eq .res (.lit (.bool af))).value [] { args:=args,res:=aa (.bool af),after:=args }=aa (.bool (af==af)) from w_eq_bool (w_res rfl) w_lit) rfl
end Att
namespace L2
open PySem PySem.Spec PyProof.Rows
variable {P P0:aC->Prop}{w:bG}{K:aM}{mg:aD->aao}{k:aG}{a f:aC}{fd:lA}{x qual y:aD}{sp:Sp}{X:Cx}{st:fU}{N ps:aan}{A:cP}{pos px lx p p2:bH}{io bq c b tg e:aS}{g9 es:List aS}{env:fE}{n i j n0:Nat}{sc:gY}{v:V}{t:TT}{fp:Nat->aaj}{H' H H1 B' B0 H0:Hp}{s:aK}{Q:VK}{ac:dl}{σ:St}{cap:lf}{o:HO}{xs:aag}{ds:aae}{m d:aA}{Y:bd}{g:aA->aA->aaf}{r:R2}{op:CmpOp}{T:String}{kds:am}
theorem TC:∀ {vs:aal} {ns:aai},rR vs ns->Vals (ns.map V.int) vs
 |_,_,.nil=>.nil
 |_,_,.cons n t h=>.cons ⟨t,rfl⟩ (TC h)
def Only (H:Hp):Prop:=∀ b,H b=ab\/∃ o xs,H b=aa (.frz o (.lst xs))
theorem Xk {P:bW}{mb:aD->aao}{CX:m8}{k:Nat}{fa:aC}{s₁:aK}{vs:aal}{ns:aai}
  (KX:K.In s₁.heap) (A5:s₁.heap.Ns iS mg) (hb:s₁.heap.Ns builtinsNs mb) (G9:∀ x:aD,x ≠ "__name__" -> mb x=nA x) (xh:s₁.heap.NoLimit) (hg:s₁.gens = #[])
  (ha:s₁.heap.get? a=aa { cls:=.type "list",data:=.seq vs.toArray }) (hi:rR vs ns) (hl:ns.length<=sizeLine) (hr:Room k vT)
  (F:∀ base:aY,K.In base->base.Ns iS mg->FnOk P w K mg base CX k fa fd [x] sp) (tp:∀ (s:aK) (u:aF),BindsTo s fd ⟨[u],[]⟩ [(x,u)])
  (pd:∀ H:Hp,Only H->SqL K H a (ns.map V.int)->sp [.ref a] H (λv _=>v=.bl af) λ_ _ _=>False)
  (xi:∀ H e s',CX [] H s₁ (λ_ _ _=>False) e s'->False) :
  oR (aW P w) vT (.call (.ref fa) ⟨[.ref a],[]⟩) (λr s'=>r=.ok (.ret (.bool af))/\OldK s₁.heap s'.heap/\s'.os=s₁.os/\rS s'.gens) s₁:=by
 have rv:=TC hi;have xj:=hi.length;have tq:∀ H:Hp,Only H->SqL K H a (ns.map V.int)->HOk P w H s₁.heap->(∀ b,H b≠ab->b=a)->(H a≠ab->K.lookup a=ab) ->
   oR (aW P w) vT (.call (.ref fa) ⟨[.ref a],[]⟩) (λr s'=>r=.ok (.ret (.bool af))/\OldK s₁.heap s'.heap/\s'.os=s₁.os/\rS s'.gens) s₁:=by
  intro H hO hS hok hA hK;have base_of:∀ {b:aC} {o:bJ},s₁.heap.get? b=aa o->H b=ab->(pJ s₁.heap H).get? b=aa o:=λe n=>Yc e n
  have tj:∀ {b:aC} {o:bJ} {es:Array pZ} {ep:Nat},s₁.heap.get? b=aa o->o.data=.dict es ep->H b=ab:=λ{b o es ep} e d=>by
   cases q:H b with
   |none=>rfl
   |some u=>
    have e':b=a:=hA b (by rw[q];simp)
    subst e';rw[ha] at e;cases e;have d':Data.seq vs.toArray _=Data.dict es ep:=d;cases d'
  have vw:∀ {b:aC} {m:aD->aao},s₁.heap.Ns b m->(pJ s₁.heap H).Ns b m:=λ{b m} ⟨o,es,ep,e,d,r⟩=>⟨o,es,ep,base_of e (tj e d),d,r⟩
  have A6:K.In (pJ s₁.heap H):=λb o e=>base_of (KX b o e) (by
   cases q:H b with
   |none=>rfl
   |some u=>
    have e':b=a:=hA b (by rw[q];simp)
    subst e';rw[hK (by rw[q];simp)] at e;cases e)
  have hM:Mod K mg (pJ s₁.heap H):=⟨A6,vw A5,⟨mb,vw hb,G9⟩,let ⟨mc,h1,h2⟩:=xh;⟨mc,vw h1,h2⟩⟩;have e0:Env0 P w K mg (pJ s₁.heap H) vT [] s₁ H:=⟨rfl,hM,λb o e=>Lc e,EH (Zq _ _),trivial,λb hb=>absurd (show b∈([]:aaj) from hb) (by simp),hok,.of_eq hg⟩
  refine LM ((F _ A6 (vw A5)).run vT [] s₁ H ⟨[.ref a],[]⟩ [.ref a] [.ref a] _ _ hr e0 (tp s₁ (.ref a)) (.cons rfl .nil) (pd H hO hS)) λr s' h=>?_
  cases r with
  |error e=>exact(xi H e s' h).elim
  |ok fl=>
   cases fl with
   |next=>exact pY h
   |brk=>exact pY h
   |cont=>exact pY h
   |ret u=>
    obtain⟨v,H',os,bare,un,xk,r',q⟩:=h;have q':v=.bl af:=q;subst q';obtain rfl:u=Value.bool af:=r';refine⟨rfl,OldK.of_keep λb o e=>?_,os,bare⟩
    cases q:H b with
    |none=>exact un.keep b o e q (by intro z;exact absurd (show b∈([]:aaj) from z) (by simp)) (by simp)
    |some u=>
     rcases hO b with z|⟨ob,xs,z⟩
     .rw[q] at z;cases z
     .have z2:=un.frzs b ob _ z;obtain⟨e1,_⟩:=hok b _ z;obtain⟨e2,_⟩:=xk b _ z2;rw[e] at e1;cases e1;exact e2
 cases hk:K.lookup a with
 |some o=>
  have e:=KX a o hk;rw[ha] at e;cases e;refine tq (λ_=>ab) (λ_=>.inl rfl) (.inr ⟨_,vs.toArray,_,hk,rfl,rfl,rfl,by rw[fR,xj];exact hl,by simpa using rv⟩) (λb u z=>by have z':(ab:Option HO)=aa u:=z;cases z') (λb z=>absurd rfl z) λz=>absurd rfl z
 |none=>
  refine tq (λb=>if b=a then aa (.frz { cls:=.type "list",data:=.seq vs.toArray } (.lst (ns.map V.int))) else ab) (λb=>?_) (.inl (.inr ⟨{ cls:=.type "list",data:=.seq vs.toArray },if_pos rfl⟩)) (λb u z=>?_) (λb z=>?_) λ_=>hk
  .by_cases hb:b=a
   .exact .inr ⟨_,_,if_pos hb⟩
   .exact .inl (if_neg hb)
  .by_cases hb:b=a
   .have z':=(if_pos hb).symm.trans z;cases z';subst hb;exact⟨ha,by rw[fA];exact hl,vs,_,rv,ha⟩
   all_goals grind
  all_goals grind
def yB (s:fU):Arguments:=match s with
 |.FunctionDef _ a _ _ _ _ _ _ _ _=>a
 |_=>{ posonlyargs:=[],args:=[],vararg:=ab,kwonlyargs:=[],kw_defaults:=[],kwarg:=ab,defaults:=[] }
def mW (s:fU):List fU:=match s with
 |.FunctionDef _ _ b _ _ _ _ _ _ _=>b
 |_=>[]
def dI (s:fU):gY:=match s with
 |.FunctionDef _ _ _ _ _ _ sc _ _ _=>sc
 |_=>{ kind:=.function,names:=[],isGenerator:=ag,isCoroutine:=ag }
abbrev jw:m8:=λ_ _ _ _ _ _=>False
abbrev E0:XK:=λ_ _ _=>False
theorem Ez:Passes jw X E0:=λ_ _ _ _ _ _ _ h=>h.elim
structure Fun (K:aM)(x qual:aD)(st:fU)(f:aC)(fd:lA):Prop where
 ex:∃ (oc:aF) (od:Option aC) (kV ji pm:aF) (an:Option aC) (cc ct:aF) (o9:Array (Option aF)),
  fd=vW x qual (yB st) (mW st) (dI st) .none kV ji pm an cc ct/\K.lookup f=aa ⟨oc,od,.func fd,o9⟩/\LR K cc qual=af
 kp:EB K (.ref f)=af
section
variable {P:bW}{base:aY}
theorem Fun.ok{k:Nat}(F:Fun K x qual st f fd)(S:FnScope N ps (dI st))(len:∀ vs H Q E,sp vs H Q E->vs.length=ps.length)
  (lu:∀ (cc:aF) (A:cP) (outer:List fE) (s:aK) (H:Hp) (vs:aag) (Q:VK) (E:XK),Room k (A.deeper (envOfC qual (dI st) s.heap.objs.size f cc))->sp vs H Q E ->
   ∃ t,PSs (mL jw P w K mg base N qual (dI st) f cc A outer s H E).nox (mW st) t/\t { nx:=λ_ H'=>Q .non H',rt:=Q } (start N vs) H):FnOk P w K mg base jw (k+1) f fd ps sp:=by
 obtain⟨oc,od,kV,ji,pm,an,cc,ct,o9,rfl,lk,lr⟩:=F.ex;refine Fv lk lr S len λA outer s H vs Q E hr pd=>?_
 obtain⟨t,h,q⟩:=lu cc A outer s H vs Q E hr pd;exact⟨t,h.nox,q⟩
theorem Fun.binds(F:Fun K x qual st f fd)
  (h:∀ (kV ji pm:aF) (an:Option aC) (cc ct:aF) (us:aal),us.length=ps.length->bindArgs (vW x qual (yB st) (mW st) (dI st) .none kV ji pm an cc ct) ⟨us,[]⟩=pure (ps.zip us)):Binds K fd ps []:=by
 obtain⟨oc,od,kV,ji,pm,an,cc,ct,o9,rfl,lk,lr⟩:=F.ex;exact .all (h kV ji pm an cc ct)
theorem Jd{oc:aF}{od an:Option aC}{o9:Array aao}{kV ji pm cc ct:aF}(l:K.lookup f=aa ⟨oc,od,.func (vW x qual (yB st) (mW st) (dI st) .none kV ji pm an cc ct),o9⟩)
  (c:LR K cc qual=af) (k:EB K (.ref f)=af):Fun K x qual st f (vW x qual (yB st) (mW st) (dI st) .none kV ji pm an cc ct):=⟨⟨oc,od,kV,ji,pm,an,cc,ct,o9,rfl,l,c⟩,k⟩
end
theorem zI{k:Nat}(hr:Room k A):A.units+40<cLine:=Nat.lt_of_le_of_lt (Nat.add_le_add_left (by decide:40<=64) _) hr.units
theorem pv (i:Nat)(hN:Nm X i x:=by exact kN):PE X (.Name x pos) (tO i):=hN.pe
theorem Yw:Adn X (.builtin "len") (λxs H Q=>∃ a ep kvs,xs=[V.ref a]/\H a=aa (.dK ep kvs)/\Q (.int kvs.length) H):=by
 rw[3];obtain⟨a,ep,kvs,rfl,ha,q⟩:=h;obtain⟨u,rfl,ru⟩:=vals1 r;cases ru;exact Fm I (.inl ha) λt s' I'=>⟨.int kvs.length,H,I',⟨t,rfl⟩,q⟩
theorem rH {A B:Prop}(h:B):if ag=af then A else B:=by
 rw[if_neg oW];exact h
theorem rG {A B:Prop}(h:A):if af=af then A else B:=by
 rw[if_pos rfl];exact h
section
variable {prog:bW}{R:tR->aK->Prop}
theorem Sm {ic:aS}{scope:gY}{it aq:aF}(I:Nat->aK->Prop)
  (turn:∀ n s,I n s->aP (aW prog w) A (jJ it) (λr s₁=>match r with
   |none=>R (.ok .next) s₁
   | some v=>aP (aW prog w) A (LI ic it v) (λ_ s₂=>aP (aW prog w) A (nB ic env v) (λ_ s₃=>
     aP (aW prog w) A (forIn g9 af λc r=>if r=af then do let ok <-isTrue c env (cA c env);pure (AC ok) else pure (AC r)) (λok s₄=>
      if ok=af then aP (aW prog w) A (cA io env) (λx s₅=>
       aP (aW prog w) A (call (.builtin "list.append") [aq,x]) (λ_ s₆=>∃ m,m<n/\I m s₆) (λ_ _=>False) s₅) (λ_ _=>False) s₄
      else ∃ m,m<n/\I m s₄) (λ_ _=>False) s₃) (λ_ _=>False) s₂) (λ_ _=>False) s₁) (λ_ _=>False) s)
  (n:Nat) (h:I n s):oR (aW prog w) A (.compLoop (.ListComp io [⟨ic,bq,g9,0⟩] scope pos) 0 it aq env) R s:=by
 refine codeAny_loop rfl I (λn s hI=>?_) n h
 refine wpAny_noted ?_;rw[compTurn_list];refine aI (wpAny_standAt (aI (lP (turn n s hI) (λr s₁ h₁=>?_) λ_ _ h'=>h'.elim)))
 cases r with
 |none=>exact aZ h₁
 |some v=>
  refine aI (lP h₁ (λ_ s₂ h₂=>?_) λ_ _ h'=>h'.elim)
  refine aI (lP h₂ (λ_ s₃ h₃=>aI (lP h₃ (λok s₄ h₄=>?_) λ_ _ h'=>h'.elim)) λ_ _ h'=>h'.elim)
  cases ok with
  |false=>exact aZ ⟨rfl,h₄⟩
  |true=>
   exact aI (aI (lP h₄ (λx s₅ h₅=>aI (lP h₅ (λ_ s₆ h₆=>aZ (aZ ⟨rfl,h₆⟩)) λ_ _ h'=>h'.elim)) λ_ _ h'=>h'.elim))
end
theorem cellOf_eq{n:aD}{c:aC}(h:env.cells.lookup n=aa c):cellOf env n=pure c:=by
 unfold cellOf;rw[h]
noncomputable def iN (env:fE):wp->lm->lm
 |[],cs=>cs
 |(n,k)::r,cs=>iN env r (if (k==mF)=af then(match env.cells.lookup n with|some c=>(n,c)::cs|none=>cs) else cs)
theorem YB(h:∀ n,(n,mF)∈sc.names->∃ c,env.cells.lookup n=aa c):closureFor sc env=pure (iN env sc.names []):=by
 unfold closureFor;generalize sc.names=l at h;have go:∀ (l:wp) (cs:lm),(∀ n,(n,mF)∈l->∃ c,env.cells.lookup n=aa c) ->
   (forIn l cs (λ(x:aD×jS) (r:lm)=>if (x.2==mF)=af then(do let c <-cellOf env x.1;pure (AC ((x.1,c)::r))) else pure (AC r)):Sem lm)=pure (iN env l cs):=by
  intro l;induction l with
  |nil=>intro cs _;rfl
  |cons p r ih=>
   intro cs hl;obtain⟨n,k⟩:=p;rw[EM];have hr:∀ n,(n,mF)∈r->∃ c,env.cells.lookup n=aa c:=λn hn=>hl n (cL _ hn)
   cases hk:(k==mF) with
   |true=>
    have ek:k=mF:=by simpa using hk
    subst ek;obtain⟨c,hc⟩:=hl n bT;have e1:iN env ((n,mF)::r) cs=iN env r ((n,c)::cs):=by
     show iN env r (if (mF==mF)=af then(match env.cells.lookup n with|some c=>(n,c)::cs|none=>cs) else cs)=_
     rw[hc];rfl
    rw[e1];simp only[cellOf_eq hc,hk,if_true];exact ih ((n,c)::cs) hr
   |false=>
    have e1:iN env ((n,k)::r) cs=iN env r cs:=by
     show iN env r (if (k==mF)=af then(match env.cells.lookup n with|some c=>(n,c)::cs|none=>cs) else cs)=_
     rw[hk];rfl
    grind
 grind
theorem JG:∀ (l:wp) (cs:lm),(∀ x c,cs.lookup x=aa c->env.cells.lookup x=aa c)->∀ x c,(iN env l cs).lookup x=aa c->env.cells.lookup x=aa c
 |[],cs,h,x,c,e=>h x c e
 |(n,k)::r,cs,h,x,c,e=>by
  refine JG r _ ?_ x c e
  grind
theorem WZ{c:aC}(hx:env.cells.lookup x=aa c):∀ (l:wp) (cs:lm),cs.lookup x=aa c->(iN env l cs).lookup x=aa c
 |[],cs,h=>h
 |(n,k)::r,cs,h=>by
  refine WZ hx r _ ?_
  grind
theorem JF{c:aC}(hx:env.cells.lookup x=aa c):∀ (l:wp) (cs:lm),(x,mF)∈l->(iN env l cs).lookup x=aa c
 |[],cs,h=>by simp at h
 |(n,k)::r,cs,h=>by
  rcases dJ.1 h with e|h
  .cases e;refine WZ hx r _ ?_
   grind
  .exact JF hx r _ h
theorem XE(x:aD):(vR sc env).names.lookup x=(sc.names.lookup x).map λk=>if (k==mF&&env.scope.kind==.function&&env.kindOf x==aa .cell)=af then MB else k:=by
 unfold vR;induction sc.names with
 |nil=>rfl
 |cons p r ih=>
  grind
theorem lookup_mem {α:Type}{v:α}:∀ {l:List (aD×α)},l.lookup x=aa v->(x,v)∈l
 |[],h=>by simp at h
 |(n,k)::r,h=>by
  by_cases hy:(x==n)=af
  .grind
  .have qj:(x==n)=ag:=by simpa using hy
   simp only[MG,qj] at h;exact cL _ (lookup_mem h)
theorem JC {α:Type}(x:aD):∀ (l m:List (aD×α)),(l++m).lookup x=(l.lookup x).or (m.lookup x)
 |[],m=>rfl
 |(n,k)::r,m=>by
  rw[AA,MG,MG];cases x==n with
  |true=>rfl
  |false=>exact JC x r m
theorem KA:∀ (names:wp) (n:Nat) (a b:lm),jC n names (a++b)=jC n names a++b
 |[],_,_,_=>rfl
 |(x,k)::r,n,a,b=>by
  unfold jC;split
  .exact KA r (n+1) ((x,n)::a) b
  .exact KA r n a b
theorem KF:∀ (names:wp) (n:Nat) (a:lm) {x:aD} {c:aC},(x,c)∈jC n names a->(x,MB)∈names\/(x,c)∈a
 |[],_,_,_,_,h=>.inr h
 |(y,k)::r,n,a,x,c,h=>by
  unfold jC at h;split at h
  .rename_i hk;have hk:k=.cell:=by simpa using hk
   rcases KF r _ _ h with q|q
   .exact .inl (cL _ q)
   .rcases dJ.1 q with e|q
    .cases e;rw[hk];exact .inl bT
    .exact .inr q
  .exact(KF r _ _ h).imp (cL _) id
theorem yY:∀ (names:wp) (n:Nat) (a:lm) {x:aD},((x,MB)∈names\/∃ c,a.lookup x=aa c)->∃ c,(jC n names a).lookup x=aa c
 |[],_,_,_,h=>h.elim (λh=>nomatch h) id
 |(y,k)::r,n,a,x,h=>by
  unfold jC;split
  .refine yY r _ _ ?_;by_cases e:x=y
   .subst e;exact .inr ⟨n,by simp⟩
   .rcases h with h|⟨c,h⟩
    .rcases dJ.1 h with q|q
     .cases q;exact absurd rfl e
     .exact .inl q
    .exact .inr ⟨c,by rw[MG,show(x==y)=ag by simpa using e];exact h⟩
  .rename_i hk;refine yY r _ _ (h.imp (λh=>?_) id)
   rcases dJ.1 h with q|q
   .cases q;exact absurd rfl hk
   .exact q
def kB (sc:gY)(env:fE)(n:Nat):lm:=jC (n+1) sc.names (iN env sc.names [])
theorem SX (sc:gY)(env:fE)(n:Nat):kB sc env n=jC (n+1) sc.names []++iN env sc.names []:=by
 unfold kB;rw[<-KA]
 rfl
noncomputable def hV (X:Cx)(N:aan)(sc:gY)(cl:lm)(C:aC)(s₀:aK)(H₀:Hp)(ex:aaj):Cx:=
 { X with N:=N,s₀:=s₀,H₀:=H₀,env:=compEnvC sc cl C X.env,outer:=X.stack,ex:=ex,fn:=λx=>sc.names.lookup x==aa .cell,pn:=[],xe:=λ_ _=>False }
structure CompScope (X:Cx)(N:List aD)(cap:List (Option Nat))(sc:gY):Prop where
 kind:sc.kind=.function
 own:∀ y∈sc.names,y.2=.cell->sc.names.lookup y.1=aa .cell
 nm:∀ y∈sc.names,y.2=.local->sc.names.lookup y.1=aa .local
 fre:∀ y∈sc.names,y.2=.free->X.env.scope.names.lookup y.1=aa .cell\/X.env.scope.names.lookup y.1=aa .free
 len:cap.length=N.length
 cap:∀ (i j:Nat),cap[i]?=aa (aa j)->∃ x,N[i]?=aa x/\X.N[j]?=aa x/\sc.names.lookup x=aa .free
noncomputable def tZ (cap:lf)(σ:St):St:=cap.map λo=>o.bind λj=>(σ[j]?).join
def rU (X:Cx)(g9:List aS)(t:TT):Prop:=
 ∀ (ac:dl) (s:aK) (σ:St) (H:Hp) (Q:Bool->Hp->Prop),Inv X ac σ H s->t σ H Q ->
  aP (aW X.prog X.w) X.A (forIn g9 af λc r=>if r=af then do let ok <-isTrue c X.env (cA c X.env);pure (AC ok) else pure (AC r)) (TP X ac σ Q) X.xe s
def Gh:TT:=λ_ H Q=>Q af H
theorem Nv:rU X [] Gh:=λ_ _ _ H _ I h=>wpAny_tests_nil ⟨H,I,h⟩
theorem Lb(h:PT X c t):rU X [c] t:=λac s σ H Q I hw=>wpAny_tests_one (h ac s σ H Q I hw)
def NJ (cap:lf)(J:It)(g:TG)(tc:TT)(te:TE)(σ:St)(H1:Hp)(Q:VK):Prop:=∀ D,H1 D=ab ->
 ∃ W:Nat->Nat->aag->St->Hp->Prop,(∃ m,W 0 m [] (tZ cap σ) (upd H1 D (.lst []))) /\
  ∀ i m ys σ' H',W i m ys σ' H'->H' D=aa (.lst ys)/\((J.stop i H'/\Q (.ref D) H') \/
   (J.go i H'/\ys.length<sizeLine/\∃ M:aag->St->Hp->Prop,(∀ zs σ2 H2,M zs σ2 H2->∃ m',m'<m/\W (i+1) m' zs σ2 H2)/\∀ x H2,J.yld i H' x H2->g x σ' H2 λσ3 H3=>tc σ3 H3 λb H4=>
    if b=af then te σ3 H4 λy H5=>H5 D=aa (.lst ys)/\M (ys++[y]) σ3 (upd H5 D (.lst (ys++[y]))) else M ys σ3 H4))
def z7 (cap:lf)(wi:TI)(g:TG)(tc:TT)(te:TE):TE:=λσ H Q=>wi σ H λJ H1=>NJ cap J g tc te σ H1 Q
theorem CompScope.cells (S:CompScope X N cap sc)(ok:X.Ok):∀ n,(n,mF)∈sc.names->∃ c,X.env.cells.lookup n=aa c:=λn hn=>ok.has n (S.fre _ hn rfl)
theorem SK (sc:gY)(h:aY):CellsOk (pushCells (h.push { cls:=.type "dict",data:=.dict #[] }) sc.names) (h.objs.size+1) (jC (h.objs.size+1) sc.names []):=by
 have ok:=cellsFrom_ok sc.names (h.push { cls:=.type "dict",data:=.dict #[] }) (h.objs.size+1) [] ⟨λ_ _ hm=>(nomatch hm),List.Pairwise.nil⟩ (by rw[pX];exact bS _)
 rwa [pX] at ok
theorem vK{c:aC}(h:(kB sc env n).lookup x=aa c):(x,c)∈jC (n+1) sc.names []\/((jC (n+1) sc.names []).lookup x=ab/\(iN env sc.names []).lookup x=aa c):=by
 rw[SX,JC] at h;cases e:(jC (n+1) sc.names []).lookup x with
 |none=>rw[e] at h;exact .inr ⟨rfl,h⟩
 |some c'=>rw[e] at h;cases h;exact .inl (vV e)
theorem CompScope.free (S:CompScope X N cap sc){c:aC}(f:sc.names.lookup x=aa .free)(h:(iN env sc.names []).lookup x=aa c):(kB sc env n).lookup x=aa c:=by
 rw[SX,JC];cases e:(jC (n+1) sc.names []).lookup x with
 |none=>exact h
 |some c'=>
  rcases KF _ _ _ (vV e) with q|q
  .have:=S.own _ q rfl;rw[f] at this;cases this
  .exact nomatch q
theorem Om (S:CompScope X N cap sc){fp:aaj}(I:Inv X ac σ H s)(hf:∀ b∈fp,jV X ac H b)(hl:∀ b∈fp,b<s.heap.objs.size) :
  (hV X N sc (kB sc X.env s.heap.objs.size) s.heap.objs.size s H fp).Ok:=by
 have sub:∀ x c,(iN X.env sc.names []).lookup x=aa c->X.env.cells.lookup x=aa c:=JG sc.names [] (λx c e=>by simp at e)
 have nw:=SK sc s.heap;have dL:∀ {x c},(iN X.env sc.names []).lookup x=aa c->c<s.heap.objs.size:=λ{x c} e=>by
  obtain⟨v,h⟩:=I.cell x c (sub x c e);exact h.lt
 refine⟨I.ok.mod,?_,I.ok.glob,I.ok.blt,bS _,?_,?_,?_,I.ok.hd,I.ok.frames,.inl rfl,?_,I.bs,kK I.ok.bsz I.sz,?_,?_,I.stack,I.stkFree⟩
 .exact S.kind
 .intro x y c h1 h2;rcases vK h1 with a|⟨_,a⟩<;>rcases vK h2 with b|⟨_,b⟩
  .exact name_of_addr nw.apart a b
  .have:=(nw.empty _ _ a).2;have:=dL b;lia
  .have:=(nw.empty _ _ b).2;have:=dL a;lia
  .exact I.ok.inj x y c (sub x c a) (sub y c b)
 .intro x hx;have hk:(vR sc X.env).names.lookup x=aa .cell\/(vR sc X.env).names.lookup x=aa .free:=hx;rw[XE] at hk;cases e:sc.names.lookup x with
  |none=>rw[e] at hk;simp at hk
  |some k=>
   rw[e] at hk;have hm:=lookup_mem e;have kk:k=.cell\/k=.free:=by grind
   rcases kk with rfl|rfl
   .exact yY _ _ _ (.inl hm)
   .obtain⟨c,hc⟩:=S.cells I.ok x hm;exact yY _ _ _ (.inr ⟨c,JF hc _ _ hm⟩)
 .intro x c h1 h2;have e:sc.names.lookup x=aa .cell:=by simpa using(show(sc.names.lookup x==aa .cell)=af from h1)
  rcases vK h2 with a|⟨a,_⟩
  .exact Nat.le_of_succ_le (nw.empty _ _ a).2
  .obtain⟨c',h⟩:=yY sc.names (s.heap.objs.size+1) [] (.inl (lookup_mem e));rw[a] at h;cases h
 .intro b hb;refine⟨fH (hl b hb),λx c e=>?_⟩
  rcases vK e with a|⟨_,a⟩
  .have:=(nw.empty _ _ a).2;have:=hl b hb;lia
  .exact(hf b hb).2.2.2.2.1 x c (sub x c a)
 .intro b o e hb;rcases(hf b hb).2.2.2.1 with z|z
  .exact I.ok.noex b o e z
  .exact absurd (iF (bX e) (kK I.ok.bsz z)) (mE _)
 .intro b hb hz;obtain⟨_,h1,h2,_⟩:=hf b hb;rcases dJ.1 (I.stkSub b hz) with e|e
  .exact h1 e
  .exact h2 e
theorem Wg (S:CompScope X N cap sc){fp:aaj}{h':aY}{tk:Nat}(I:Inv X ac σ H s)(hf:∀ b∈fp,jV X ac H b)(hl:∀ b∈fp,b<s.heap.objs.size)
  (hn:h'.Ns s.heap.objs.size λ_=>ab) (hk:∀ b o,s.heap.get? b=aa o->h'.get? b=aa o) (hw:CellsOk h' (s.heap.objs.size+1) (jC (s.heap.objs.size+1) sc.names [])) :
  Inv (hV X N sc (kB sc X.env s.heap.objs.size) s.heap.objs.size s H fp) [] (tZ cap σ) H { s with heap:=h',toks:=tk }:=by
 have sub:∀ x c,(iN X.env sc.names []).lookup x=aa c->X.env.cells.lookup x=aa c:=JG sc.names [] (λx c e=>by simp at e)
 have fr:=I.hok.fresh (bS _);refine⟨Om S I hf hl,rfl,I.bare,Un.kept hk,⟨_,hn,λi x v e1 e2 e3=>?_⟩,λx c e=>?_,fr,λx c e=>(vK e).elim (λa=>I.hok.fresh (Nat.le_of_succ_le (hw.empty _ _ a).2)) λa=>I.Ade x c (sub x c a.2),λp hp=>by simp[hV] at hp,I.hok.kept hk,?_⟩
 .have pi:(cap.map λo=>o.bind λj=>(σ[j]?).join)[i]?=aa (aa v):=e2
  rw[eU] at pi;cases hc:cap[i]? with
  |none=>rw[hc] at pi;simp at pi
  |some o=>
   rw[hc] at pi;simp only[vY,Option.some.injEq] at pi;cases o with
   |none=>simp at pi
   |some j=>
    have pi:(σ[j]?).join=aa v:=pi;have ej:σ[j]?=aa (aa v):=by
     grind
    obtain⟨y,n1,n2,xl⟩:=S.cap i j hc;have Id:=fM (e1.symm.trans n1);subst Id;have hmem:=lookup_mem xl;have lv:=S.fre _ hmem rfl;obtain⟨m,_,Ix⟩:=I.loc;obtain⟨u,r,l⟩:=Ix j x v n2 ej (.inr lv);refine⟨u,r,.inr ⟨?_,?_⟩⟩
    .show(vR sc X.env).names.lookup x=aa .cell\/(vR sc X.env).names.lookup x=aa .free;rw[XE,xl]
     grind
    .rcases l with⟨k1,_⟩|⟨_,c,pj,ke⟩
     .exfalso;have k1':X.env.scope.names.lookup x=aa .local:=k1
      grind
     .obtain⟨oc,h1,h2⟩:=ke;exact⟨c,S.free xl (JF pj _ _ hmem),oc,hk _ _ h1,h2⟩
 .rcases vK e with a|⟨_,a⟩
  .exact⟨_,(hw.empty _ _ a).1⟩
  .obtain⟨v,oc,h1,h2⟩:=I.cell x c (sub x c a);exact⟨v,oc,hk _ _ h1,h2⟩
 .show(cap.map _).length=N.length;rw[fA,S.len]
theorem comp_back {fp:aaj}{cl:lm}{σ':St}{s':aK}{pl:dl}(I:Inv X ac σ H s)(hf:∀ b∈fp,jV X ac H b)
  (I':Inv (hV X N sc cl s.heap.objs.size s H fp) pl σ' H' s'):Inv X ac σ H' s':=
 I.call' I'.os (show Un (k8 X.stack) fp H H' s.heap s'.heap from I'.base) I'.hok I'.bare λb hb=>⟨(hf b hb).2.2.2.1,(hf b hb).2.1,(hf b hb).2.2.2.2.1,(hf b hb).2.2.2.2.2⟩
section
variable {wi:TI}{g:TG}{tc:TT}{te:TE}
def Block (X:Cx)(N:aan)(sc:gY)(tg io:aS)(g9:List aS)(g:TG)(tc:TT)(te:TE):Prop:=
 ∀ (cl:lm) (C:aC) (s₀:aK) (H₀:Hp) (ex:aaj),PG (hV X N sc cl C s₀ H₀ ex) tg g/\rU (hV X N sc cl C s₀ H₀ ex) g9 tc/\PE (hV X N sc cl C s₀ H₀ ex) io te
theorem Tv {M:Model}{E:aF->aK->Prop}{scope:gY}{globals:aC}{cl:lm}{func:Option aC}{code:aF}{ae:fE}{bi:aC}{Q:fE->aK->Prop}
  (hQ:Q (newEnv scope s.heap.objs.size globals (jC (s.heap.objs.size+1) scope.names cl) qual func code (aa ae) bi) { s with heap:=pushCells (s.heap.push { cls:=.type "dict",data:=.dict #[] }) scope.names }) :
  aP M A (newFunctionEnv scope globals cl [] qual func code (aa ae) bi) Q E s:=by
 simp only[newFunctionEnv,Option.isSome_some,if_true];refine aI (wpAny_alloc ?_);refine aI (wpAny_layCells _ (λname kind cells=>by cases IN:kind==MB<;>simp[IN]) _ _ _ _ ?_)
 rw[show({ s with heap:=s.heap.push { cls:=.type "dict",data:=.dict #[] } }:aK).heap.objs.size=s.heap.objs.size+1 from pX ..]
 exact aI (aZ (aZ hQ))
theorem PM{RR:aF->aC->tR->aK->Prop}{E:aF->aK->Prop}(hc:X.calm=af)(S:CompScope X N cap sc)(hb:Block X N sc tg io g9 g tc te)
  {it:aC} {fp:aaj} {tn:Nat->aY->Prop} {J:It} {Q:VK} (I:Inv X ac σ H s) (T:Turn X.prog X.w X.K tg J fp it tn) (st:tn 0 s.heap) (hf:∀ b∈fp,jV X ac H b)
  (q:NJ cap J g tc te σ H Q)
  (IO:∀ (D:aC) (s₀:aK) (H₀:Hp) (σ':St) (H':Hp) (s':aK),Inv X ac σ H₀ s₀->(∀ b∈fp,jV X ac H₀ b)->Inv (hV X N sc (kB sc X.env s₀.heap.objs.size) s₀.heap.objs.size s₀ H₀ fp) [] σ' H' s'->Q (.ref D) H' ->
   RR (.ref D) s₀.heap.objs.size (.ok .next) s') :
  aP (aW X.prog X.w) X.A (newList []) (λaq s₃=>aP (aW X.prog X.w) X.A (newFunctionEnv sc X.env.globals (iN X.env sc.names []) [] X.env.qual ab .none (aa X.env)) (λtu s₄=>
   oR (aW X.prog X.w) X.A (.compStart (.ListComp io [⟨tg,bq,g9,0⟩] sc pos) 0 (.ref it) aq { tu with scope:=vR sc X.env }) (RR aq tu.locals) s₄) E s₃) E s:=by
 have hl:∀ b∈fp,b<s.heap.objs.size:=λb hb=>by
  obtain⟨o,e,_⟩:=T.obj 0 _ st b hb;exact bX e
 refine nY (Tv ?_);dsimp only;have I0:Inv X ac σ (upd H s.heap.objs.size (.lst [])) { s with heap:=s.heap.push { cls:=.type "list",data:=.seq ([]:aal).toArray },toks:=s.toks }:=I.lnew .nil (by simp)
 obtain⟨W,⟨m0,w0⟩,turn⟩:=q s.heap.objs.size I.fresh;generalize pq:({ s with heap:=s.heap.push { cls:=.type "list",data:=.seq ([]:aal).toArray },toks:=s.toks }:aK)=s0 at I0;have hh:s.heap.push { cls:=.type "list",dict:=ab,data:=.seq ([]:aal).toArray }=s0.heap:=by rw[<-pq]
 have ht0:s0.toks=s.toks:=by rw[<-pq]
 have hg0:s0.gens=s.gens/\s0.drawn=s.drawn/\s0.os=s.os:=by rw[<-pq];exact⟨rfl,rfl,rfl⟩
 rw[hh];generalize tw:pushCells (s0.heap.push { cls:=.type "dict",data:=.dict #[] }) sc.names=h₁;have nw:CellsOk h₁ (s0.heap.objs.size+1) (jC (s0.heap.objs.size+1) sc.names []):=by rw[<-tw];exact SK sc s0.heap
 have qk:h₁.Ns s0.heap.objs.size λ_=>ab:=by rw[<-tw];exact(Heap.Ns.new s0.heap (.type "dict")).keeps (pushCells_keeps _ _)
 have tz:∀ b o,s.heap.get? b=aa o->s0.heap.get? b=aa o:=λb o e=>by rw[<-hh];exact cF _ e
 have t4:∀ b o,s0.heap.get? b=aa o->h₁.get? b=aa o:=λb o e=>by rw[<-tw];exact pushCells_keeps _ _ b o (cF _ e)
 have xm:∀ b∈fp,b<s0.heap.objs.size:=λb hb=>by
  obtain⟨o,e,_⟩:=T.obj 0 _ st b hb;exact bX (tz b o e)
 have xn:∀ b∈fp,jV X ac (upd H s.heap.objs.size (.lst [])) b:=λb hb=>by
  refine⟨?_,(hf b hb).2⟩;rw[dY (fH (hl b hb))];exact(hf b hb).1
 have I1:Inv (hV X N sc (kB sc X.env s0.heap.objs.size) s0.heap.objs.size s0 (upd H s.heap.objs.size (.lst [])) fp) [] (tZ cap σ) (upd H s.heap.objs.size (.lst [])) { s0 with heap:=h₁,toks:=s.toks }:=
  Wg S I0 xn xm qk t4 nw
 obtain⟨pg,pf,pe⟩:=hb (kB sc X.env s0.heap.objs.size) s0.heap.objs.size s0 (upd H s.heap.objs.size (.lst [])) fp;have jr:=T.keep _ _ _ st λb hb o e=>t4 b o (tz b o e)
 have j5:∀ {H':Hp},(∀ b∈fp,H' b=ab)->∀ b∈fp,jV (hV X N sc (kB sc X.env s0.heap.objs.size) s0.heap.objs.size s0 (upd H s.heap.objs.size (.lst [])) fp) [] H' b:=λhn b hb=>
  ⟨hn b hb,(I1.ok.exf b hb).1,I1.ok.exfs b hb,.inl hb,(I1.ok.exf b hb).2,λp hp=>by simp[hV] at hp⟩
 have t5:∀ s3:aK,s3={ s0 with heap:=h₁,toks:=s.toks } ->
   oR (aW X.prog X.w) X.A (.compLoop (.ListComp io [⟨tg,bq,g9,0⟩] sc pos) 0 (.ref it) (.ref s.heap.objs.size) (compEnvC sc (kB sc X.env s0.heap.objs.size) s0.heap.objs.size X.env)) (RR (.ref s.heap.objs.size) s0.heap.objs.size) s3:=by
  rintro s3 rfl;refine Sm (λn s'=>∃ i ys σ' H',Inv (hV X N sc (kB sc X.env s0.heap.objs.size) s0.heap.objs.size s0 (upd H s.heap.objs.size (.lst [])) fp) [] σ' H' s'/\tn i s'.heap/\(∀ b∈fp,H' b=ab)/\W i n ys σ' H') ?_ m0
   ⟨0,[],tZ cap σ,_,I1,jr,λb hb=>(xn b hb).1,w0⟩
  rintro n s3 ⟨i,ys,σ3,H3,I3,sK,tf,w3⟩;obtain⟨hD,h3⟩:=turn i n ys σ3 H3 w3;rcases h3 with⟨stop,qn⟩|⟨go,au,M,hM,step⟩
  .refine bb (T.done (hV X N sc (kB sc X.env s0.heap.objs.size) s0.heap.objs.size s0 (upd H s.heap.objs.size (.lst [])) fp) rfl rfl rfl hc i [] s3 σ3 H3 (λ_ _=>False) I3 (j5 tf) sK stop) λr s4 gh=>?_
   obtain⟨hr,I4⟩:=gh;subst hr;exact IO _ s0 _ σ3 H3 s4 I0 xn I4 qn
  .refine bb (T.item (hV X N sc (kB sc X.env s0.heap.objs.size) s0.heap.objs.size s0 (upd H s.heap.objs.size (.lst [])) fp) rfl rfl rfl hc i [] s3 σ3 H3 (λ_ _=>False) I3 (j5 tf) sK go) λr s4 gh=>?_
   obtain⟨u,hr,h4⟩:=gh;subst hr;refine bb h4 λ_ s5 gh=>?_
   obtain⟨x,H5,I5,r5,y5,df,w6⟩:=gh;have w9:=I5.pinned (j5 w6) (T.obj _ _ df);refine bb (pg _ s5 σ3 H5 x u _ w9 r5 (step x H5 y5)) λ_ s6 gh=>?_
   obtain⟨σ6,H6,I6,q6⟩:=gh;refine bb (pf _ s6 σ6 H6 _ I6 q6) λb s7 gh=>?_
   obtain⟨H7,I7,q7⟩:=gh;have again:∀ {s8:aK} {H8:Hp} {zs:aag},Inv (hV X N sc (kB sc X.env s0.heap.objs.size) s0.heap.objs.size s0 (upd H s.heap.objs.size (.lst [])) fp) ([]++xK fp s5.heap) σ6 H8 s8->M zs σ6 H8 ->
     ∃ m,m<n/\∃ i ys σ' H',Inv (hV X N sc (kB sc X.env s0.heap.objs.size) s0.heap.objs.size s0 (upd H s.heap.objs.size (.lst [])) fp) [] σ' H' s8/\tn i s8.heap/\(∀ b∈fp,H' b=ab)/\W i m ys σ' H':=λ{s8 H8 zs} I8 w8=>by
    obtain⟨m',hm,w8⟩:=hM _ _ _ w8;refine⟨m',hm,i+1,zs,σ6,H8,I8.unpinned,T.keep _ _ _ df λb hb o e=>(I8.pin (b,o) (oU _ (oU _ (CN hb e)))).1,λb hb=>?_,w8⟩
    obtain⟨o,e,d⟩:=T.obj _ _ df b hb;exact(I8.pin (b,o) (oU _ (oU _ (CN hb e)))).2.1
   cases b with
   |false=>
    rw[if_neg oW] at q7 ⊢;exact again I7 q7
   |true=>
    rw[if_pos rfl] at q7 ⊢;refine bb (pe _ s7 σ6 H7 _ I7 q7) λv s8 gh=>?_
    obtain⟨y,H8,I8,r8,J0,w8⟩:=gh;refine bb (CJ _ s8 σ6 H8 (.ref s.heap.objs.size) [y] (.ref s.heap.objs.size) [v] (λ_ H9=>H9=upd H8 s.heap.objs.size (.lst (ys++[y]))) I8 rfl (.cons r8 .nil) ⟨_,ys,y,rfl,rfl,J0,au,rfl⟩) λ_ s9 gh=>?_
    obtain⟨_,H9,I9,_,e9⟩:=gh;subst e9;exact again I9 w8
 have fin:=codeAny_compStart_list (t5 _ rfl) (T.self X.A 0 _ _ _ jr (t5 _ rfl));have e3:({ s with heap:=h₁ }:aK)={ s0 with heap:=h₁,toks:=s.toks }:=by
  rw[<-pq]
 rw[<-e3] at fin;exact fin
theorem Ey (hc:X.calm=af)(S:CompScope X N cap sc)(hi:PI X tg bq wi)(hb:Block X N sc tg io g9 g tc te)(hs:∀ x,rM bq X.env x=pure x:=by intro _;rfl) :
  PE X (.ListComp io [⟨tg,bq,g9,0⟩] sc pos) (z7 cap wi g tc te):=by
 rw[5];rw[eval_ListComp];refine wpAny_comprehension_free rfl hs (YB (S.cells I.ok)) S.kind S.nm (bb (hi ac s σ H _ I h) λv s1 h1=>bb h1 λvq s2 h2=>?_)
 obtain⟨it,fp,tn,J,H2,e,I2,T,j4,f2,q2⟩:=h2;subst e;refine PM hc S hb I2 T j4 f2 q2 ?_;intro D s₀ H₀ σ' H' s' I0 f0 I' qD;obtain⟨m,hn,_⟩:=id I'.loc;have IX:=comp_back I0 f0 I';refine⟨m,hn,λh' t6=>⟨.ref D,H',?_,rfl,qD⟩⟩
 exact IX.turned (λb o hb e=>(t6.2 b hb).trans e) I'.free (lQ I0.lt) (.inr I0.sz) (λx c e z=>by
  obtain⟨v,oc,h1,_⟩:=I0.cell x c e;exact absurd (bX h1) (by rw[z];exact mE _)) λp hp z=>by
   have h1:=(I0.pin p hp).1;exact absurd (bX h1) (by rw[z];exact mE _)
theorem Xs(hc:X.calm=af)(hN:X.N.Nodup)(r6:X.N[i]?=aa x)(hx:jN X.env.scope x)(S:CompScope X N cap sc)(hi:PI X tg bq wi)(hb:Block X N sc tg io g9 g tc te)
  (jt:kI (.ListComp io [⟨tg,bq,g9,0⟩] sc pos) (aa (.Name x px)) lx.line X.env=pure af:=by rfl)
  (hs:∀ x,rM bq X.env x=pure x:=by intro _;rfl) (hf:Fn X x:=by exact jO) :
  PS X (.Assign [.Name x px] (.ListComp io [⟨tg,bq,g9,0⟩] sc pos) lx) (wR (z7 cap wi g tc te) (wV i)):=by
 intro ac s σ H D I h;rw[exec_Assign_Name_used _ _ _ _ jt];refine aI (wpAny_standAt (aI ?_));refine aI (lP (wpAny_comprehension_free rfl hs (YB (S.cells I.ok)) S.kind S.nm
  (bb (hi ac s σ H _ I h) λv s1 h1=>bb h1 λvq s2 h2=>?_)) (λ_ s' hq=>aZ (aZ hq)) λ_ _ e=>e)
 obtain⟨it,fp,tn,J,H2,e,I2,T,j4,f2,q2⟩:=h2;subst e;refine PM hc S hb I2 T j4 f2 q2 ?_;intro D' s₀ H₀ σ' H' s' I0 f0 I' qD;obtain⟨m,hn,_⟩:=id I'.loc;have IX:=comp_back I0 f0 I';have l4:∀ x c,X.env.cells.lookup x=aa c->c≠s₀.heap.objs.size:=λx c e z=>by
  obtain⟨v,oc,h1,_⟩:=I0.cell x c e;exact absurd (bX h1) (by rw[z];exact mE _)
 refine wpAny_assign_Name (US IX hN r6 hx (show RelV (.ref D') (.ref D') from rfl) (λs3 I3 ch=>?_) hf)
 obtain⟨a,sb,ha⟩:=ch;have j':s₀.heap.objs.size≠a:=by
  rcases ha with z|z
  .rw[z];exact lQ I0.lt
  .exact λq=>l4 x a z q.symm
 refine⟨m,Heap.Ns.sameBut hn sb j',λh' t6=>⟨_,H',?_,qD⟩⟩
 exact I3.turned (λb o hb e=>(t6.2 b hb).trans e) I'.free (lQ I0.lt) (.inr I0.sz) l4 λp hp z=>by
  have h1:=(I0.pin p hp).1;exact absurd (bX h1) (by rw[z];exact mE _)
end
noncomputable def HJ (out:wp)(XN N:aan)(cap:lf)(ns:wp):Bool:=
 ns.all (λy=>y.2 != .cell||ns.lookup y.1==aa .cell)&&ns.all (λy=>y.2 != .local||ns.lookup y.1==aa .local)&&ns.all (λy=>y.2 != .free||out.lookup y.1==aa .cell||out.lookup y.1==aa .free) &&
 cap.length==N.length&&(cap.zip N).all (λp=>match p.1 with|none=>af|some j=>XN[j]?==aa p.2&&ns.lookup p.2==aa .free)
theorem rC{out:wp}{XN:aan}(h1:X.env.scope.names=out)(h2:X.N=XN)(t7:HJ out XN N cap sc.names=af)(hk:sc.kind=.function):CompScope X N cap sc:=by
 unfold HJ at t7;simp only[EV,iV,bne_iff_ne,ne_eq,Bool.or_eq_true,beq_iff_eq] at t7;obtain⟨⟨⟨⟨c1,c2⟩,c3⟩,c4⟩,c5⟩:=t7;refine⟨hk,λy hy e=>(c1 y hy).elim (λq=>absurd e q) id,λy hy e=>?_,λy hy e=>?_,c4,λi j e=>?_⟩
 .rcases c2 y hy with q|q
  .exact absurd e q
  .exact q
 .rw[h1];rcases c3 y hy with(q|q)|q
  .exact absurd e q
  .exact .inl q
  .exact .inr q
 .have hi:=(eW.1 e).1;have r6:i<N.length:=()
  have hm:(cap[i],N[i])∈cap.zip N:=by
   have:(cap.zip N)[i]?=aa (cap[i],N[i]):=by
    rw[List.getElem?_zip_eq_some];exact⟨jU hi,jU r6⟩
   exact jE this
  have q:=c5 _ hm;have ec:cap[i]=aa j:=by
   rw[jU hi] at e;exact fM e
  rw[ec] at q;simp only[EV,beq_iff_eq] at q;exact⟨N[i],jU r6,by rw[h2];exact q.1,q.2⟩
abbrev Ext (H H':Hp):Prop:=∀ b o,H b=aa o->H' b=aa o
theorem Ext.refl:Ext H H:=λ_ _ e=>e
theorem Ext.trans {H2:Hp}(a:Ext H H1)(b:Ext H1 H2):Ext H H2:=λx o e=>b x o (a x o e)
theorem Ext.new{p:aC}(n:H p=ab):Ext H (upd H p o):=λb u e=>by
 rw[dY (kT e n)];exact e
theorem Ext.rd(x:Ext H H'){u:HO}(r:Rd H a u):Rd H' a u:=by
 rcases r with r|⟨o,r⟩
 .exact .inl (x _ _ r)
 .exact .inr ⟨o,x _ _ r⟩
theorem Ext.sqL(x:Ext H H')(h:SqL K H a xs):SqL K H' a xs:=h.imp x.rd id
theorem Ext.none(x:Ext H H')(h:H' a=Option.none):H a=Option.none:=by
 cases e:H a with
 |none=>rfl
 |some o=>rw[x a o e] at h;cases h
open Classical in
def hid (H:Hp)(P:aC->Prop):Hp:=λa=>if P a then ab else H a
theorem Abz:hid H P a=aa o ↔ ¬ P a/\H a=aa o:=by
 unfold hid;by_cases h:P a<;>simp[h]
theorem gD(n:¬ P a)(e:H a=aa o):hid H P a=aa o:=Abz.2 ⟨n,e⟩
theorem Aau:Ext (hid H P) H:=λ_ _ e=>(Abz.1 e).2
theorem dD(x:Ext H H'):Ext (hid H P) (hid H' P):=λb o e=>by
 obtain⟨n,e⟩:=Abz.1 e;exact gD n (x b o e)
theorem iP{P':aC->Prop}(s:∀ a,P' a->P a):Ext (hid H P) (hid H P'):=λb o e=>by
 obtain⟨n,e⟩:=Abz.1 e;exact gD (λq=>n (s b q)) e
abbrev DQ:=(Nat×bm) ⊕ (Nat×ce)
noncomputable def dO:DQ->HO
 |.inl kvs=>.dK kvs.1 kvs.2
 |.inr ts=>.dT ts.1 ts.2
def Hid (P:aC->Prop)(H:Hp):Prop:=∀ a,P a->(∃ xs,H a=aa (.lst xs))\/∃ q:DQ,H a=aa (dO q)
theorem Hid.ext(h:Hid P H)(x:Ext H H'):Hid P H':=λa p=>(h a p).imp (λ⟨xs,e⟩=>⟨xs,x _ _ e⟩) λ⟨xs,e⟩=>⟨xs,x _ _ e⟩
theorem Hid.new(h:Hid P H)(n:H a=ab):¬ P a:=λp=>by
 rcases h a p with⟨xs,e⟩|⟨xs,e⟩<;>rw[n] at e<;>cases e
theorem Hid.tup(h:Hid P H)(e:H a=aa (.tup xs)):hid H P a=aa (.tup xs):=gD (λp=>by
 rcases h a p with⟨ys,e2⟩|⟨ys,e2⟩<;>rw[e] at e2<;>first|cases e2|(cases ys<;>simp[dO] at e2)) e
abbrev de (P:aC->Prop)(F:aaj):aC->Prop:=λa=>P a\/a∈F
theorem Az:de P []=P:=by
 funext a;simp[de]
noncomputable def kD:aG->aA
 |.inl i=>.int i
 |.inr x=>.str x
def NI (a:aC)(kvs:Nat×ww):HO:=.ext λh=>kvs.2.length<=sizeLine/\(a==iD)=ag/\∃ o es,h.get? a=aa o/\o.ExactDict/\o.data=.dict es kvs.1/\gJ (λ(p:V×V) (e:pZ)=>RelV p.1 e.key/\RelV p.2 e.val) kvs.2 es.toList
mutual
def Abx (K:aM)(H:Hp):aA->V->Prop
 |.none,v=>v=.non
 |.bool b,v=>v=.bl b
 |.int i,v=>v=.int i
 |.str x,v=>v=.str x/\eY (.str x)=af
 |.list ds,v=>∃ a xs,v=.ref a/\SqL K H a xs/\Aap K H ds xs
 |.tuple ds,v=>∃ a xs,v=.ref a/\H a=aa (.tup xs)/\Aap K H ds xs
 |.dict kds,v=>∃ a,v=.ref a/\((∃ kvs:Nat×bm,H a=aa (.dK kvs.1 kvs.2)/\Ab3 K H kds kvs.2)\/(∃ ts:Nat×ce,H a=aa (.dT ts.1 ts.2)/\Axp K H kds ts.2)\/∃ xs,H a=aa (NI a xs)/\Az1 K H kds xs.2)
def Aap (K:aM)(H:Hp):aae->aag->Prop
 |[],xs=>xs=[]
 |d::ds,xs=>∃ x r,xs=x::r/\Abx K H d x/\Aap K H ds r
def Ab3 (K:aM)(H:Hp):am->bm->Prop
 |[],xs=>xs=[]
 |(k,d)::ds,xs=>∃ k' x r,xs=(k',x)::r/\k=kD k'/\Abx K H d x/\Ab3 K H ds r
def Afd (K:aM)(H:Hp):am->ce->Prop
 |[],xs=>xs=[]
 |(k,d)::ds,xs=>∃ k' x r,xs=(k',x)::r/\(k=.tuple k'/\cW k'=af)/\Abx K H d x/\Afd K H ds r
def Axp (K:aM)(H:Hp):am->ce->Prop
 |[],_=>False
 |(k,_)::ds,xs=>k=.none/\Afd K H ds xs
def Az1 (K:aM)(H:Hp):am->ww->Prop
 |[],_=>False
 |(k,m)::ds,xs=>k=.none/\ds=[(.none,.none)]/\Asd K H m xs
def Asd (K:aM)(H:Hp):aA->ww->Prop
 |.list es,xs=>Aij K H es xs
 |_,_=>False
def Aij (K:aM)(H:Hp):aae->ww->Prop
 |[],xs=>xs=[]
 |d::ds,xs=>∃ x r,xs=x::r/\Awt K H d x/\Aij K H ds r
def Awt (K:aM)(H:Hp):aA->V×V->Prop
 |.tuple ds,x=>Aap K H ds [x.1,x.2]
 |_,_=>False
end
noncomputable def f6:am->Bool
 |(.none,_)::_=>ag
 |_=>af
theorem Abw:Abx K H .none v↔v=.non:=by simp[Abx]
theorem Aao {b:Bool}:Abx K H (.bool b) v↔v=.bl b:=by simp[Abx]
theorem Aak {b:Int}:Abx K H (.int b) v↔v=.int b:=by simp[Abx]
theorem Aba {b:aD}:Abx K H (.str b) v↔v=.str b/\eY (.str b)=af:=by simp only[Abx]
theorem Abp:Abx K H (.list ds) v ↔ ∃ a xs,v=.ref a/\SqL K H a xs/\Aap K H ds xs:=by simp only[Abx]
theorem Aan:Abx K H (.tuple ds) v ↔ ∃ a xs,v=.ref a/\H a=aa (.tup xs)/\Aap K H ds xs:=by simp only[Abx]
theorem Ada {ds:am}:Abx K H (.dict ds) v ↔ ∃ a,v=.ref a/\((∃ kvs:Nat×bm,H a=aa (.dK kvs.1 kvs.2)/\Ab3 K H ds kvs.2)\/(∃ ts:Nat×ce,H a=aa (.dT ts.1 ts.2)/\Axp K H ds ts.2)\/∃ xs,H a=aa (NI a xs)/\Az1 K H ds xs.2):=by simp only[Abx]
theorem Agr {k:aA}{ds:am}{xs:ww}:Az1 K H ((k,m)::ds) xs↔k=.none/\ds=[(.none,.none)]/\Asd K H m xs:=by simp only[Az1]
theorem Ox{xs:ww}(h:Asd K H m xs):∃ es,m=.list es/\Aij K H es xs:=by
 cases m with
 |list es=>exact⟨es,rfl,by simpa only[Asd] using h⟩
 |_=>simp[Asd] at h
theorem Avn {xs:ww}:Aij K H [] xs↔xs=[]:=by simp[Aij]
theorem Aqw{xs:ww}:Aij K H (d::ds) xs ↔ ∃ x r,xs=x::r/\Awt K H d x/\Aij K H ds r:=by simp only[Aij]
theorem IK {ds:am}{xs:ww}(h:Az1 K H ds xs):∃ es,ds=[(.none,.list es),(.none,.none)]/\Aij K H es xs:=by
 cases ds with
 |nil=>simp[Az1] at h
 |cons p r=>
  obtain⟨k,m⟩:=p;obtain⟨rfl,rfl,h1⟩:=Agr.1 h;obtain⟨es,rfl,h2⟩:=Ox h1;exact⟨es,rfl,h2⟩
theorem Ain {xs:ce}:Afd K H [] xs↔xs=[]:=by simp[Afd]
theorem Afx {k:aA}{ds:am}{xs:ce}:Afd K H ((k,d)::ds) xs ↔ ∃ k' x r,xs=(k',x)::r/\(k=.tuple k'/\cW k'=af)/\Abx K H d x/\Afd K H ds r:=by simp only[Afd]
theorem Aes {k:aA}{ds:am}{xs:ce}:Axp K H ((k,m)::ds) xs↔k=.none/\Afd K H ds xs:=by simp only[Axp]
theorem Vv {ds:am}{xs:ce}(hk:f6 ds=af):¬ Axp K H ds xs:=by
 cases ds with
 |nil=>simp[Axp]
 |cons p r=>
  obtain⟨k,d⟩:=p;intro h;rw[(Aes.1 h).1] at hk;simp[f6] at hk
theorem yE {ds:am}(hk:f6 ds=af):Abx K H (.dict ds) v ↔ ∃ a,∃ kvs:Nat×bm,v=.ref a/\H a=aa (.dK kvs.1 kvs.2)/\Ab3 K H ds kvs.2:=by
 rw[Ada];constructor
 .rintro⟨a,e,⟨kvs,h,r⟩|⟨ts,h,r⟩|⟨xs,h,r⟩⟩
  .exact⟨a,kvs,e,h,r⟩
  .exact absurd r (Vv hk)
  .obtain⟨es,rfl,_⟩:=IK r;simp[f6] at hk
 .rintro⟨a,kvs,e,h,r⟩;exact⟨a,e,.inl ⟨kvs,h,r⟩⟩
theorem SO {ds:am}{kvs:Nat×bm}(e:v=.ref a)(h:H a=aa (.dK kvs.1 kvs.2))(r:Ab3 K H ds kvs.2):Abx K H (.dict ds) v:=Ada.2 ⟨a,e,.inl ⟨kvs,h,r⟩⟩
theorem Aal:Aap K H [] xs↔xs=[]:=by simp[Aap]
theorem Aag:Aap K H (d::ds) xs ↔ ∃ x r,xs=x::r/\Abx K H d x/\Aap K H ds r:=by simp only[Aap]
theorem Abt {xs:bm}:Ab3 K H [] xs↔xs=[]:=by simp[Ab3]
theorem Abf {k:aA}{ds:am}{xs:bm}:Ab3 K H ((k,d)::ds) xs ↔ ∃ k' x r,xs=(k',x)::r/\k=kD k'/\Abx K H d x/\Ab3 K H ds r:=by simp only[Ab3]
theorem TZ{ds:am}(hm:∀ es,m ≠ .list es:=by intro _ z;cases z):Abx K H (.dict ((.none,m)::ds)) v ↔ ∃ a,∃ ts:Nat×ce,v=.ref a/\H a=aa (.dT ts.1 ts.2)/\Afd K H ds ts.2:=by
 rw[Ada];constructor
 .rintro⟨a,e,⟨kvs,h,r⟩|⟨ts,h,r⟩|⟨xs,h,r⟩⟩
  .obtain⟨k',_,_,_,ek,_⟩:=Abf.1 r;cases k'<;>simp[kD] at ek
  .exact⟨a,ts,e,h,(Aes.1 r).2⟩
  .obtain⟨es,z,_⟩:=IK r;cases z;exact absurd rfl (hm es)
 .rintro⟨a,ts,e,h,r⟩;exact⟨a,e,.inr (.inl ⟨ts,h,Aes.2 ⟨rfl,r⟩⟩)⟩
mutual
theorem Abx.ext(x:Ext H H'):∀ {d:aA} {v:V},Abx K H d v->Abx K H' d v
 |.none,_,h=>Abw.2 (Abw.1 h)
 |.bool _,_,h=>Aao.2 (Aao.1 h)
 |.int _,_,h=>Aak.2 (Aak.1 h)
 |.str _,_,h=>Aba.2 (Aba.1 h)
 |.list ds,_,h=>by
  obtain⟨a,xs,e,s,r⟩:=Abp.1 h;exact Abp.2 ⟨a,xs,e,x.sqL s,Aap.ext x r⟩
 |.tuple ds,_,h=>by
  obtain⟨a,xs,e,s,r⟩:=Aan.1 h;exact Aan.2 ⟨a,xs,e,x _ _ s,Aap.ext x r⟩
 |.dict ds,_,h=>by
  obtain⟨a,e,⟨kvs,r,q⟩|⟨ts,r,q⟩|⟨xs,r,q⟩⟩:=Ada.1 h
  .exact Ada.2 ⟨a,e,.inl ⟨kvs,x _ _ r,Ab3.ext x q⟩⟩
  .exact Ada.2 ⟨a,e,.inr (.inl ⟨ts,x _ _ r,Axp.ext x q⟩)⟩
  .exact Ada.2 ⟨a,e,.inr (.inr ⟨xs,x _ _ r,Az1.ext x q⟩)⟩
theorem Aap.ext(x:Ext H H'):∀ {ds:aae} {vs:aag},Aap K H ds vs->Aap K H' ds vs
 |[],_,h=>Aal.2 (Aal.1 h)
 |d::ds,_,h=>by
  obtain⟨y,r,e,h1,h2⟩:=Aag.1 h;exact Aag.2 ⟨y,r,e,Abx.ext x h1,Aap.ext x h2⟩
theorem Ab3.ext(x:Ext H H'):∀ {ds:am} {vs:bm},Ab3 K H ds vs->Ab3 K H' ds vs
 |[],_,h=>Abt.2 (Abt.1 h)
 |(k,d)::ds,_,h=>by
  obtain⟨k',y,r,e,ek,h1,h2⟩:=Abf.1 h;exact Abf.2 ⟨k',y,r,e,ek,Abx.ext x h1,Ab3.ext x h2⟩
theorem Afd.ext(x:Ext H H'):∀ {ds:am} {vs:ce},Afd K H ds vs->Afd K H' ds vs
 |[],_,h=>Ain.2 (Ain.1 h)
 |(k,d)::ds,_,h=>by
  obtain⟨k',y,r,e,ek,h1,h2⟩:=Afx.1 h;exact Afx.2 ⟨k',y,r,e,ek,Abx.ext x h1,Afd.ext x h2⟩
theorem Axp.ext(x:Ext H H'):∀ {ds:am} {vs:ce},Axp K H ds vs->Axp K H' ds vs
 |[],_,h=>absurd h (by simp[Axp])
 |(k,d)::ds,_,h=>Aes.2 ⟨(Aes.1 h).1,Afd.ext x (Aes.1 h).2⟩
theorem Az1.ext(x:Ext H H'):∀ {ds:am} {vs:ww},Az1 K H ds vs->Az1 K H' ds vs
 |[],_,h=>absurd h (by simp[Az1])
 |(k,d)::ds,_,h=>Agr.2 ⟨(Agr.1 h).1,(Agr.1 h).2.1,Asd.ext x (Agr.1 h).2.2⟩
theorem Asd.ext(x:Ext H H'):∀ {d:aA} {vs:ww},Asd K H d vs->Asd K H' d vs
 |.list es,_,h=>by
  rw[Asd] at h ⊢;exact Aij.ext x h
 |.none,_,h=>absurd h (by simp[Asd])
 |.bool _,_,h=>absurd h (by simp[Asd])
 |.int _,_,h=>absurd h (by simp[Asd])
 |.str _,_,h=>absurd h (by simp[Asd])
 |.tuple _,_,h=>absurd h (by simp[Asd])
 |.dict _,_,h=>absurd h (by simp[Asd])
theorem Aij.ext(x:Ext H H'):∀ {ds:aae} {vs:ww},Aij K H ds vs->Aij K H' ds vs
 |[],_,h=>Avn.2 (Avn.1 h)
 |d::ds,_,h=>by
  obtain⟨y,r,e,h1,h2⟩:=Aqw.1 h;exact Aqw.2 ⟨y,r,e,Awt.ext x h1,Aij.ext x h2⟩
theorem Awt.ext(x:Ext H H'):∀ {d:aA} {y:V×V},Awt K H d y->Awt K H' d y
 |.tuple ds,_,h=>by
  rw[Awt] at h ⊢;exact Aap.ext x h
 |.none,_,h=>absurd h (by simp[Awt])
 |.bool _,_,h=>absurd h (by simp[Awt])
 |.int _,_,h=>absurd h (by simp[Awt])
 |.str _,_,h=>absurd h (by simp[Awt])
 |.list _,_,h=>absurd h (by simp[Awt])
 |.dict _,_,h=>absurd h (by simp[Awt])
end
theorem Aap.length:∀ {ds:aae} {vs:aag},Aap K H ds vs->vs.length=ds.length
 |[],_,h=>by rw[Aal.1 h];rfl
 |d::ds,_,h=>by
  obtain⟨y,r,e,h1,h2⟩:=Aag.1 h;rw[e,fZ,fZ,Aap.length h2]
theorem Aap.get:∀ {ds:aae} {vs:aag} {i:Nat} {d:aA},Aap K H ds vs->ds[i]?=aa d->∃ v,vs[i]?=aa v/\Abx K H d v
 |[],_,_,_,h,e=>by simp at e
 |d::ds,_,0,d',h,e=>by
  obtain⟨y,r,rfl,h1,h2⟩:=Aag.1 h;have:d=d':=by simpa using e
  subst this;exact⟨y,rfl,h1⟩
 |d::ds,_,i+1,d',h,e=>by
  obtain⟨y,r,rfl,h1,h2⟩:=Aag.1 h;obtain⟨v,h3,h4⟩:=Aap.get h2 (by simpa using e)
  exact⟨v,by simpa using h3,h4⟩
theorem Aap.append:∀ {ds es:aae} {vs ws:aag},Aap K H ds vs->Aap K H es ws->Aap K H (ds++es) (vs++ws)
 |[],es,_,_,h,g=>by rw[Aal.1 h];exact g
 |d::ds,es,_,_,h,g=>by
  obtain⟨y,r,rfl,h1,h2⟩:=Aag.1 h;exact Aag.2 ⟨y,_,rfl,h1,Aap.append h2 g⟩
theorem Aap.snoc{vs:aag}(h:Aap K H ds vs)(g:Abx K H d v):Aap K H (ds++[d]) (vs++[v]):=
 h.append (Aag.2 ⟨v,[],rfl,g,Aal.2 rfl⟩)
theorem Aap.drop:∀ {ds:aae} {vs:aag} (n:Nat),Aap K H ds vs->Aap K H (ds.drop n) (vs.drop n)
 |_,_,0,h=>h
 |[],_,n+1,h=>by rw[Aal.1 h];exact Aal.2 rfl
 |d::ds,_,n+1,h=>by
  obtain⟨y,r,rfl,h1,h2⟩:=Aag.1 h;exact Aap.drop n h2
theorem Aap.take:∀ {ds:aae} {vs:aag} (n:Nat),Aap K H ds vs->Aap K H (ds.take n) (vs.take n)
 |_,_,0,h=>Aal.2 rfl
 |[],_,n+1,h=>by rw[Aal.1 h];exact Aal.2 rfl
 |d::ds,_,n+1,h=>by
  obtain⟨y,r,rfl,h1,h2⟩:=Aag.1 h;exact Aag.2 ⟨y,_,rfl,h1,Aap.take n h2⟩
theorem IQ:∀ ns:aai,Aap K H (ns.map bC) (ns.map V.int)
 |[]=>Aal.2 rfl
 |n::r=>Aag.2 ⟨_,_,rfl,Aak.2 rfl,IQ r⟩
theorem Sg(h:Abx K H (kD k) v):v=kV k:=by
 cases k with
 |inl i=>exact Aak.1 h
 |inr x=>exact(Aba.1 h).1
mutual
theorem Abx.key {K:aM}{H:Hp}:∀ (d:aA) {v:V},bU d=af->Abx K H d v->Ah2 H d v
 |.int i,v,_,h=>by simpa [Ah2] using Aak.1 h
 |.str i,v,_,h=>by simpa [Ah2] using(Aba.1 h).1
 |.tuple ds,v,k,h=>by
  obtain⟨a,xs,e,s,r⟩:=Aan.1 h;simp only[Ah2];exact⟨a,xs,e,s,Aap.keys ds (by simpa [bU] using k) r⟩
 |.none,v,k,_=>by simp[bU] at k
 |.bool _,v,k,_=>by simp[bU] at k
 |.list _,v,k,_=>by simp[bU] at k
 |.dict _,v,k,_=>by simp[bU] at k
theorem Aap.keys {K:aM}{H:Hp}:∀ (ds:aae) {vs:aag},cW ds=af->Aap K H ds vs->Aej H ds vs
 |[],vs,_,h=>by simpa [Aej] using Aal.1 h
 |d::ds,vs,k,h=>by
  have k':bU d=af/\cW ds=af:=by simpa [cW] using k
  obtain⟨y,r,e,h1,h2⟩:=Aag.1 h;simp only[Aej];exact⟨y,r,e,Abx.key d k'.1 h1,Aap.keys ds k'.2 h2⟩
end
mutual
def cB:aA->Bool
 |.list _=>ag
 |.dict _=>ag
 |.tuple ds=>mR ds
 |_=>af
def mR:aae->Bool
 |[]=>af
 |d::r=>cB d&&mR r
end
theorem yN:∀ ds:aae,mR ds=ds.all cB
 |[]=>by simp[mR]
 |d::r=>by simp[mR,yN r]
mutual
theorem Abx.flat(x:∀ a xs,H a=aa (.tup xs)->H' a=aa (.tup xs)):∀ (d:aA) {v:V},cB d=af->Abx K H d v->Abx K H' d v
 |.none,_,_,h=>Abw.2 (Abw.1 h)
 |.bool _,_,_,h=>Aao.2 (Aao.1 h)
 |.int _,_,_,h=>Aak.2 (Aak.1 h)
 |.str _,_,_,h=>Aba.2 (Aba.1 h)
 |.tuple ds,_,f,h=>by
  obtain⟨a,xs,e,s,r⟩:=Aan.1 h;exact Aan.2 ⟨a,xs,e,x _ _ s,Aap.flat x ds (by simpa [cB] using f) r⟩
 |.list _,_,f,_=>by simp[cB] at f
 |.dict _,_,f,_=>by simp[cB] at f
theorem Aap.flat(x:∀ a xs,H a=aa (.tup xs)->H' a=aa (.tup xs)):∀ (ds:aae) {vs:aag},mR ds=af->Aap K H ds vs->Aap K H' ds vs
 |[],_,_,h=>Aal.2 (Aal.1 h)
 |d::ds,_,f,h=>by
  have f':cB d=af/\mR ds=af:=by simpa [mR] using f
  obtain⟨y,r,e,h1,h2⟩:=Aag.1 h;exact Aag.2 ⟨y,r,e,Abx.flat x d f'.1 h1,Aap.flat x ds f'.2 h2⟩
end
inductive All3 {α β γ:Type}(R:α->β->γ->Prop):List α->List β->List γ->Prop
 |nil:All3 R [] [] []
 |cons {a b c as bs cs}:R a b c->All3 R as bs cs->All3 R (a::as) (b::bs) (c::cs)
theorem All3.imp {α β γ:Type}{R S:α->β->γ->Prop}:∀ {as:List α} {bs:List β} {cs:List γ},All3 R as bs cs->(∀ a b c,c∈cs->R a b c->S a b c)->All3 S as bs cs:=by
 intro as bs cs h;induction h with
 |nil=>exact λ_=>.nil
 |cons h _ ih=>exact λf=>.cons (f _ _ _ bT h) (ih λa b c m=>f a b c (cL _ m))
def Afm (K:aM)(B H:Hp):Nat->aA->V->aaj->Prop
 |0,d,v,F=>F=[]/\Abx K B d v
 |n+1,d,v,F=>match d with
  |.list ds=>∃ p xs Fs,v=.ref p/\H p=aa (.lst xs)/\F=p::Fs.flatten/\All3 (Afm K B H n) ds xs Fs
  |.dict kds=>∃ p,∃ kvs:Nat×bm,∃ Fs,v=.ref p/\H p=aa (.dK kvs.1 kvs.2)/\F=p::Fs.flatten/\All3 (λ(kd:aA×aA) (kv:aG×V) f=>kd.1=kD kv.1/\Afm K B H n kd.2 kv.2 f) kds kvs.2 Fs
  |.tuple ds=>(n=0/\F=[]/\Abx K B (.tuple ds) v)\/(n≠0/\∃ p xs Fs,v=.ref p/\B p=aa (.tup xs)/\F=Fs.flatten/\All3 (Afm K B H n) ds xs Fs)
  |d=>F=[]/\Abx K B d v
theorem Afm.keep{B:Hp}(xb:Ext B B'):∀ {n:Nat} {d:aA} {v:V} {F:aaj},(∀ a∈F,H' a=H a)->Afm K B H n d v F->Afm K B' H' n d v F
 |0,d,v,F,_,h=>⟨h.1,h.2.ext xb⟩
 |n+1,.list ds,v,F,kp,h=>by
  obtain⟨p,xs,Fs,e,hp,rfl,q⟩:=h;refine⟨p,xs,Fs,e,(kp p bT).trans hp,rfl,q.imp λa b c m r=>Afm.keep xb (λz hz=>kp z (cL _ (jT.2 ⟨c,m,hz⟩))) r⟩
 |n+1,.dict kds,v,F,kp,h=>by
  obtain⟨p,xs,Fs,e,hp,rfl,q⟩:=h;refine⟨p,xs,Fs,e,(kp p bT).trans hp,rfl,q.imp λa b c m r=>⟨r.1,Afm.keep xb (λz hz=>kp z (cL _ (jT.2 ⟨c,m,hz⟩))) r.2⟩⟩
 |n+1,.none,v,F,_,h=>⟨h.1,h.2.ext xb⟩
 |n+1,.bool _,v,F,_,h=>⟨h.1,h.2.ext xb⟩
 |n+1,.int _,v,F,_,h=>⟨h.1,h.2.ext xb⟩
 |n+1,.str _,v,F,_,h=>⟨h.1,h.2.ext xb⟩
 |n+1,.tuple ds,v,F,kp,h=>by
  rcases h with⟨h0,h1,h2⟩|⟨h0,p,xs,Fs,e,hp,rfl,q⟩
  .exact .inl ⟨h0,h1,h2.ext xb⟩
  .exact .inr ⟨h0,p,xs,Fs,e,xb _ _ hp,rfl,q.imp λa b c m r=>Afm.keep xb (λz hz=>kp z (jT.2 ⟨c,m,hz⟩)) r⟩
theorem UW{B:Hp}{R:aA->V->aaj->Prop}(f:∀ d v F,R d v F->Abx K B d v):∀ {ds:aae} {xs:aag} {Fs:wv},All3 R ds xs Fs->Aap K B ds xs:=by
 intro ds xs Fs h;induction h with
 |nil=>exact Aal.2 rfl
 |cons h _ ih=>exact Aag.2 ⟨_,_,rfl,f _ _ _ h,ih⟩
theorem Yj{B:Hp}{R:aA×aA->aG×V->aaj->Prop}(f:∀ d v F,R d v F->d.1=kD v.1/\Abx K B d.2 v.2):∀ {ds:am} {xs:bm} {Fs:wv},All3 R ds xs Fs->Ab3 K B ds xs:=by
 intro ds xs Fs h;induction h with
 |nil=>exact Abt.2 rfl
 |@cons p q F ds xs Fs h _ ih=>
  obtain⟨k,d⟩:=p;obtain⟨k',v⟩:=q;exact Abf.2 ⟨_,_,_,rfl,(f _ _ _ h).1,(f _ _ _ h).2,ih⟩
theorem Afm.share{B:Hp}(xb:Ext B B'):∀ {n:Nat} {d:aA} {v:V} {F:aaj},(∀ a∈F,∀ o,H a=aa o->B' a=aa o)->Afm K B H n d v F->Abx K B' d v
 |0,d,v,F,_,h=>h.2.ext xb
 |n+1,.list ds,v,F,kp,h=>by
  obtain⟨p,xs,Fs,e,hp,rfl,q⟩:=h;refine Abp.2 ⟨p,xs,e,SqL.of (kp p bT _ hp),?_⟩;exact UW (λd v F r=>r) (q.imp λa b c m r=>Afm.share xb (λz hz=>kp z (cL _ (jT.2 ⟨c,m,hz⟩))) r)
 |n+1,.dict kds,v,F,kp,h=>by
  obtain⟨p,xs,Fs,e,hp,rfl,q⟩:=h;refine SO e (kp p bT _ hp) ?_;exact Yj (λd v F r=>r) (q.imp λa b c m r=>⟨r.1,Afm.share xb (λz hz=>kp z (cL _ (jT.2 ⟨c,m,hz⟩))) r.2⟩)
 |n+1,.none,v,F,_,h=>h.2.ext xb
 |n+1,.bool _,v,F,_,h=>h.2.ext xb
 |n+1,.int _,v,F,_,h=>h.2.ext xb
 |n+1,.str _,v,F,_,h=>h.2.ext xb
 |n+1,.tuple ds,v,F,kp,h=>by
  rcases h with⟨h0,h1,h2⟩|⟨h0,p,xs,Fs,e,hp,rfl,q⟩
  .exact h2.ext xb
  .refine Aan.2 ⟨p,xs,e,xb _ _ hp,?_⟩;exact UW (λd v F r=>r) (q.imp λa b c m r=>Afm.share xb (λz hz=>kp z (jT.2 ⟨c,m,hz⟩)) r)
noncomputable def cQ:Nat->aA->Bool
 |0,d=>cB d
 |n+1,.list ds=>ds.all (cQ n)
 |n+1,.dict kds=>kds.all λkd=>cQ n kd.2
 |n+2,.tuple ds=>ds.all (cQ (n+1))
 |n+1,d=>cB d
theorem Afm.flat{B:Hp}(xb:∀ a xs,B a=aa (.tup xs)->B' a=aa (.tup xs)):∀ {n:Nat} {d:aA} {v:V} {F:aaj},cQ n d=af->Afm K B H n d v F->Afm K B' H n d v F
 |0,d,v,F,f,h=>⟨h.1,h.2.flat xb d f⟩
 |n+1,.list ds,v,F,f,h=>by
  obtain⟨p,xs,Fs,e,hp,rfl,q⟩:=h;refine⟨p,xs,Fs,e,hp,rfl,?_⟩;have f':∀ d∈ds,cQ n d=af:=by simpa [cQ] using f
  clear hp f e;induction q with
  |nil=>exact .nil
  |cons h t ih=>exact .cons (Afm.flat xb (f' _ bT) h) (ih λd m=>f' d (cL _ m))
 |n+1,.dict kds,v,F,f,h=>by
  obtain⟨p,xs,Fs,e,hp,rfl,q⟩:=h;refine⟨p,xs,Fs,e,hp,rfl,?_⟩;have f':∀ d∈kds,cQ n d.2=af:=λd m=>by
   have:kds.all (λkd=>cQ n kd.2)=af:=by simpa [cQ] using f
   exact iV.1 this d m
  clear hp f e;obtain⟨xe,xs⟩:=xs;replace q:All3 _ kds xs Fs:=q;induction q with
  |nil=>exact .nil
  |cons h t ih=>exact .cons ⟨h.1,Afm.flat xb (f' _ bT) h.2⟩ (ih λd m=>f' d (cL _ m))
 |n+1,.none,v,F,f,h=>⟨h.1,h.2.flat xb _ f⟩
 |n+1,.bool _,v,F,f,h=>⟨h.1,h.2.flat xb _ f⟩
 |n+1,.int _,v,F,f,h=>⟨h.1,h.2.flat xb _ f⟩
 |n+1,.str _,v,F,f,h=>⟨h.1,h.2.flat xb _ f⟩
 |1,.tuple ds,v,F,f,h=>by
  rcases h with⟨h0,h1,h2⟩|⟨h0,_⟩
  .exact .inl ⟨h0,h1,h2.flat xb _ f⟩
  .exact absurd rfl h0
 |n+2,.tuple ds,v,F,f,h=>by
  rcases h with⟨h0,_⟩|⟨h0,p,xs,Fs,e,hp,rfl,q⟩
  .exact absurd h0 ()
  .refine .inr ⟨h0,p,xs,Fs,e,xb _ _ hp,rfl,?_⟩;have f':∀ d∈ds,cQ (n+1) d=af:=by simpa [cQ] using f
   clear hp f e;induction q with
   |nil=>exact .nil
   |cons h t ih=>exact .cons (Afm.flat xb (f' _ bT) h) (ih λd m=>f' d (cL _ m))
theorem All3.of {α β γ:Type}{R:α->β->γ->Prop}:∀ {as:List α} {bs:List β} {cs:List γ},All3 R as bs cs->∀ c∈cs,∃ a b,R a b c:=by
 intro as bs cs h;induction h with
 |nil=>exact λc m=>by simp at m
 |cons h _ ih=>
  intro c m;rcases dJ.1 m with rfl|m
  .exact⟨_,_,h⟩
  .exact ih c m
theorem Afm.mut1{B:Hp}:∀ {n:Nat} {d:aA} {v:V} {F:aaj},Afm K B H n d v F->∀ a∈F,(∃ xs,H a=aa (.lst xs))\/∃ q,H a=aa (dO (.inl q))
 |0,d,v,F,h,a,m=>by rw[h.1] at m;simp at m
 |n+1,.list ds,v,F,h,a,m=>by
  obtain⟨p,xs,Fs,e,hp,rfl,q⟩:=h;rcases dJ.1 m with e1|m2
  .rw[e1];exact .inl ⟨xs,hp⟩
  .obtain⟨f,hf,ha⟩:=jT.1 m2;obtain⟨_,_,r⟩:=q.of f hf;exact Afm.mut1 r a ha
 |n+1,.dict kds,v,F,h,a,m=>by
  obtain⟨p,xs,Fs,e,hp,rfl,q⟩:=h;rcases dJ.1 m with e1|m2
  .rw[e1];exact .inr ⟨xs,hp⟩
  .obtain⟨f,hf,ha⟩:=jT.1 m2;obtain⟨_,_,r⟩:=q.of f hf;exact Afm.mut1 r.2 a ha
 |n+1,.none,v,F,h,a,m=>by rw[h.1] at m;simp at m
 |n+1,.bool _,v,F,h,a,m=>by rw[h.1] at m;simp at m
 |n+1,.int _,v,F,h,a,m=>by rw[h.1] at m;simp at m
 |n+1,.str _,v,F,h,a,m=>by rw[h.1] at m;simp at m
 |n+1,.tuple ds,v,F,h,a,m=>by
  rcases h with⟨_,h1,_⟩|⟨h0,p,xs,Fs,e,hp,rfl,q⟩
  .rw[h1] at m;simp at m
  .obtain⟨f,hf,ha⟩:=jT.1 m;obtain⟨_,_,r⟩:=q.of f hf;exact Afm.mut1 r a ha
theorem Afm.mut{B:Hp}{F:aaj}(h:Afm K B H n d v F):∀ a∈F,(∃ xs,H a=aa (.lst xs))\/∃ q:DQ,H a=aa (dO q):=λa m=>(h.mut1 a m).imp id λ⟨q,e⟩=>⟨.inl q,e⟩
def Fg (K:aM)(B H:Hp)(d:aA)(v:V)(F:aaj):Prop:=∃ kds p,∃ ts:Nat×ce,d=.dict ((.none,.none)::kds)/\v=.ref p/\H p=aa (.dT ts.1 ts.2)/\F=[p]/\(∀ kd∈kds,cB kd.2=af)/\Afd K B kds ts.2
def Axo (K:aM)(B H:Hp)(d:aA)(v:V)(F:aaj):Prop:=(d=.none/\v=.non/\F=[])\/Fg K B H d v F
def Bhb (K:aM)(B H:Hp)(d:aA)(v:V)(F:aaj):Prop:=∃ kf q Fs,∃ ku:Nat×bm,d=.dict kf/\v=.ref q/\H q=aa (.dK ku.1 ku.2)/\F=q::Fs.flatten/\All3 (λkd kv f=>kd.1=kD kv.1/\Axo K B H kd.2 kv.2 f) kf ku.2 Fs
def Afg (K:aM)(B H:Hp)(n:Nat)(d:aA)(v:V)(F:aaj):Prop:=if n=9 then Axo K B H d v F else if n=10 then(d=.none/\v=.non/\F=[])\/Bhb K B H d v F else Afm K B H n d v F
theorem Afd.flat{B:Hp}(xb:∀ a xs,B a=aa (.tup xs)->B' a=aa (.tup xs)):∀ {kds:am} {ts:ce},(∀ kd∈kds,cB kd.2=af)->Afd K B kds ts->Afd K B' kds ts
 |[],ts,_,h=>Ain.2 (Ain.1 h)
 |(k,d)::r,ts,f,h=>by
  obtain⟨k',x,rr,e,ek,h1,h2⟩:=Afx.1 h;exact Afx.2 ⟨k',x,rr,e,ek,h1.flat xb _ (f (k,d) bT),Afd.flat xb (λkd m=>f kd (cL _ m)) h2⟩
section
variable {B:Hp}{F:aaj}
theorem Axo.keep (xb:Ext B B')(kp:∀ a∈F,H' a=H a)(h:Axo K B H d v F):Axo K B' H' d v F:=h.imp id λh=>by
 obtain⟨kds,p,ts,e1,e2,hp,rfl,f,r⟩:=h;exact⟨kds,p,ts,e1,e2,(kp p bT).trans hp,rfl,f,r.ext xb⟩
theorem Axo.flat (xb:∀ a xs,B a=aa (.tup xs)->B' a=aa (.tup xs))(h:Axo K B H d v F):Axo K B' H d v F:=h.imp id λh=>by
 obtain⟨kds,p,ts,e1,e2,hp,rfl,f,r⟩:=h;exact⟨kds,p,ts,e1,e2,hp,rfl,f,r.flat xb f⟩
theorem Axo.share (xb:Ext B B')(kp:∀ a∈F,∀ o,H a=aa o->B' a=aa o)(h:Axo K B H d v F):Abx K B' d v:=by
 rcases h with⟨rfl,rfl,_⟩|⟨kds,p,ts,rfl,e2,hp,rfl,f,r⟩
 .exact Abw.2 rfl
 exact(TZ).2 ⟨p,ts,e2,kp p bT _ hp,r.ext xb⟩
theorem Axo.mut (h:Axo K B H d v F):∀ a∈F,(∃ xs,H a=aa (.lst xs))\/∃ q:DQ,H a=aa (dO q):=by
 rcases h with⟨_,_,rfl⟩|⟨kds,p,ts,e1,e2,hp,rfl,f,r⟩
 .exact λa m=>by simp at m
 intro a m;rw[fN.1 m];exact .inr ⟨.inr ts,hp⟩
theorem Bhb.share (xb:Ext B B')(kp:∀ a∈F,∀ o,H a=aa o->B' a=aa o)(h:Bhb K B H d v F):Abx K B' d v:=by
 obtain⟨kf,q,Fs,⟨xe,ku⟩,rfl,rfl,hq,rfl,h3⟩:=h;refine SO (kvs:=(xe,ku)) rfl (kp q (by simp) _ hq) ?_
 have t8:∀ f∈Fs,∀ p∈f,∀ o,H p=aa o->B' p=aa o:=λf mf p m=>kp p (cL _ (jT.2 ⟨f,mf,m⟩))
 clear hq kp;replace h3:All3 _ kf ku Fs:=h3;induction h3 with
 |nil=>exact Abt.2 rfl
 |cons h t ih=>exact Abf.2 ⟨_,_,_,rfl,h.1,h.2.share xb (t8 _ bT),ih λf m=>t8 f (cL _ m)⟩
theorem Afg.keep (xb:Ext B B')(kp:∀ a∈F,H' a=H a)(h:Afg K B H n d v F):Afg K B' H' n d v F:=by
 unfold Afg at h ⊢;split at h
 .rw[if_pos ‹_›];exact h.keep xb kp
 .rw[if_neg ‹_›];split at h
  .rw[if_pos ‹_›];refine h.imp id λh=>?_
   obtain⟨kf,q,Fs,ku,e1,e2,hq,rfl,h3⟩:=h;exact⟨kf,q,Fs,ku,e1,e2,(kp q bT).trans hq,rfl,h3.imp λkd kv f m r=>⟨r.1,r.2.keep xb λb hb=>kp b (cL _ (jT.2 ⟨f,m,hb⟩))⟩⟩
  .rw[if_neg ‹_›];exact Afm.keep xb kp h
theorem Afg.share (xb:Ext B B')(kp:∀ a∈F,∀ o,H a=aa o->B' a=aa o)(h:Afg K B H n d v F):Abx K B' d v:=by
 unfold Afg at h;split at h
 .exact h.share xb kp
 .split at h
  .rcases h with⟨rfl,rfl,_⟩|h
   .exact Abw.2 rfl
   .exact h.share xb kp
  .exact Afm.share xb kp h
theorem Afg.flat (xb:∀ a xs,B a=aa (.tup xs)->B' a=aa (.tup xs))(f:cQ n d=af)(h:Afg K B H n d v F):Afg K B' H n d v F:=by
 unfold Afg at h ⊢;split at h
 .rw[if_pos ‹_›];exact h.flat xb
 .rw[if_neg ‹_›];split at h
  .rw[if_pos ‹_›];refine h.imp id λh=>?_
   obtain⟨kf,q,Fs,ku,e1,e2,hq,eF,h3⟩:=h;exact⟨kf,q,Fs,ku,e1,e2,hq,eF,h3.imp λkd kv p m r=>⟨r.1,r.2.flat xb⟩⟩
  .rw[if_neg ‹_›];exact Afm.flat xb f h
theorem Afg.mut (h:Afg K B H n d v F):∀ a∈F,(∃ xs,H a=aa (.lst xs))\/∃ q:DQ,H a=aa (dO q):=by
 unfold Afg at h;split at h
 .exact h.mut
 .split at h
  .rcases h with⟨_,_,rfl⟩|⟨kf,q,Fs,ku,_,_,hq,rfl,h3⟩
   .exact λa m=>by simp at m
   intro b m;rcases dJ.1 m with rfl|m
   .exact .inr ⟨.inl _,hq⟩
   .obtain⟨f,mf,m⟩:=jT.1 m;obtain⟨_,_,r⟩:=h3.of f mf;exact r.2.mut b m
  .exact Afm.mut h
end
abbrev EF:=bd->aaf
abbrev BF:=bd->Option Bool
abbrev AF:=bd->aac
def Amf (K:aM)(B:Hp)(Y:bd)(σ:St):Prop:=∀ (i:Nat) d,Y[i]?=aa (aa d)->∃ v,σ[i]?=aa (aa v)/\Abx K B d v
theorem Amf.ext{B:Hp}(h:Amf K B Y σ)(x:Ext B B'):Amf K B' Y σ:=λi d e=>let ⟨v,h1,h2⟩:=h i d e;⟨v,h1,h2.ext x⟩
def Res (K:aM)(P:aC->Prop)(n:Nat)(d:aA)(H:Hp)(Q:VK):Prop:=
 ∀ v H' Fr,Ext H H'->Fr.Nodup->(∀ a∈Fr,H a=ab/\∃ o,H' a=aa o)->Afg K (hid H' (de P Fr)) H' n d v Fr->Q v H'
theorem Res.zero (h:Res K P 0 d H Q)(x:Ext H H')(r:Abx K (hid H' P) d v):Q v H':=
 h v H' [] x .nil (λa m=>by simp at m) ⟨rfl,by rw[Az];exact r⟩
theorem eI (h:∀ v H',Ext H H'->Abx K (hid H' P) d v->Q v H'):Res K P 0 d H Q:=λv H' Fr x _ _ r=>by
 obtain⟨rfl,r⟩:=r;rw[Az] at r;exact h v H' x r
theorem Res.mono (h:Res K P n d H Q)(x:Ext H H'):Res K P n d H' Q:=λv H2 Fr x2 nd fr r=>
 h v H2 Fr (x.trans x2) nd (λa m=>⟨x.none (fr a m).1,(fr a m).2⟩) r
theorem Res.of (hP:Hid P H)(h:Res K P 0 d H Q):Res K P n d H Q:=λv H2 Fr x2 nd fr r=>
 h.zero x2 (r.share (iP λa p=>.inl p) λa m o e=>gD (hP.new (fr a m).1) e)
theorem Res.lst{p:aC}(hP:Hid P H)(h:Res K P 1 (.list ds) H Q)(n:H p=ab)(r:Aap K (hid H P) ds xs):Q (.ref p) (upd H p (.lst xs)):=by
 refine h (.ref p) _ [p] (Ext.new n) (gZ.2 ⟨by simp,.nil⟩) (λa m=>?_) ⟨p,xs,xs.map λ_=>[],rfl,fT,?_,?_⟩
 .have:a=p:=by simpa using m
  subst this;exact⟨n,_,fT⟩
 .have:∀ l:aag,(l.map λ_=>([]:aaj)).flatten=[]:=λl=>by
   induction l with
   |nil=>rfl
   |cons a l ih=>rw[dF,rP,ih];rfl
  rw[this]
 .have xe:Ext (hid H P) (hid (upd H p (.lst xs)) (de P [p])):=λb o e=>by
   obtain⟨nb,e⟩:=Abz.1 e;have hb:=kT e n;exact gD (λq=>q.elim nb λm=>hb (by simpa using m)) (by rw[dY hb];exact e)
  generalize hid (upd H p (.lst xs)) (de P [p])=B at xe;generalize upd H p (.lst xs)=H1;clear h;have go:∀ (ds:aae) (xs:aag),Aap K (hid H P) ds xs->All3 (Afm K B H1 0) ds xs (xs.map λ_=>[]):=by
   intro ds;induction ds with
   |nil=>intro xs r;rw[Aal.1 r];exact .nil
   |cons d ds ih=>
    intro xs r;obtain⟨y,t,rfl,h1,h2⟩:=Aag.1 r;exact .cons ⟨rfl,h1.ext xe⟩ (ih t h2)
  exact go ds xs r
theorem Res.tup{p:aC}(hP:Hid P H)(h:Res K P 0 (.tuple ds) H Q)(n:H p=ab)(r:Aap K (hid H P) ds xs):Q (.ref p) (upd H p (.tup xs)):=by
 refine h.zero (Ext.new n) (Aan.2 ⟨p,xs,rfl,gD (hP.new n) fT,r.ext λb o e=>?_⟩)
 obtain⟨nb,e⟩:=Abz.1 e;exact gD nb (Ext.new n _ _ e)
def tF (K:aM)(n:Nat)(f:EF):TE:=λσ H Q=>∃ P Y d,Hid P H/\Amf K (hid H P) Y σ/\f Y=aa d/\Res K P n d H Q
def nh (K:aM)(f:BF):TT:=λσ H Q=>∃ P Y b,Hid P H/\Amf K (hid H P) Y σ/\f Y=aa b/\∀ H',Ext H H'->Q b H'
def S7 (K:aM)(f:AF):TA:=λσ H Q=>∃ P Y ds,Hid P H/\Amf K (hid H P) Y σ/\f Y=aa ds/\∀ vs H',Ext H H'->Aap K (hid H' P) ds vs->Q vs H'
abbrev DF (n:Nat)(X:Cx)(e:aS)(f:EF):Prop:=PE X e (tF X.K n f)
abbrev DE (X:Cx)(e:aS)(f:EF):Prop:=PE X e (tF X.K 0 f)
abbrev DT (X:Cx)(e:aS)(f:BF):Prop:=PT X e (nh X.K f)
abbrev DW (X:Cx)(e:aS)(f:BF):Prop:=PW X e (nh X.K f)
abbrev DA (X:Cx)(es:List aS)(f:AF):Prop:=PA X es (S7 X.K f)
section
variable {a:aS}
theorem PE.imp {t t':TE}(h:PE X e t)(w:∀ σ H Q,t' σ H Q->t σ H Q):PE X e t':=λac s σ H Q I q=>h ac s σ H Q I (w _ _ _ q)
theorem PT.imp {t':TT}(h:PT X e t)(w:∀ σ H Q,t' σ H Q->t σ H Q):PT X e t':=λac s σ H Q I q=>h ac s σ H Q I (w _ _ _ q)
theorem PW.imp {t':TT}(h:PW X e t)(w:∀ σ H Q,t' σ H Q->t σ H Q):PW X e t':=λgc ac s σ H Q I q=>h gc ac s σ H Q I (w _ _ _ q)
theorem PA.imp {t t':TA}(h:PA X es t)(w:∀ σ H Q,t' σ H Q->t σ H Q):PA X es t':=λpos ac s σ H Q I q=>h pos ac s σ H Q I (w _ _ _ q)
theorem lO {f:EF}(h:DF n X e f):DE X e f:=PE.imp h λσ H Q ⟨P,Y,d,hP,rs,ef,k⟩=>⟨P,Y,d,hP,rs,ef,Res.of hP k⟩
noncomputable def aB (i:Nat):EF:=λY=>(Y[i]?).join
theorem UT(h:aB i Y=aa d):Y[i]?=aa (aa d):=by
 unfold aB at h
 grind
theorem dG (i:Nat)(hN:Nm X i x:=by exact kN):DE X (.Name x pos) (aB i):=PE.imp (hN.pe) λσ H Q gh=>by
 rw[2];obtain⟨v,h1,h2⟩:=rs i d (UT ef);exact⟨v,h1,k.zero Ext.refl h2⟩
def eC (d:aA):EF:=λ_=>aa d
theorem wN(h:PE X e (tC v))(hr:∀ H,Abx X.K H d v):DE X e (eC d):=PE.imp h λσ H Q gh=>by
 obtain⟨P,Y,d',hP,rs,ef,k⟩:=gh;cases ef;exact k.zero Ext.refl (hr _)
theorem gW {i j}:DE X (.Constant (.int i) j pos) (eC (.int i)):=wN ZT λ_=>Aak.2 rfl
theorem Fk {i j}:DE X (.Constant (.bool i) j pos) (eC (.bool i)):=wN NK λ_=>Aao.2 rfl
theorem KQ {j}:DE X (.Constant .none j pos) (eC .none):=wN ZL λ_=>Abw.2 rfl
theorem pD {i j}(h:eY (.str i)=af:=by rw[0]):DE X (.Constant (.str i) j pos) (eC (.str i)):=wN Jw λ_=>Aba.2 ⟨rfl,h⟩
theorem RH{i:Int}{u:aF}(hg:Gl X x)(hm:X.mg x=aa u)(r:RelV (.int i) u)(hd:(x==("__debug__" : aD))=ag:=by decide):DE X (.Name x pos) (eC (.int i)):=wN (GR hg hm r hd) λ_=>Aak.2 rfl
def aH:AF:=λ_=>aa []
def aE (f:EF)(g:AF):AF:=λY=>(f Y).bind λd=>(g Y).bind λds=>aa (d::ds)
theorem kC:DA X [] aH:=PA.imp kQ λσ H Q gh=>by
 rw[2];cases ef;exact k [] H Ext.refl (Aal.2 rfl)
theorem iR {f:EF}{g:AF}(h1:DE X e f)(h2:DA X es g)(hs:bM (e::es) X.env=(ag,cA e X.env)::bM es X.env:=by rfl):DA X (e::es) (aE f g):=
 PA.imp (gX h1 h2 hs) λσ H Q gh=>by
  obtain⟨P,Y,ds,hP,rs,ef,k⟩:=gh;obtain⟨d,e1,ef⟩:=ao ef;obtain⟨r,e2,ef⟩:=ao ef;cases ef;exact⟨P,Y,d,hP,rs,e1,eI λv H1 x1 r1=>⟨P,Y,r,hP.ext x1,rs.ext (dD x1),e2,λvs H2 x2 r2=>
   k _ _ (x1.trans x2) (Aag.2 ⟨v,vs,rfl,r1.ext (dD x2),r2⟩)⟩⟩
def cK (g:AF):EF:=λY=>(g Y).bind λds=>if ds.length<=sizeLine then aa (.tuple ds) else ab
def cD (g:AF):EF:=λY=>(g Y).bind λds=>if ds.length<=sizeLine then aa (.list ds) else ab
theorem cX {α:Type}{c:Prop}[Decidable c]{x y:α}(h:(if c then aa x else ab)=aa y):c/\x=y:=by
 grind
theorem ZJ {g:AF}{x1}(h:DA X es g):DE X (.Tuple es x1 pos) (cK g):=PE.imp (GB h) λσ H Q gh=>by
 rw[2];obtain⟨ds,e1,ef⟩:=ao ef;obtain⟨hl,rfl⟩:=cX ef;exact⟨P,Y,ds,hP,rs,e1,λvs H1 x1 r1=>⟨by rw[r1.length];exact hl,λp hp=>(k.mono x1).tup (hP.ext x1) hp r1⟩⟩
theorem uO {g:AF}(h:DA X es g):DF 1 X (.List es pos) (cD g):=PE.imp (Jv h) λσ H Q gh=>by
 rw[2];obtain⟨ds,e1,ef⟩:=ao ef;obtain⟨hl,rfl⟩:=cX ef;exact⟨P,Y,ds,hP,rs,e1,λvs H1 x1 r1=>⟨by rw[r1.length];exact hl,λp hp=>(k.mono x1).lst (hP.ext x1) hp r1⟩⟩
def je (K:aM)(n:Nat)(r:R2)(g:aA->aA->aaf):Prop:=
 ∀ (P:aC->Prop) (H:Hp) (x y:V) (a b d:aA) (Q:VK),Hid P H->Abx K (hid H P) a x->Abx K (hid H P) b y->g a b=aa d->Res K P n d H Q->r x y H Q
def ah (g:aA->aA->aaf)(fa fb:EF):EF:=λY=>(fa Y).bind λa=>(fb Y).bind λb=>g a b
theorem FN{fa fb:EF}(hg:je K n r g):∀ σ H Q,tF K n (ah g fa fb) σ H Q->rp r (tF K 0 fa) (tF K 0 fb) σ H Q:=λσ H Q gh=>by
 rw[2];obtain⟨d1,e1,ef⟩:=ao ef;obtain⟨d2,e2,ef⟩:=ao ef;exact⟨P,Y,d1,hP,rs,e1,eI λv H1 x1 r1=>⟨P,Y,d2,hP.ext x1,rs.ext (dD x1),e2,eI λu H2 x2 r2=>
  hg P H2 v u d1 d2 d Q (hP.ext (x1.trans x2)) (r1.ext (dD x2)) r2 ef (k.mono (x1.trans x2))⟩⟩
theorem pA {op:Operator}{fa fb:EF}(ho:OpR X (kW op) r)(hg:je X.K n r g)(ha:DE X a fa)(hb:DE X b fb):DF n X (.BinOp a op b pos) (ah g fa fb):=PE.imp (Ga ho ha hb) (FN hg)
theorem lF{fa fb:EF}(ho:OpR X (gR op) r)(hg:je X.K 0 r g)(ha:DE X a fa)(hb:DE X b fb)(hm:vU op b=ag):DE X (.Compare a [op] [b] pos) (ah g fa fb):=PE.imp (Ut ho ha hb hm) (FN hg)
def bz (g:aA->aaf)(fa:EF):EF:=λY=>(fa Y).bind g
def CallD (K:aM)(n:Nat)(r:aag->Hp->VK->Prop)(g:aae->aaf):Prop:=
 ∀ (P:aC->Prop) (H:Hp) (xs:aag) (ds:aae) (d:aA) (Q:VK),Hid P H->Aap K (hid H P) ds xs->g ds=aa d->Res K P n d H Q->r xs H Q
def aL (g:aae->aaf)(fa:AF):EF:=λY=>(fa Y).bind g
variable {r:aag->Hp->VK->Prop}{g:aae->aaf}{fa:AF}{id:String}
theorem nQ (hc:Adn X (.builtin id) r)(hg:CallD X.K n r g)(t9:Gl X x)(hm:X.mg x=ab)(hv:nA x=aa (.builtin id))(ha:DA X (e::es) fa)(hn:x ≠ "__name__":=by decide)(jq:(x==("__debug__" : aD))=ag:=by decide)
  (he:bM (e::es) X.env=(ag,cA e X.env)::bM es X.env:=by rfl) (im:(iT pos (bM es X.env)).any (·.1)=ag:=by rfl):DF n X (.Call (.Name x p) (e::es) [] pos) (aL g fa):=
 PE.imp (QJ hc t9 hm hv ha hn jq he im) λσ H Q gh=>by
  rw[2];obtain⟨d1,e1,ef⟩:=ao ef;exact⟨P,Y,d1,hP,rs,e1,λvs H1 x1 r1=>hg P H1 vs d1 d Q (hP.ext x1) r1 ef (k.mono x1)⟩
theorem tJ (hc:Adn X (.type T) r)(hg:CallD X.K n r g)(t9:Gl X x)(hm:X.mg x=ab)(hv:nA x=aa (.type T))(ha:DA X (e::es) fa)(hn:x ≠ "__name__":=by decide)(jq:(x==("__debug__" : aD))=ag:=by decide)
  (he:bM (e::es) X.env=(ag,cA e X.env)::bM es X.env:=by rfl) (im:(iT pos (bM es X.env)).any (·.1)=ag:=by rfl):DF n X (.Call (.Name x p) (e::es) [] pos) (aL g fa):=
 PE.imp (CL hc t9 hm hv ha hn jq he im) λσ H Q gh=>by
  rw[2];obtain⟨d1,e1,ef⟩:=ao ef;exact⟨P,Y,d1,hP,rs,e1,λvs H1 x1 r1=>hg P H1 vs d1 d Q (hP.ext x1) r1 ef (k.mono x1)⟩
noncomputable def dg:aA->Option Bool
 |.bool b=>aa b
 |_=>ab
theorem qZ{b:Bool}(h:dg d=aa b):d=.bool b:=by
 cases d<;>simp[dg] at h;rw[h]
def aj (f:EF):BF:=λY=>(f Y).bind dg
theorem Hb {f:EF}(h:DE X e f)(he:∀ gc,isTrue e X.env gc=(do let v <-gc;standAt e.pos;holding [v] (truthy v)):=by intro _;rfl):DT X e (aj f):=PT.imp (Jp h he) λσ H Q gh=>by
 obtain⟨P,Y,b,hP,rs,ef,k⟩:=gh;obtain⟨d,e1,ef⟩:=ao ef;cases qZ ef;exact⟨P,Y,_,hP,rs,e1,eI λv H1 x1 r1=>⟨b,Aao.1 r1,k H1 x1⟩⟩
theorem jG{r:R2}{g:aA->aA->aaf}{fa fb:EF}(ho:OpR X (gR op) r)(hg:je X.K 0 r g)(ha:DE X a fa)(hb:DE X b fb)(hm:vU op b=ag):DT X (.Compare a [op] [b] pos) (aj (ah g fa fb)):=
 PT.imp (OT ho ha hb hm) λσ H Q gh=>by
  obtain⟨P,Y,c,hP,rs,ef,k⟩:=gh;obtain⟨d,e1,ef⟩:=ao ef;cases qZ ef;exact FN hg σ H _ ⟨P,Y,_,hP,rs,e1,eI λv H1 x1 r1=>⟨c,Aao.1 r1,k H1 x1⟩⟩
def cU (f:BF):BF:=λY=>(f Y).bind λb=>aa (!b)
def cT (f g:BF):BF:=λY=>(f Y).bind λb=>if b=af then g Y else aa ag
def ck (f g:BF):BF:=λY=>(f Y).bind λb=>if b=af then aa af else g Y
variable {fB gB:BF}{rest:List aS}
theorem Iw (h:DT X a fB):DT X (.UnaryOp .Not a pos) (cU fB):=PT.imp (Ib h) λσ H Q gh=>by
 obtain⟨P,Y,c,hP,rs,ef,k⟩:=gh;obtain⟨b,e1,ef⟩:=ao ef;cases ef;exact⟨P,Y,b,hP,rs,e1,λH1 x1=>k H1 x1⟩
theorem GK (h:DT X a fB):DW X (.BoolOp .And [a] pos) fB:=Ls h
theorem Ja (h:DT X a fB):DW X (.BoolOp .Or [a] pos) fB:=Jr h
theorem GC (h:DT X a fB)(h2:DW X (.BoolOp .And (b::rest) pos) gB):DW X (.BoolOp .And (a::b::rest) pos) (cT fB gB):=PW.imp (Hf h h2) λσ H Q gh=>by
 obtain⟨P,Y,c,hP,rs,ef,k⟩:=gh;obtain⟨b,e1,ef⟩:=ao ef;refine⟨P,Y,b,hP,rs,e1,λH1 x1=>?_⟩
 cases b with
 |true=>exact rG ⟨P,Y,c,hP.ext x1,rs.ext (dD x1),by simpa using ef,λH2 x2=>k H2 (x1.trans x2)⟩
 |false=>
  grind
theorem Ge (h:DT X a fB)(h2:DW X (.BoolOp .Or (b::rest) pos) gB):DW X (.BoolOp .Or (a::b::rest) pos) (ck fB gB):=PW.imp (Fw h h2) λσ H Q gh=>by
 obtain⟨P,Y,c,hP,rs,ef,k⟩:=gh;obtain⟨b,e1,ef⟩:=ao ef;refine⟨P,Y,b,hP,rs,e1,λH1 x1=>?_⟩
 cases b with
 |true=>
  grind
 |false=>exact rH ⟨P,Y,c,hP.ext x1,rs.ext (dD x1),by simpa using ef,λH2 x2=>k H2 (x1.trans x2)⟩
theorem AR (h:DW X a fB):DT X a fB:=h.pt
def eD (f:EF):EF:=λY=>(f Y).bind λd=>(dg d).bind λb=>aa (.bool (!b))
def cZ (f g:EF):EF:=λY=>(f Y).bind λd=>(dg d).bind λb=>if b=af then g Y else aa (.bool ag)
def fj (f g:EF):EF:=λY=>(f Y).bind λd=>(dg d).bind λb=>if b=af then aa (.bool af) else g Y
variable {f1 f2:EF}
theorem sQ {op}(h:DE X a f1):DE X (.BoolOp op [a] pos) f1:=Im h
theorem YO (h:DE X a f1):DE X (.UnaryOp .Not a pos) (eD f1):=PE.imp (Jc h) λσ H Q gh=>by
 obtain⟨P,Y,c,hP,rs,ef,k⟩:=gh;obtain⟨d,e1,ef⟩:=ao ef;obtain⟨b,e2,cm⟩:=ao ef;clear ef;have ef:=cm;clear cm;cases ef;cases qZ e2;exact⟨P,Y,_,hP,rs,e1,eI λv H1 x1 r1=>⟨b,Aao.1 r1,k.zero x1 (Aao.2 rfl)⟩⟩
theorem qP (h:DE X a f1)(h2:DE X (.BoolOp .And (b::rest) pos) f2):DE X (.BoolOp .And (a::b::rest) pos) (cZ f1 f2):=PE.imp (Hw h h2) λσ H Q gh=>by
 obtain⟨P,Y,c,hP,rs,ef,k⟩:=gh;obtain⟨d,e1,ef⟩:=ao ef;obtain⟨b,e2,cm⟩:=ao ef;clear ef;have ef:=cm;clear cm;cases qZ e2;refine⟨P,Y,_,hP,rs,e1,eI λv H1 x1 r1=>⟨b,Aao.1 r1,?_⟩⟩
 cases b with
 |true=>exact rG ⟨P,Y,c,hP.ext x1,rs.ext (dD x1),by simpa using ef,k.mono x1⟩
 |false=>
  have:eZ ag=c:=by simpa using ef
  subst this;exact rH (k.zero x1 (Aao.2 rfl))
theorem Gk (h:DE X a f1)(h2:DE X (.BoolOp .Or (b::rest) pos) f2):DE X (.BoolOp .Or (a::b::rest) pos) (fj f1 f2):=PE.imp (Fo h h2) λσ H Q gh=>by
 obtain⟨P,Y,c,hP,rs,ef,k⟩:=gh;obtain⟨d,e1,ef⟩:=ao ef;obtain⟨b,e2,cm⟩:=ao ef;clear ef;have ef:=cm;clear cm;cases qZ e2;refine⟨P,Y,_,hP,rs,e1,eI λv H1 x1 r1=>⟨b,Aao.1 r1,?_⟩⟩
 cases b with
 |true=>
  have:eZ af=c:=by simpa using ef
  subst this;exact rG (k.zero x1 (Aao.2 rfl))
 |false=>exact rH ⟨P,Y,c,hP.ext x1,rs.ext (dD x1),by simpa using ef,k.mono x1⟩
def dh (t:BF)(f g:EF):EF:=λY=>(t Y).bind λb=>if b=af then f Y else g Y
theorem BX{t:BF}(hc:DT X c t)(ha:DF n X a f1)(hb:DF n X b f2):DF n X (.IfExp c a b pos) (dh t f1 f2):=PE.imp (Vc hc ha hb) λσ H Q gh=>by
 rw[2];obtain⟨b,e1,ef⟩:=ao ef;refine⟨P,Y,b,hP,rs,e1,λH1 x1=>?_⟩
 cases b with
 |true=>exact rG ⟨P,Y,d,hP.ext x1,rs.ext (dD x1),by simpa using ef,k.mono x1⟩
 |false=>exact rH ⟨P,Y,d,hP.ext x1,rs.ext (dD x1),by simpa using ef,k.mono x1⟩
def xC (g g':aA->aA->aaf)(fa fb fc:EF):EF:=λY=>(fa Y).bind λa=>(fb Y).bind λb=>(g a b).bind λz=>(dg z).bind λt=>if t=af then(fc Y).bind λc=>g' b c else aa (.bool ag)
theorem Ww {r r':R2}{g g':aA->aA->aaf}{fa fb fc:EF}(hg:je K 0 r g)(hg':je K 0 r' g'):∀ σ H Q,tF K 0 (xC g g' fa fb fc) σ H Q->ZW r r' (tF K 0 fa) (tF K 0 fb) (tF K 0 fc) σ H Q:=λσ H Q gh=>by
 rw[2];obtain⟨d1,e1,ef⟩:=ao ef;obtain⟨d2,e2,ef⟩:=ao ef;obtain⟨z,e3,ef⟩:=ao ef;obtain⟨t,e4,cm⟩:=ao ef;clear ef;have ef:=cm;clear cm;cases qZ e4;refine⟨P,Y,d1,hP,rs,e1,eI λv H1 x1 r1=>⟨P,Y,d2,hP.ext x1,rs.ext (dD x1),e2,eI λu H2 x2 r2=>?_⟩⟩
 refine hg P H2 v u d1 d2 _ _ (hP.ext (x1.trans x2)) (r1.ext (dD x2)) r2 e3 (eI λq H3 x3 r3=>⟨t,Aao.1 r3,?_⟩)
 cases t with
 |true=>
  obtain⟨d3,e5,ef⟩:=ao (show((fc Y).bind λc=>g' d2 c)=aa d by simpa using ef)
  exact rG ⟨P,Y,d3,hP.ext ((x1.trans x2).trans x3),rs.ext (dD ((x1.trans x2).trans x3)),e5,eI λw H4 x4 r4=>
   hg' P H4 u w d2 d3 d Q (hP.ext (((x1.trans x2).trans x3).trans x4)) (r2.ext (dD (x3.trans x4))) r4 ef (k.mono (((x1.trans x2).trans x3).trans x4))⟩
 |false=>
  have:eZ ag=d:=by simpa using ef
  subst this;exact rH (k.zero ((x1.trans x2).trans x3) (Aao.2 rfl))
end
abbrev Slot:=Option (Nat×aA)
abbrev aQ:=List Slot
abbrev aar:=Option aQ
noncomputable def vS (Y:aQ):bd:=Y.map λs=>match s with|some (0,d)=>aa d|_=>ab
noncomputable def vA (Y:aQ):bd:=Y.map λs=>s.map (·.2)
theorem Kv {Y:aQ}(h:(vS Y)[i]?=aa (aa d)):Y[i]?=aa (aa (0,d)):=by
 unfold vS at h
 grind
theorem ZY {Y:aQ}(h:(vA Y)[i]?=aa (aa d)):∃ n,Y[i]?=aa (aa (n,d)):=by
 unfold vA at h;rw[eU] at h;cases e:Y[i]? with
 |none=>rw[e] at h;simp at h
 |some s=>
  rw[e] at h;cases s with
  |none=>simp at h
  |some q=>
   grind
abbrev Hd (P0:aC->Prop)(fp:Nat->aaj):aC->Prop:=λa=>P0 a\/∃ i,a∈fp i
structure Sta (K:aM)(H0:Hp)(P0:aC->Prop)(B0:Hp)(Y:aQ)(σ:St)(H:Hp)(fp:Nat->List aC):Prop where
 len:σ.length=Y.length
 nd:∀ i,(fp i).Nodup
 dj:∀ i j a,a∈fp i->a∈fp j->i=j
 own:∀ i a,a∈fp i->H0 a=ab/\((∃ xs,H a=aa (.lst xs))\/∃ q:DQ,H a=aa (dO q))
 ext:Ext H0 H
 hd:Hid P0 H0
 base:Ext B0 (hid H (Hd P0 fp))
 slot:∀ (i:Nat) n d,Y[i]?=aa (aa (n,d))->∃ v,σ[i]?=aa (aa v)/\Afg K (hid H (Hd P0 fp)) H n d v (fp i)
section
variable {Y:aQ}
theorem Sta.hid (S:Sta K H0 P0 B0 Y σ H fp):Hid (Hd P0 fp) H:=λa h=>by
 rcases h with h|⟨i,h⟩
 .exact S.hd.ext S.ext a h
 .exact(S.own i a h).2
theorem Sta.np (S:Sta K H0 P0 B0 Y σ H fp)(m:a∈fp i):¬ P0 a:=S.hd.new (S.own i a m).1
theorem Sta.grow (S:Sta K H0 P0 B0 Y σ H fp)(x:Ext H H'):Sta K H0 P0 B0 Y σ H' fp:=by
 refine⟨S.len,S.nd,S.dj,λi a m=>⟨(S.own i a m).1,(S.own i a m).2.imp (λ⟨xs,e⟩=>⟨xs,x _ _ e⟩) λ⟨xs,e⟩=>⟨xs,x _ _ e⟩⟩,S.ext.trans x,S.hd,S.base.trans (dD x),λi n d e=>?_⟩
 obtain⟨v,h1,h2⟩:=S.slot i n d e;refine⟨v,h1,h2.keep (dD x) λa m=>?_⟩
 rcases(S.own i a m).2 with⟨xs,e⟩|⟨xs,e⟩
 all_goals grind
theorem Sta.viewS (S:Sta K H0 P0 B0 Y σ H fp):Amf K (L2.hid H (Hd P0 fp)) (vS Y) σ:=λi d e=>by
 obtain⟨v,h1,h2⟩:=S.slot i 0 d (Kv e);exact⟨v,h1,h2.2⟩
theorem Sta.viewA (S:Sta K H0 P0 B0 Y σ H fp):Amf K (L2.hid H P0) (vA Y) σ:=λi d e=>by
 obtain⟨n,e⟩:=ZY e;obtain⟨v,h1,h2⟩:=S.slot i n d e;exact⟨v,h1,h2.share (iP λa p=>.inl p) λa m o e=>gD (S.np m) e⟩
def Tmp (K:aM)(H0:Hp)(P0:aC->Prop)(B0:Hp)(Y:aQ)(σ:St)(n:Nat)(d:aA)(v:V)(H:Hp):Prop:=
 ∃ fp,Sta K H0 P0 B0 Y σ H fp/\Afg K (L2.hid H (Hd P0 fp)) H n d v (fp Y.length)
inductive Md|s|a
noncomputable def eV (n:Nat)(m:Md)(f:EF)(Y:aQ):aaf:=match m with
 |.s=>f (vS Y)
 |.a=>(f (vA Y)).bind λd=>if cQ n d=af then aa d else ab
noncomputable def bV (m:Md)(f:BF)(Y:aQ):Option Bool:=match m with
 |.s=>f (vS Y)
 |.a=>f (vA Y)
noncomputable def aV (m:Md)(f:AF)(Y:aQ):aac:=match m with
 |.s=>f (vS Y)
 |.a=>f (vA Y)
def tE (K:aM)(H0:Hp)(P0:aC->Prop)(n:Nat)(m:Md)(f:EF):TE:=λσ H Q=>∃ B0 Y fp d,Sta K H0 P0 B0 Y σ H fp/\eV n m f Y=aa d/\∀ v H',Tmp K H0 P0 B0 Y σ n d v H'->Q v H'
end
theorem Sta.tmpA{Y:aQ}{Fr:aaj}(S:Sta K H0 P0 B0 Y σ H fp)(fl:cQ n d=af)(x:Ext H H')(nd:Fr.Nodup)(fr:∀ a∈Fr,H a=ab/\∃ o,H' a=aa o)(r:Afg K (L2.hid H' (de P0 Fr)) H' n d v Fr):Tmp K H0 P0 B0 Y σ n d v H':=by
 have S':=S.grow x;have J1:∀ i a,a∈fp i->a∉Fr:=λi a h1 h2=>by
  have:=(fr a h2).1;rcases(S.own i a h1).2 with⟨xs,e⟩|⟨xs,e⟩<;>rw[this] at e<;>first|cases e|(cases xs<;>simp[dO] at e)
 have xb:Ext (L2.hid H (Hd P0 fp)) (L2.hid H' (Hd P0 λi=>if i=Y.length then Fr else fp i)):=λb o e=>by
  obtain⟨nb,e⟩:=Abz.1 e;refine gD (λq=>?_) (x _ _ e)
  grind
 refine⟨λi=>if i=Y.length then Fr else fp i,⟨S.len,λi=>?_,λi j a hi hj=>?_,λi a hi=>?_,S'.ext,S.hd,S.base.trans xb,λi n' d' e'=>?_⟩,?_⟩
 .by_cases hi:i=Y.length
  .simp only[hi,if_true];exact nd
  .simp only[hi,if_false];exact S.nd i
 .by_cases h1:i=Y.length<;>by_cases h2:j=Y.length
  .rw[h1,h2]
  .grind
  .grind
  .simp only[h1,if_false] at hi;simp only[h2,if_false] at hj;exact S.dj i j a hi hj
 .by_cases h1:i=Y.length
  .simp only[h1,if_true] at hi;exact⟨S.ext.none (fr a hi).1,r.mut a hi⟩
  .simp only[h1,if_false] at hi;exact S'.own i a hi
 .have bu:=(eW.1 e').1;have h1:i≠Y.length:=()
  obtain⟨v2,p1,p2⟩:=S.slot i n' d' e';refine⟨v2,p1,?_⟩;simp only[h1,if_false];refine p2.keep xb λa m=>?_
  rcases(S.own i a m).2 with⟨xs,e⟩|⟨xs,e⟩
  all_goals grind
 .simp only[if_true];refine r.flat (λa xs e=>?_) fl
  obtain⟨na,e⟩:=Abz.1 e;refine gD (λq=>?_) e
  rcases q with q|⟨j,q⟩
  .exact na (.inl q)
  .by_cases hj:j=Y.length
   .grind
   .simp only[hj,if_false] at q;rcases(S'.own j a q).2 with⟨ys,e2⟩|⟨ys,e2⟩<;>rw[e] at e2<;>first|cases e2|(cases ys<;>simp[dO] at e2)
theorem NH{f:EF}(m:Md):∀ σ H Q,tE K H0 P0 n m f σ H Q->tF K n f σ H Q:=λσ H Q gh=>by
 obtain⟨B0,Y,fp,d,S,ef,k⟩:=gh;cases m with
 |s=>
  refine⟨Hd P0 fp,vS Y,d,S.hid,S.viewS,ef,λv H' Fr x nd fr r=>k v H' ?_⟩
  have S':=S.grow x;have gk:∀ a,Hd P0 (λi=>if i=Y.length then Fr else fp i) a->de (Hd P0 fp) Fr a:=λa h=>by
   grind
  have J1:∀ i a,a∈fp i->a∉Fr:=λi a h1 h2=>by
   have:=(fr a h2).1;rcases(S.own i a h1).2 with⟨xs,e⟩|⟨xs,e⟩<;>rw[this] at e<;>first|cases e|(cases xs<;>simp[dO] at e)
  have xb:Ext (L2.hid H (Hd P0 fp)) (L2.hid H' (Hd P0 λi=>if i=Y.length then Fr else fp i)):=λb o e=>by
   obtain⟨nb,e⟩:=Abz.1 e;refine gD (λq=>?_) (x _ _ e)
   grind
  refine⟨λi=>if i=Y.length then Fr else fp i,⟨S.len,λi=>?_,λi j a hi hj=>?_,λi a hi=>?_,S'.ext,S.hd,S.base.trans xb,λi n' d' e'=>?_⟩,?_⟩
  .by_cases hi:i=Y.length
   .simp only[hi,if_true];exact nd
   .simp only[hi,if_false];exact S.nd i
  .by_cases h1:i=Y.length<;>by_cases h2:j=Y.length
   .rw[h1,h2]
   .grind
   .grind
   .simp only[h1,if_false] at hi;simp only[h2,if_false] at hj;exact S.dj i j a hi hj
  .by_cases h1:i=Y.length
   .simp only[h1,if_true] at hi;exact⟨S.ext.none (fr a hi).1,r.mut a hi⟩
   .simp only[h1,if_false] at hi;exact S'.own i a hi
  .have bu:=(eW.1 e').1;have h1:i≠Y.length:=()
   obtain⟨v',q1,q2⟩:=S'.slot i n' d' e';refine⟨v',q1,?_⟩;simp only[h1,if_false];obtain⟨v2,p1,p2⟩:=S.slot i n' d' e';have ev:=fM (fM (p1.symm.trans q1));subst ev;refine p2.keep xb λa m=>?_
   rcases(S.own i a m).2 with⟨xs,e⟩|⟨xs,e⟩
   all_goals grind
  .simp only[if_true];exact r.keep (iP gk) λa m=>rfl
 |a=>
  obtain⟨d',ed,ef⟩:=ao ef;obtain⟨fl,rfl⟩:=cX ef;exact⟨P0,vA Y,d',S.hd.ext S.ext,S.viewA,ed,λv H' Fr x nd fr r=>k v H' (S.tmpA fl x nd fr r)⟩
theorem ev {f:EF}(m:Md)(h:DF n X e f):PE X e (tE X.K H0 P0 n m f):=PE.imp h (NH m)
def tB' (K:aM)(H0:Hp)(P0:aC->Prop)(m:Md)(f:BF):TT:=λσ H Q=>∃ B0 Y fp b,Sta K H0 P0 B0 Y σ H fp/\bV m f Y=aa b/\∀ H',Sta K H0 P0 B0 Y σ H' fp->Q b H'
theorem F3 {f:BF}(m:Md)(h:DT X e f):PT X e (tB' X.K H0 P0 m f):=PT.imp h λσ H Q gh=>by
 obtain⟨B0,Y,fp,b,S,ef,k⟩:=gh;cases m with
 |s=>exact⟨Hd P0 fp,vS Y,b,S.hid,S.viewS,ef,λH' x=>k H' (S.grow x)⟩
 |a=>exact⟨P0,vA Y,b,S.hd.ext S.ext,S.viewA,ef,λH' x=>k H' (S.grow x)⟩
inductive Out where
 |nx (Y:aQ)|rt (d:aA)|bk (Y:aQ)|ct (Y:aQ)
abbrev SF:=aQ->Option Out
def MX (K:aM)(H0:Hp)(P0:aC->Prop)(n0:Nat)(d:aA)(v:V)(H':Hp):Prop:=
 ∃ Fr,Ext H0 H'/\Fr.Nodup/\(∀ a∈Fr,H0 a=ab/\∃ o,H' a=aa o)/\Afg K (hid H' (de P0 Fr)) H' n0 d v Fr
def Es (K:aM)(H0:Hp)(P0:aC->Prop)(B0:Hp)(n0:Nat)(D:Ends):Out->Prop
 |.nx Y=>∀ σ H fp,Sta K H0 P0 B0 Y σ H fp->D.nx σ H
 |.bk Y=>∀ σ H fp,Sta K H0 P0 B0 Y σ H fp->D.bk σ H
 |.ct Y=>∀ σ H fp,Sta K H0 P0 B0 Y σ H fp->D.ct σ H
 |.rt d=>∀ v H',MX K H0 P0 n0 d v H'->D.rt v H'
def tS (K:aM)(H0:Hp)(P0:aC->Prop)(n0:Nat)(F:SF):TS:=λD σ H=>∃ B0 Y fp o,Sta K H0 P0 B0 Y σ H fp/\F Y=aa o/\Es K H0 P0 B0 n0 D o
abbrev DS (X:Cx)(H0:Hp)(P0:aC->Prop)(n0:Nat)(s:fU)(F:SF):Prop:=PS X s (tS X.K H0 P0 n0 F)
abbrev jm (X:Cx)(H0:Hp)(P0:aC->Prop)(n0:Nat)(s:List fU)(F:SF):Prop:=PSs X s (tS X.K H0 P0 n0 F)
section
variable {s:fU}{ss:List fU}{F G:SF}{f:EF}
theorem PS.imp {t t':TS}(h:PS X s t)(w:∀ D σ H,t' D σ H->t D σ H):PS X s t':=λac st σ H D I q=>h ac st σ H D I (w _ _ _ q)
theorem PSs.imp {t t':TS}(h:PSs X ss t)(w:∀ D σ H,t' D σ H->t D σ H):PSs X ss t':=λac st σ H D I q=>h ac st σ H D I (w _ _ _ q)
def bN:SF:=λY=>aa (.nx Y)
noncomputable def aN (F G:SF):SF:=λY=>(F Y).bind λo=>match o with
 |.nx Y'=>G Y'
 |o=>aa o
theorem HC:jm X H0 P0 n0 [] bN:=PSs.imp GV λD σ H gh=>by
 rw[4];cases ef;exact k σ H fp S
theorem xZ (h:DS X H0 P0 n0 s F):jm X H0 P0 n0 [s] F:=BR h
theorem vC (h:DS X H0 P0 n0 s F)(h2:jm X H0 P0 n0 ss G):jm X H0 P0 n0 (s::ss) (aN F G):=PSs.imp (yF h h2) λD σ H gh=>by
 rw[4];obtain⟨o1,e1,ef⟩:=ao ef;refine⟨B0,Y,fp,o1,S,e1,?_⟩;cases o1 with
 |nx Y1=>exact λσ1 H1 nr S1=>⟨B0,Y1,nr,o,S1,ef,k⟩
 |rt d=>cases ef;exact k
 |bk Y1=>cases ef;exact k
 |ct Y1=>cases ef;exact k
def ba (m:Md)(t:BF)(F G:SF):SF:=λY=>(bV m t Y).bind λb=>if b=af then F Y else G Y
theorem FR{a b:List fU}{t:BF}(m:Md)(hc:DT X c t)(ha:jm X H0 P0 n0 a F)(hb:jm X H0 P0 n0 b G):DS X H0 P0 n0 (.If c a b pos) (ba m t F G):=
 PS.imp (OB (F3 m hc) ha hb) λD σ H gh=>by
  rw[4];obtain⟨b,e1,ef⟩:=ao ef;refine⟨B0,Y,fp,b,S,e1,λH1 S1=>?_⟩
  cases b with
  |true=>exact rG ⟨B0,Y,fp,o,S1,by simpa using ef,k⟩
  |false=>exact rH ⟨B0,Y,fp,o,S1,by simpa using ef,k⟩
noncomputable def frz (i:Nat)(Y:aQ):aQ:=match Y[i]? with
 |some (aa (_,d))=>Y.set i (aa (0,d))
 |_=>Y
theorem Sta.frz{Y:aQ}(S:Sta K H0 P0 B0 Y σ H fp)(i:Nat):∃ cu,Sta K H0 P0 B0 (L2.frz i Y) σ H cu:=by
 unfold L2.frz;cases e:Y[i]? with
 |none=>exact⟨fp,S⟩
 |some s=>
  cases s with
  |none=>exact⟨fp,S⟩
  |some q=>
   obtain⟨n,d⟩:=q;have hi:=(eW.1 e).1;have gk:∀ a,Hd P0 (λj=>if j=i then [] else fp j) a->Hd P0 fp a:=λa h=>by
    grind
   refine⟨λj=>if j=i then [] else fp j,⟨by simp[S.len],λj=>?_,λj k a h1 h2=>?_,λj a h1=>?_,S.ext,S.hd,S.base.trans (iP gk),λj n' d' e'=>?_⟩⟩
   .by_cases hj:j=i
    .simp only[hj,if_true];exact .nil
    .simp only[hj,if_false];exact S.nd j
   .by_cases hj:j=i
    .simp only[hj,if_true] at h1;simp at h1
    .by_cases hk:k=i
     .simp only[hk,if_true] at h2;simp at h2
     .simp only[hj,if_false] at h1;simp only[hk,if_false] at h2;exact S.dj j k a h1 h2
   .by_cases hj:j=i
    .simp only[hj,if_true] at h1;simp at h1
    .simp only[hj,if_false] at h1;exact S.own j a h1
   .by_cases hj:j=i
    .subst hj;rw[oE hi] at e';cases e';obtain⟨v,h1,h2⟩:=S.slot j n d e;refine⟨v,h1,?_⟩;simp only[if_true];refine⟨rfl,h2.share (iP gk) λa m o q=>gD (λz=>?_) q⟩
     rcases z with z|⟨k,z⟩
     .exact S.np m z
     .by_cases hk:k=j
      .simp only[hk,if_true] at z;simp at z
      .simp only[hk,if_false] at z;exact hk (S.dj k j a z m)
    .rw[mI (λz=>hj z.symm)] at e'
     obtain⟨v,h1,h2⟩:=S.slot j n' d' e';refine⟨v,h1,?_⟩;simp only[hj,if_false];exact h2.keep (iP gk) λa m=>rfl
def cV (i:Nat)(F:SF):SF:=λY=>F (frz i Y)
theorem Bg (i:Nat)(h:jm X H0 P0 n0 ss F):jm X H0 P0 n0 ss (cV i F):=PSs.imp h λD σ H ⟨B0,Y,fp,o,S,ef,k⟩=>let ⟨cu,S'⟩:=S.frz i;⟨B0,_,cu,o,S',ef,k⟩
theorem Tmp.set{Y:aQ}(t:Tmp K H0 P0 B0 Y σ n d v H)(hi:i<Y.length):∃ fp,Sta K H0 P0 B0 (Y.set i (aa (n,d))) (σ.set i (aa v)) H fp:=by
 obtain⟨fp,S,r⟩:=t;have j':Y.length≠i:=()
 have gk:∀ a,Hd P0 (λj=>if j=i then fp Y.length else if j=Y.length then [] else fp j) a->Hd P0 fp a:=λa h=>by
  grind
 have xo:∀ j a,a∈(if j=i then fp Y.length else if j=Y.length then [] else fp j)->(j=i/\a∈fp Y.length)\/(j≠i/\j≠Y.length/\a∈fp j):=λj a h=>by
  grind
 refine⟨λj=>if j=i then fp Y.length else if j=Y.length then [] else fp j,⟨by simp[S.len],λj=>?_,λj k a h1 h2=>?_,λj a h1=>?_,S.ext,S.hd,S.base.trans (iP gk),λj n' d' e'=>?_⟩⟩
 .by_cases hj:j=i
  .rw[if_pos hj];exact S.nd _
  .by_cases hk:j=Y.length
   .rw[if_neg hj,if_pos hk];exact .nil
   .rw[if_neg hj,if_neg hk];exact S.nd _
 .rcases xo j a h1 with⟨e1,m1⟩|⟨e1,l1,m1⟩<;>rcases xo k a h2 with⟨e2,m2⟩|⟨e2,l2,m2⟩
  .rw[e1,e2]
  .exact absurd (S.dj _ _ a m2 m1) l2
  .exact absurd (S.dj _ _ a m1 m2) l1
  .exact S.dj j k a m1 m2
 .rcases xo j a h1 with⟨e1,m1⟩|⟨e1,l1,m1⟩
  .exact S.own _ a m1
  .exact S.own _ a m1
 .by_cases hj:j=i
  .subst hj;rw[oE hi] at e';cases e';refine⟨v,?_,?_⟩
   .rw[oE (by rw[S.len];exact hi)]
   .rw[if_pos rfl];exact r.keep (iP gk) λa m=>rfl
  .rw[mI (λz=>hj z.symm)] at e'
   have bu:=(eW.1 e').1;have hk:j≠Y.length:=()
   obtain⟨v',h1,h2⟩:=S.slot j n' d' e';refine⟨v',?_,?_⟩
   .grind
   .rw[if_neg hj,if_neg hk];exact h2.keep (iP gk) λa m=>rfl
def aU (i n:Nat)(m:Md)(f:EF):SF:=λY=>(eV n m f Y).bind λd=>if i<Y.length then aa (.nx (Y.set i (aa (n,d)))) else ab
theorem GA{jp:bH}(n:Nat)(m:Md)(hN:X.N.Nodup)(hi:X.N[i]?=aa x)(hx:jN X.env.scope x)(he:DF n X e f)(hs:kI e (aa (.Name x jp)) pos.line X.env=pure ag:=by rfl)(hf:Fn X x:=by exact jO) :
  DS X H0 P0 n0 (.Assign [.Name x jp] e pos) (aU i n m f):=PS.imp (KI hN hi hx (ev m he) hs hf) λD σ H gh=>by
 rw[4];obtain⟨d,e1,ef⟩:=ao ef;obtain⟨hl,rfl⟩:=cX ef;refine⟨B0,Y,fp,d,S,e1,λv H' t=>?_⟩
 obtain⟨cu,S'⟩:=t.set hl;exact k _ _ cu S'
theorem Tmp.ret{Y:aQ}(t:Tmp K H0 P0 B0 Y σ n d v H):MX K H0 P0 n d v H:=by
 obtain⟨fp,S,r⟩:=t;refine⟨fp Y.length,S.ext,S.nd _,λa m=>⟨(S.own _ a m).1,?_⟩,r.keep (iP λa h=>?_) λa m=>rfl⟩
 .rcases(S.own _ a m).2 with⟨xs,e⟩|⟨xs,e⟩
  all_goals grind
 all_goals grind
def bB (n:Nat)(m:Md)(f:EF):SF:=λY=>(eV n m f Y).bind λd=>aa (.rt d)
theorem KJ (m:Md)(he:DF n0 X e f):DS X H0 P0 n0 (.Return (aa e) pos) (bB n0 m f):=PS.imp (uQ (ev m he)) λD σ H gh=>by
 rw[4];obtain⟨d,e1,ef⟩:=ao ef;cases ef;exact⟨B0,Y,fp,d,S,e1,λv H' t=>k v H' t.ret⟩
noncomputable def dS (i n0:Nat):SF:=λY=>match Y[i]? with
 |some (aa (n,d))=>if n=n0 then aa (.rt d) else ab
 |_=>ab
theorem Lh (i:Nat)(hN:Nm X i x:=by exact kN):DS X H0 P0 n0 (.Return (aa (.Name x p)) pos) (dS i n0):=PS.imp (uQ (hN.pe)) λD σ H gh=>by
 rw[4];unfold dS at ef;cases e:Y[i]? with
 |none=>rw[e] at ef;simp at ef
 |some q=>
  cases q with
  |none=>rw[e] at ef;simp at ef
  |some q=>
   obtain⟨n,d⟩:=q;rw[e] at ef;obtain⟨rfl,rfl⟩:=cX ef;obtain⟨v,h1,h2⟩:=S.slot i n d e;refine⟨v,h1,k v H ⟨fp i,S.ext,S.nd i,λa m=>⟨(S.own i a m).1,?_⟩,h2.keep (iP λa h=>?_) λa m=>rfl⟩⟩
   .rcases(S.own i a m).2 with⟨xs,e⟩|⟨xs,e⟩
    all_goals grind
   all_goals grind
def Fe (m:Md)(f:EF):SF:=λY=>(eV 0 m f Y).bind λ_=>aa (.nx Y)
theorem Up (m:Md)(he:DE X e f)(hs:kI e ab pos.line X.env=pure ag:=by rfl):DS X H0 P0 n0 (.Expr e pos) (Fe m f):=PS.imp (qR (ev m he) hs) λD σ H gh=>by
 rw[4];obtain⟨d,e1,ef⟩:=ao ef;cases ef;refine⟨B0,Y,fp,d,S,e1,λv H' ⟨cu,S',r⟩=>k _ _ cu S'⟩
end
theorem Rx:Adn X (.builtin "isinstance") (λxs H Q=>∃ x T t b,xs=[x,.ty T]/\TyOf X.K H x t/\Bu X.K t (.type T)=aa b/\Q (.bl b) H):=by
 rw[3];obtain⟨x,T,t,b,rfl,ty,e,q⟩:=h;obtain⟨u,w',rfl,ru,i3⟩:=vals2 r;cases i3;exact Yo I ru ty e λtk=>⟨.bl b,H,I.tok tk,rfl,q⟩
def AK (x:aD):It:=⟨λi _=>i<x.cps.size,λi H v H'=>H'=H/\∃ c,x.cps[i]?=aa c/\v=.str ⟨#[c]⟩,λi _=>x.cps.size<=i⟩
theorem SM {P:bW}{it:aC}{xp:Tok}{ty:String}
  (W:∀ A':cP,A'.handled=ab->Walks P w A' it [it] [it] x.cps.size (SignAt x) (λi h=>h.IsStrIter it ty x xp i))
  (sf:∀ (A:cP) (i:Nat) (s:aK) (Q:aF->aK->Prop) (E:aF->aK->Prop),s.heap.IsStrIter it ty x xp i->Q (.ref it) s->aP (aW P w) A (pyIter (.ref it)) Q E s)
  (xf:["enumerate","zip","dict_itemiterator","dict_reverseitemiterator","odict_iterator","itertools.zip_longest","itertools.pairwise"].contains ty=ag) :
  Turn P w K tg (AK x) [it] it (λi h=>h.IsStrIter it ty x xp i/\i<=x.cps.size) where
 mem:=by simp
 obj:=λi h st b hb=>by
  have e:b=it:=by simpa using hb
  subst e;obtain⟨o,e,_,d⟩:=st.1
  grind
 keep:=λi h h' st k=>⟨let ⟨o,e,r⟩:=st.1;⟨o,k it (by simp) o e,r⟩,st.2⟩
 item:=by
  intro X hP hw hK hc i ac s σ H E I hf st hg;subst hP hw hK;obtain⟨f0,f1,f2,f3,f4,f5⟩:=hf it (by simp)
  refine(W X.A (I.ok.hd hc)).item i s _ _ hg st.1 λv h' tk hv jh kk=>?_
  obtain⟨c,u,J3,rfl⟩:=hv;have I1:Inv X ac σ H { s with heap:=h',toks:=tk }:=I.turned (λb o hb e=>kk b o (by simpa using hb) e) f0 f1 f3 f4 f5
  obtain⟨o,e,ua,d⟩:=id jh;exact⟨_,rfl,CY e ua d xf ⟨.str ⟨#[c]⟩,H,I1,⟨u,rfl⟩,⟨rfl,c,J3,rfl⟩,⟨jh,hg⟩,λb hb=>(hf b hb).1⟩⟩
 done:=by
  intro X hP hw hK hc i ac s σ H E I hf st hg;subst hP hw hK;obtain⟨f0,f1,f2,f3,f4,f5⟩:=hf it (by simp)
  have hi:=Nat.le_antisymm st.2 hg;subst hi;exact(W X.A (I.ok.hd hc)).done s _ _ st.1 λh' tk kk=>⟨rfl,I.turned (λb o hb e=>kk b o (by simpa using hb) e) f0 f1 f3 f4 f5⟩
 self:=λA i s Q E st h=>sf A i s Q E st.1 h
def Em (tl:TE):TI:=λσ H R=>tl σ H λv H1=>∃ x,v=.str x/\R (AK x) H1
theorem Io {X:Cx}{l:aS}{tl:TE}(hl:PE X l tl):PI X tg l (Em tl):=by
 intro ac s σ H R I h;refine bb (hl ac s σ H _ I h) λv s1 gh=>?_
 obtain⟨y,H1,I1,r1,q1⟩:=gh;obtain⟨x,rfl,q⟩:=q1;obtain⟨t,rfl⟩:=r1;have fin:∀ (o:bJ) (ty:String),Turn X.prog X.w X.K tg (AK x) [s1.heap.objs.size] s1.heap.objs.size (λi h=>h.IsStrIter s1.heap.objs.size ty x t i/\i<=x.cps.size)->(s1.heap.push o).IsStrIter s1.heap.objs.size ty x t 0 ->
   zx X ac σ tg R (.ref s1.heap.objs.size) { s1 with heap:=s1.heap.push o }:=λo ty T st=>by
  refine⟨s1.heap.objs.size,[s1.heap.objs.size],_,_,H1,rfl,I1.kept λb o e=>cF _ e,T,⟨st,fY _⟩,λb hb=>?_,q⟩
  have e:b=s1.heap.objs.size:=by simpa using hb
  subst e;exact I1.fpOk (bS _) (I1.hok.fresh (bS _))
 cases ha:x.cps.all (· < 128)
 .exact wpAny_pyIter_wide ha (fin _ "str_iterator" (SM (λA' hA=>Walks.strWide hA _ x t) (λA i s Q E st h=>wpAny_pyIter_striter_wide st h) nofun) ⟨_,dZ _ rfl,rfl,rfl⟩)
 .exact wpAny_pyIter_ascii ha (fin _ "str_ascii_iterator" (SM (λA' hA=>Walks.strAscii hA _ x t) (λA i s Q E st h=>wpAny_pyIter_striter_ascii st h) nofun) ⟨_,dZ _ rfl,rfl,rfl⟩)
def allB (xs:aag):Bool:=xs.all λv=>decide (v=.bl af)
theorem Zf (hc:X.calm=af):Adn X (.builtin "all") (λxs H Q=>∃ p ys,xs=[.ref p]/\SqL X.K H p ys/\(∀ y∈ys,∃ b,y=.bl b)/\Q (.bl (allB ys)) H):=by
 rw[3];obtain⟨p,ys,rfl,hs,hb,q⟩:=h;obtain⟨u,rfl,ru⟩:=vals1 r;cases ru;obtain⟨its,rv,pl,hz⟩:=I.list hs;have hl:=pl.isList;have bu:p<s.heap.objs.size:=by obtain⟨o,n,e,_⟩:=pl;exact bX e
 have hh:=I.ok.hd hc;have len:=rv.length;refine call_all_walk (DV hl ⟨s.heap.objs.size,_,_,_,_,_,λi=>decide (ys[i]?=aa (.bl af)),rfl,Walks.list (A:=X.A.in1) hh s.heap.objs.size p (fH bu) its.toArray,
  ⟨⟨_,dZ _ rfl,rfl,rfl⟩,hl.at λo e=>cF _ e⟩,?_,?_⟩)
 .intro i v s' Q' E' hv hq;have ub:its[i]?=aa v:=by simpa using hv
  have hi:i<ys.length:=by rw[len];exact(eW.1 ub).1
  obtain⟨b,hy⟩:=hb ys[i] (MH hi);have qj:ys[i]?=aa (.bl b):=by rw[jU hi,hy]
  obtain⟨u',h1,h2⟩:=rv.get qj;rw[ub] at h1;cases h1;cases h2;refine rJ ?_;have:decide (ys[i]?=aa (V.bl af))=b:=by rw[qj];cases b<;>simp
  grind
 .intro h' tk hk;have e:((bD its.toArray.size).all λi=>decide (ys[i]?=aa (V.bl af)))=allB ys:=by
   have hn:its.toArray.size=ys.length:=by simp[len]
   rw[hn];unfold allB;rw[iW];simp only[iV,hE,decide_eq_true_eq];constructor
   .intro h v hv;obtain⟨i,hi,rfl⟩:=List.getElem_of_mem hv
    grind
   .intro h i hi;rw[jU hi,h _ (MH hi)]
  rw[e];refine⟨.bl (allB ys),H,?_,rfl,q⟩;exact I.kept λb o eb=>hk b o (by simp;exact fH (bX eb)) (cF _ eb)
structure Def (P:bW)(w:bG)(K:aM)(mg:aD->Option aF)(base:aY)(x:aD)(k:Nat)(ps:List aD)(sp:Sp):Prop where
 ex:∃ f fd,FnOk P w K mg base jw k f fd ps sp/\mg x=aa (.ref f)/\EB K (.ref f)=af/\Binds K fd ps []
section
variable {k:Nat}{t:TA}
theorem KO (D:Def X.prog X.w X.K X.mg X.base x k ps sp)(hr:Room k X.A)(hg:Gl X x)(ha:PA X (e::es) t)(jq:(x==("__debug__" : aD))=ag:=by decide)(he:bM (e::es) X.env=(ag,cA e X.env)::bM es X.env:=by rfl)
  (im:(iT pos (bM es X.env)).any (·.1)=ag:=by rfl):PE X (.Call (.Name x p) (e::es) [] pos) (NN sp [] E0 t):=by
 obtain⟨f,fd,F,hm,hk,hb⟩:=D.ex;exact Ma F hr hg hm hk hb .nil Ez ha jq he im
end
def FB (a b:String):Option Bool:=if (kX a==kX b)=af then aa af else if PySem.W.kitMeta b=af then(fastBuiltinMro a).map (·.contains (.type b)) else ab
theorem Amb{a b:String}:Bu K (.type a) (.type b)=FB a b:=rfl
def kinds:List String:=["NoneType","bool","int","str","list","tuple","dict"]
def dz (t T:String):Bool:=t==T||(t == "bool" && T == "int")
theorem Xc:(kinds.all λt=>["int","bool","str","list","tuple","dict"].all λT=>decide (FB t T=aa (dz t T)))=af:=by rw[0]
theorem Lj {t:String}(ht:t∈kinds)(hT:T∈["int","bool","str","list","tuple","dict"]):FB t T=aa (dz t T):=by
 have h:=iV.1 Xc t ht
 grind
theorem Et(hg:Gl X x)(hm:X.mg x=ab)(hv:nA x=aa (.type T))(hn:x ≠ "__name__":=by decide)(hd:(x==("__debug__" : aD))=ag:=by decide):PE X (.Name x pos) (tC (.ty T)):=
 Lx hg hm hv rfl hn hd
theorem boot_isinstance:nA "isinstance" = aa (.builtin "isinstance"):=by rw[0]
theorem boot_all:nA "all" = aa (.builtin "all"):=by rw[0]
theorem bits_le {i:Int}(h:i.natAbs<2^n):jM i<=n:=by
 unfold jM;split
 .exact fY _
 .rename_i j';have h0:i.natAbs≠0:=by
   grind
  have:=(Nat.log2_lt h0).2 h
  lia
theorem Np:OpR X (kW .Mult) (rI (λi j=>i.natAbs<2^1000/\j.natAbs<2^1000) λi j=>.int (i*j)):=sr λi j _ _ _ _ _ hc q=>
 mul_int q (c6 (bits_le hc.1) (bits_le hc.2) nofun)
theorem DL{k:Nat}(hr:Room k A):A.units+100<cLine:=by
 have:=hr.un
 lia
theorem JO:∀ {xs:aag} {us:aal},xs.length=us.length->(∀ (j:Nat) x u,xs[j]?=aa x->us[j]?=aa u->RelV x u)->Vals xs us
 |[],[],_,_=>.nil
 |[],_::_,h,_=>by simp at h
 |_::_,[],h,_=>by simp at h
 |x::xs,u::us,h,r=>.cons (r 0 x u rfl rfl) (JO (by simpa using h) λj y w h1 h2=>r (j+1) y w (by simpa using h1) (by simpa using h2))
def sE (c:Nat):V:=.str ⟨#[c]⟩
theorem Qh (hc:X.calm=af):Adn X (.type "list") (λxs H Q=>∃ z:aD,xs=[.str z]/\z.length<=sizeLine/\∀ l,H l=ab->Q (.ref l) (upd H l (.lst (z.cps.toList.map sE)))):=by
 rw[3];obtain⟨z,rfl,hz,q⟩:=h;obtain⟨u,rfl,t,rfl⟩:=vals1 r;refine call_list_str (I.ok.hd hc) z t (λh' tk l5 c' hk hS ee=>?_) hz
 have hv:Vals (z.cps.toList.map sE) l5.toList:=by
  refine JO (by simp[ee.1]) λj x u h1 h2=>?_
  obtain⟨c,t',pj,rfl⟩:=ee.2 j u (by simpa using h2)
  have:(z.cps.toList.map sE)[j]?=aa (sE c):=by simp[pj]
  rw[this] at h1;cases h1;exact⟨t',rfl⟩
 exact⟨.ref s.heap.objs.size,_,I.laid hk (bS _) (show Ac5 X.prog X.w _ h' _ (.lst (z.cps.toList.map sE)) from⟨by rw[fA,Array.length_toList];exact hz,l5.toList,c',hv,by simpa using hS⟩),rfl,q _ I.fresh⟩
def m9 (K:aM)(B:Hp)(J:It)(ds:aae):Prop:=∀ (i:Nat) (H2:Hp),Ext B H2 ->
 (∀ d,ds[i]?=aa d->J.go i H2/\∀ x H3,J.yld i H2 x H3->Ext H2 H3/\∀ P2,Hid P2 H2->Ext B (hid H2 P2)->Abx K (hid H3 P2) d x)/\(ds.length=i->J.stop i H2)
def tI (K:aM)(f:AF):TI:=λσ H R=>∃ P Y ds,Hid P H/\Amf K (hid H P) Y σ/\f Y=aa ds/\∀ J H',Ext H H'->m9 K (hid H' P) J ds->R J H'
def T5 (K:aM)(f:AF):TI:=λσ H R=>∃ P Y ds,Hid P H/\Amf K (hid H P) Y σ/\f Y=aa ds/\∀ J H',Ext H H'->m9 K (λ_=>ab) J ds->R J H'
abbrev DI (X:Cx)(tg e:aS)(f:AF):Prop:=PI X tg e (tI X.K f)
abbrev vf (X:Cx)(tg e:aS)(f:AF):Prop:=PI X tg e (T5 X.K f)
noncomputable def itemsOf:aA->aac
 |.list ds=>aa ds
 |.tuple ds=>aa ds
 |.str x=>aa (x.cps.toList.map λc=>.str ⟨#[c]⟩)
 |_=>ab
def ay (f:EF):AF:=λY=>(f Y).bind itemsOf
section
variable {a:aS}
theorem PI.imp {t t':TI}(h:PI X tg e t)(w:∀ σ H R,t' σ H R->t σ H R):PI X tg e t':=λac s σ H R I q=>h ac s σ H R I (w _ _ _ q)
theorem PI.or {t t':TI}(h:PI X tg e t)(h':PI X tg e t'):PI X tg e (λσ H R=>t σ H R\/t' σ H R):=λac s σ H R I q=>q.elim (h ac s σ H R I) (h' ac s σ H R I)
theorem Vp{B:Hp}{a:aC}(h:SqL K B a xs)(r:Aap K B ds xs):m9 K B (EY K a) ds:=λi H2 x2=>by
 have h2:=x2.sqL h;refine⟨λd hd=>?_,λe=>⟨xs,h2,by rw[r.length];lia⟩⟩
 obtain⟨v,h3,h4⟩:=r.get hd;refine⟨⟨xs,v,h2,h3⟩,?_⟩;rintro x H3 ⟨rfl,hx⟩;have:=h3.symm.trans (hx xs h2);cases this;exact⟨Ext.refl,λP2 _ xb=>h4.ext xb⟩
theorem Mv{B:Hp}{a:aC}(h:B a=aa (.tup xs))(r:Aap K B ds xs):m9 K B (tY K a) ds:=λi H2 x2=>by
 have h2:SqT K H2 a xs:=SqT.of (x2 _ _ h);refine⟨λd hd=>?_,λe=>⟨xs,h2,by rw[r.length];lia⟩⟩
 obtain⟨v,h3,h4⟩:=r.get hd;refine⟨⟨xs,v,h2,h3⟩,?_⟩;rintro x H3 ⟨rfl,hx⟩;have:aa v=aa x:=h3.symm.trans (hx xs h2);cases this;exact⟨Ext.refl,λP2 _ xb=>h4.ext xb⟩
theorem HP {z:aD}{c:Nat}(h:eY (.str z)=af)(hc:z.cps.toList[i]?=aa c):eY (.str ⟨#[c]⟩)=af:=by
 have hz:∀ d∈z.cps,d<0x110000:=by
  have h':z.cps.all (· < 0x110000)=af:=by simpa only[eY,LW] using h
  intro d hd;exact of_decide_eq_true (Array.all_eq_true'.1 h' d hd)
 have:=hz c (by simpa using jE hc)
 simp[eY,LW,this]
theorem Uu{B:Hp}{z:aD}(hl:eY (.str z)=af):m9 K B (AK z) (z.cps.toList.map λc=>.str ⟨#[c]⟩):=λi H2 x2=>by
 refine⟨λd hd=>?_,λe=>?_⟩
 .rw[eU] at hd;cases hc:z.cps.toList[i]? with
  |none=>rw[hc] at hd;simp at hd
  |some c=>
   rw[hc] at hd;have hd:jK ⟨#[c]⟩=d:=by simpa using hd
   subst hd;have bu:i<z.cps.size:=by simpa using(eW.1 hc).1
   refine⟨bu,?_⟩;rintro x H3 ⟨rfl,c',g8,rfl⟩;have:z.cps.toList[i]?=aa c':=by simpa using g8
   rw[hc] at this;cases this;exact⟨Ext.refl,λP2 _ _=>Aba.2 ⟨rfl,HP hl hc⟩⟩
 .have:z.cps.size=i:=by simpa using e
  exact EH this
theorem UU{lo:Int}{B:Hp}:m9 K B (wM lo n) ((bD n).map λ(k:Nat)=>bC (lo+k)):=λi H2 x2=>by
 refine⟨λd hd=>?_,λe=>?_⟩
 .have bu:i<n:=by
   have:=(eW.1 hd).1;simpa using this
  have gn:bC (lo+i)=d:=by
   rw[eU,pU bu] at hd;simpa using hd
  subst gn;refine⟨bu,?_⟩;rintro x H3 ⟨rfl,rfl⟩;exact⟨Ext.refl,λP2 _ _=>Aak.2 rfl⟩
 .have:n=i:=by simpa using e
  exact EH this
theorem AZ {f:EF}(h:DE X e f):DI X tg e (ay f):=PI.imp (PI.or (My h) (PI.or (ZU h) (Io h))) λσ H R gh=>by
 obtain⟨P,Y,ds,hP,rs,ef,k⟩:=gh;obtain⟨d,e1,ef⟩:=ao ef;cases d with
 |list k6=>
  have:k6=ds:=by simpa [itemsOf] using ef
  subst this;refine .inl ⟨P,Y,_,hP,rs,e1,eI λv H1 x1 r1=>?_⟩
  obtain⟨a,xs,rfl,hr,rr⟩:=Abp.1 r1;exact⟨a,rfl,⟨xs,Aau.sqL hr⟩,k _ H1 x1 (Vp hr rr)⟩
 |tuple k6=>
  have:k6=ds:=by simpa [itemsOf] using ef
  subst this;refine .inr (.inl ⟨P,Y,_,hP,rs,e1,eI λv H1 x1 r1=>?_⟩)
  obtain⟨a,xs,rfl,hr,rr⟩:=Aan.1 r1;exact⟨a,rfl,⟨xs,SqT.of (Aau _ _ hr)⟩,k _ H1 x1 (Mv hr rr)⟩
 |str z=>
  have:z.cps.toList.map (λc=>jK ⟨#[c]⟩)=ds:=by simpa [itemsOf] using ef
  subst this;refine .inr (.inr ⟨P,Y,_,hP,rs,e1,eI λv H1 x1 r1=>?_⟩)
  exact⟨z,(Aba.1 r1).1,k _ H1 x1 (Uu (Aba.1 r1).2)⟩
 |_=>simp[itemsOf] at ef
noncomputable def uE (lo hi:Int):aac:=if -(2^62)<=lo/\lo<2^62 /\ -(2^62)<=hi/\hi<2^62 then aa ((bD (hi-lo).toNat).map λ(k:Nat)=>bC (lo+k)) else ab
def i7 (fa:AF):AF:=λY=>(fa Y).bind λds=>match ds with
 |[.int j]=>uE 0 j
 |_=>ab
def rn (fa:AF):AF:=λY=>(fa Y).bind λds=>match ds with
 |[.int i,.int j]=>uE i j
 |_=>ab
theorem IU {fa:AF}(hg:Gl X "range")(hm:X.mg "range" = ab)(ha:DA X [a] fa)(hs:bM [a] X.env=[(ag,cA a X.env)]:=by rfl):vf X tg (.Call (.Name "range" p) [a] [] pos) (i7 fa):=PI.imp (Yv hg hm ha hs) λσ H R gh=>by
 obtain⟨P,Y,ds,hP,rs,ef,k⟩:=gh;obtain⟨as,e1,ef⟩:=ao ef;refine⟨P,Y,as,hP,rs,e1,λvs H1 x1 r1=>?_⟩
 split at ef
 .rename_i j;obtain⟨hb,rfl⟩:=cX ef;obtain⟨v,t,rfl,h1,h2⟩:=Aag.1 r1;obtain rfl:=Aal.1 h2;obtain rfl:=Aak.1 h1;have e0:(j-0).toNat=j.toNat:=by simp
  refine⟨j,rfl,hb.2.2.1,hb.2.2.2,k _ H1 x1 ?_⟩;rw[e0];exact UU
 .cases ef
theorem UF {fa:AF}(hg:Gl X "range")(hm:X.mg "range" = ab)(ha:DA X [a,b] fa)(hs:bM [a,b] X.env=[(ag,cA a X.env),(ag,cA b X.env)]:=by rfl)(gw:bM [b] X.env=[(ag,cA b X.env)]:=by rfl):vf X tg (.Call (.Name "range" p) [a,b] [] pos) (rn fa):=PI.imp (Yu hg hm ha hs gw) λσ H R gh=>by
 obtain⟨P,Y,ds,hP,rs,ef,k⟩:=gh;obtain⟨as,e1,ef⟩:=ao ef;refine⟨P,Y,as,hP,rs,e1,λvs H1 x1 r1=>?_⟩
 split at ef
 .rename_i i j;obtain⟨hb,rfl⟩:=cX ef;obtain⟨v,t,rfl,h1,h2⟩:=Aag.1 r1;obtain⟨v2,t2,rfl,h3,h4⟩:=Aag.1 h2;obtain rfl:=Aal.1 h4;obtain rfl:=Aak.1 h1;obtain rfl:=Aak.1 h3;exact⟨i,j,rfl,hb,k _ H1 x1 UU⟩
 .cases ef
theorem xH {f:AF}(h:vf X tg e f):DI X tg e f:=PI.imp h λσ H R ⟨P,Y,ds,hP,rs,ef,k⟩=>⟨P,Y,ds,hP,rs,ef,λJ H' x it=>k J H' x λi H2 x2=>by
 obtain⟨h1,h2⟩:=it i H2 (λ_ _ e=>by cases e)
 exact⟨λd hd=>⟨(h1 d hd).1,λv H3 y=>⟨((h1 d hd).2 v H3 y).1,λP2 hp _=>((h1 d hd).2 v H3 y).2 P2 hp λ_ _ e=>by cases e⟩⟩,h2⟩⟩
def tI' (K:aM)(H0:Hp)(P0:aC->Prop)(m:Md)(f:AF):TI:=λσ H R=>∃ B0 Y fp ds,Sta K H0 P0 B0 Y σ H fp/\aV m f Y=aa ds/\∀ J B1 H',Sta K H0 P0 B1 Y σ H' fp->Ext B0 B1->m9 K B1 J ds->R J H'
theorem Sta.rebase{B1:Hp}{Y:aQ}(S:Sta K H0 P0 B0 Y σ H fp)(b:Ext B1 (L2.hid H (Hd P0 fp))):Sta K H0 P0 B1 Y σ H fp:=⟨S.len,S.nd,S.dj,S.own,S.ext,S.hd,b,S.slot⟩
theorem R9 {f:AF}(h:DI X tg e f):PI X tg e (tI' X.K H0 P0 .s f):=PI.imp h λσ H R ⟨B0,Y,fp,ds,S,ef,k⟩=>
 ⟨Hd P0 fp,vS Y,ds,S.hid,S.viewS,ef,λJ H' x it=>k J _ H' ((S.grow x).rebase Ext.refl) (S.grow x).base it⟩
theorem En {f:AF}(m:Md)(h:vf X tg e f):PI X tg e (tI' X.K H0 P0 m f):=PI.imp h λσ H R gh=>by
 obtain⟨B0,Y,fp,ds,S,ef,k⟩:=gh;have up:∀ {J:It} {B:Hp},m9 X.K (λ_=>ab) J ds->m9 X.K B J ds:=λ{J B} it i H2 x2=>by
  obtain⟨h1,h2⟩:=it i H2 (λ_ _ e=>by cases e)
  exact⟨λd hd=>⟨(h1 d hd).1,λv H3 y=>⟨((h1 d hd).2 v H3 y).1,λP2 hp _=>((h1 d hd).2 v H3 y).2 P2 hp λ_ _ e=>by cases e⟩⟩,h2⟩
 cases m with
 |s=>exact⟨Hd P0 fp,vS Y,ds,S.hid,S.viewS,ef,λJ H' x it=>k J _ H' (S.grow x) Ext.refl (up it)⟩
 |a=>exact⟨P0,vA Y,ds,S.hd.ext S.ext,S.viewA,ef,λJ H' x it=>k J _ H' (S.grow x) Ext.refl (up it)⟩
end
def tG (K:aM)(H0:Hp)(P0:aC->Prop)(T:aA->aQ->aar):TG:=λv σ H Q=>∃ B0 Y fp d Y',Sta K H0 P0 B0 Y σ H fp/\Abx K (hid H (Hd P0 fp)) d v/\T d Y=aa Y'/\∀ σ' cu,Sta K H0 P0 B0 Y' σ' H cu->Q σ' H
abbrev DG (X:Cx)(H0:Hp)(P0:aC->Prop)(tg:aS)(T:aA->aQ->aar):Prop:=PG X tg (tG X.K H0 P0 T)
theorem PG.imp{t t':TG}(h:PG X tg t)(w:∀ v σ H Q,t' v σ H Q->t v σ H Q):PG X tg t':=λac s σ H v u Q I r q=>h ac s σ H v u Q I r (w _ _ _ _ q)
theorem Sta.set0{Y:aQ}(S:Sta K H0 P0 B0 Y σ H fp)(r:Abx K (L2.hid H (Hd P0 fp)) d v)(hi:i<Y.length):∃ cu,Sta K H0 P0 B0 (Y.set i (aa (0,d))) (σ.set i (aa v)) H cu:=by
 have gk:∀ a,Hd P0 (λj=>if j=Y.length then [] else fp j) a->Hd P0 fp a:=λa h=>by
  rcases h with h|⟨j,h⟩
  .exact .inl h
  .by_cases hj:j=Y.length
   .simp only[hj,if_true] at h;simp at h
   .simp only[hj,if_false] at h;exact .inr ⟨j,h⟩
 have S2:Sta K H0 P0 B0 Y σ H (λj=>if j=Y.length then [] else fp j):=by
  refine⟨S.len,λj=>?_,λj k a h1 h2=>?_,λj a h1=>?_,S.ext,S.hd,S.base.trans (iP gk),λj n d e=>?_⟩
  .by_cases hj:j=Y.length
   .simp only[hj,if_true];exact .nil
   .simp only[hj,if_false];exact S.nd j
  .by_cases hj:j=Y.length
   .simp only[hj,if_true] at h1;simp at h1
   .by_cases hk:k=Y.length
    .simp only[hk,if_true] at h2;simp at h2
    .simp only[hj,if_false] at h1;simp only[hk,if_false] at h2;exact S.dj j k a h1 h2
  .by_cases hj:j=Y.length
   .simp only[hj,if_true] at h1;simp at h1
   .simp only[hj,if_false] at h1;exact S.own j a h1
  .have bu:=(eW.1 e).1;have hj:j≠Y.length:=()
   obtain⟨v',h1,h2⟩:=S.slot j n d e;refine⟨v',h1,?_⟩;simp only[hj,if_false];exact h2.keep (iP gk) λa m=>rfl
 refine Tmp.set ⟨_,S2,?_⟩ hi;simp only[if_true];exact⟨rfl,r.ext (iP gk)⟩
noncomputable def cg (i:Nat):aA->aQ->aar:=λd Y=>if i<Y.length then aa (Y.set i (aa (0,d))) else ab
theorem ON(hN:X.N.Nodup)(hi:X.N[i]?=aa x)(hx:jN X.env.scope x)(hf:Fn X x:=by exact jO):DG X H0 P0 (.Name x pos) (cg i):=
 PG.imp (oI hN hi hx hf) λv σ H Q gh=>by
  obtain⟨B0,Y,fp,d,Y',S,r,ef,k⟩:=gh;obtain⟨hl,rfl⟩:=cX ef;obtain⟨cu,S'⟩:=S.set0 r hl;exact k _ cu S'
def mN (i j:Nat):aA->aQ->aar:=λd Y=>match d with
 |.tuple [a,b]=>(cg i a Y).bind λY'=>cg j b Y'
 |_=>ab
theorem Kb{p1:bH}{k}(hc:X.calm=af)(hN:X.N.Nodup)(hi:X.N[i]?=aa x)(hj:X.N[j]?=aa y)(hx:jN X.env.scope x)(hy:jN X.env.scope y)
  (hf:Fn X x:=by exact jO) (uc:Fn X y:=by exact jO)
  (hn:(gH [.Name x p1,.Name y p2] X.env).length=2:=by rfl) (j3:(gH [.Name x p1,.Name y p2] X.env).findIdx? (·.1)=ab:=by rfl)
  (h1:(gH [.Name x p1,.Name y p2] X.env).map (·.2)=nB (.Name x p1) X.env::(gH [.Name y p2] X.env).map (·.2):=by rfl) (h2:(gH [.Name y p2] X.env).map (·.2)=nB (.Name y p2) X.env::(gH [] X.env).map (·.2):=by rfl):DG X H0 P0 (.Tuple [.Name x p1,.Name y p2] k pos) (mN i j):=
 PG.imp (KS hc (tD (oI hN hi hx hf) (tD (oI hN hj hy uc) GT h2) h1) hn j3) λv σ H Q gh=>by
  obtain⟨B0,Y,fp,d,Y',S,r,ef,k⟩:=gh;unfold mN at ef;split at ef
  .rename_i a b;obtain⟨Y1,e1,e2⟩:=ao ef;obtain⟨l1,rfl⟩:=cX e1;obtain⟨l2,rfl⟩:=cX e2;obtain⟨p,xs,rfl,hp,rr⟩:=Aan.1 r;obtain⟨v1,t1,rfl,r1,rr⟩:=Aag.1 rr;obtain⟨v2,t2,rfl,r2,rr⟩:=Aag.1 rr;obtain rfl:=Aal.1 rr;refine⟨p,_,rfl,SqT.of (Aau _ _ hp),rfl,v1,_,rfl,v2,_,rfl,rfl,?_⟩;have Sb:=S.rebase Ext.refl;obtain⟨nr,S1⟩:=Sb.set0 r1 l1;obtain⟨f9,S2⟩:=S1.set0 (r2.ext S1.base) l2;exact k _ f9 (S2.rebase (S.base.trans S2.base))
  .cases ef
noncomputable def jX (F:SF)(T:aA->aQ->aar):aae->SF
 |[],Y=>aa (.nx Y)
 |d::r,Y=>(T d Y).bind λY1=>(F Y1).bind λo=>match o with
  |.nx Y'=>jX F T r Y'
  |.ct Y'=>jX F T r Y'
  |.bk Y'=>aa (.nx Y')
  |.rt d=>aa (.rt d)
def dQ (m:Md)(fi:AF)(T:aA->aQ->aar)(F:SF):SF:=λY=>(aV m fi Y).bind λds=>jX F T ds Y
section
variable {body:List fU}{F:SF}{T:aA->aQ->aar}{fi:AF}{m:Md}
theorem QV (hp:zU (aW X.prog X.w) X.A X.env X.xe)(hc:X.calm=af)(hi:PI X tg bq (tI' X.K H0 P0 m fi))(hg:DG X H0 P0 tg T)(hb:jm X H0 P0 n0 body F)
  (hs:∀ x,rM bq X.env x=pure x:=by intro _;rfl):DS X H0 P0 n0 (.For tg bq body [] pos) (dQ m fi T F):=PS.imp (ZA hp hc hi hg hb hs) λD σ H gh=>by
 rw[4];obtain⟨ds,e1,ef⟩:=ao ef;refine⟨B0,Y,fp,ds,S,e1,λJ B1 H' S1 xb it=>?_⟩
 refine⟨λi m σ H=>m=ds.length-i/\i<=ds.length/\∃ Y fp,Sta X.K H0 P0 B1 Y σ H fp/\jX F T (ds.drop i) Y=aa o,⟨ds.length,by simp,fY _,Y,fp,S1,by simpa using ef⟩,?_⟩
 rintro i m σ2 H2 ⟨rfl,hi,Y2,f9,S2,e2⟩;have x2:=S2.base.trans Aau;obtain⟨go,st⟩:=it i H2 x2;by_cases bu:i<ds.length
 .have hd:=jU bu;rw[d6 bu] at e2;obtain⟨Y3,e3,e2⟩:=ao e2;obtain⟨o3,e4,e2⟩:=ao e2;obtain⟨g1,g2⟩:=go _ hd;refine .inr ⟨g1,λσ' H'=>i+1<=ds.length/\∃ Y fp,Sta X.K H0 P0 B1 Y σ' H' fp/\jX F T (ds.drop (i+1)) Y=aa o,λσ' H' ⟨h1,h2⟩=>⟨ds.length-(i+1),(),rfl,h1,h2⟩,λx H3 y=>?_⟩
  obtain⟨x3,r3⟩:=g2 x H3 y;refine⟨B1,Y2,f9,_,Y3,S2.grow x3,r3 _ S2.hid S2.base,e3,λσ4 J4 S4=>⟨B1,Y3,J4,o3,S4,e4,?_⟩⟩
  cases o3 with
  |nx Y5=>exact λσ5 H5 om S5=>⟨bu,Y5,om,S5,e2⟩
  |ct Y5=>exact λσ5 H5 om S5=>⟨bu,Y5,om,S5,e2⟩
  |bk Y5=>
   cases e2;exact λσ5 H5 om S5=>k σ5 H5 om (S5.rebase (xb.trans S5.base))
  |rt d=>
   cases e2;exact k
 .have e:i=ds.length:=()
  subst e;rw[List.drop_length] at e2;cases e2;exact .inl ⟨st rfl,k σ2 H2 f9 (S2.rebase (xb.trans S2.base))⟩
theorem sT (hp:zU (aW X.prog X.w) X.A X.env X.xe)(hc:X.calm=af)(hi:DI X tg bq fi)(hg:DG X H0 P0 tg T)(hb:jm X H0 P0 n0 body F)
  (hs:∀ x,rM bq X.env x=pure x:=by intro _;rfl):DS X H0 P0 n0 (.For tg bq body [] pos) (dQ .s fi T F):=QV hp hc (R9 hi) hg hb hs
theorem PN (m:Md)(hp:zU (aW X.prog X.w) X.A X.env X.xe)(hc:X.calm=af)(hi:vf X tg bq fi)(hg:DG X H0 P0 tg T)(hb:jm X H0 P0 n0 body F)
  (hs:∀ x,rM bq X.env x=pure x:=by intro _;rfl):DS X H0 P0 n0 (.For tg bq body [] pos) (dQ m fi T F):=QV hp hc (En m hi) hg hb hs
end
def lq (m:Md)(t:BF)(F:SF):Nat->SF
 |0,_=>ab
 |n+1,Y=>(bV m t Y).bind λb=>if b=af then(F Y).bind λo=>match o with
   |.nx Y'=>lq m t F n Y'
   |.ct Y'=>lq m t F n Y'
   |.bk Y'=>aa (.nx Y')
   |.rt d=>aa (.rt d)
  else aa (.nx Y)
section
variable {body:List fU}{F:SF}{t:BF}
theorem SJ (m:Md)(fuel:Nat)(hp:zU (aW X.prog X.w) X.A X.env X.xe)(hc:DT X c t)(hb:jm X H0 P0 n0 body F):DS X H0 P0 n0 (.While c body [] pos) (lq m t F fuel):=
 PS.imp (Xw hp (F3 m hc) hb) λD σ H gh=>by
  rw[4];refine⟨λn σ H=>∃ Y fp,Sta X.K H0 P0 B0 Y σ H fp/\lq m t F n Y=aa o,⟨fuel,Y,fp,S,ef⟩,?_⟩
  rintro n σ1 H1 ⟨Y1,nr,S1,e1⟩;cases n with
  |zero=>cases e1
  |succ n=>
   obtain⟨b,e2,e1⟩:=ao e1;refine⟨B0,Y1,nr,b,S1,e2,λH2 S2=>?_⟩
   cases b with
   |false=>
    have:aa (Out.nx Y1)=aa o:=by simpa using e1
    cases this;exact rH (k σ1 H2 nr S2)
   |true=>
    rw[if_pos rfl] at e1;obtain⟨o3,e4,e1⟩:=ao e1;refine rG ⟨λσ' H'=>∃ Y fp,Sta X.K H0 P0 B0 Y σ' H' fp/\lq m t F n Y=aa o,λσ' H' h=>⟨n,Nat.lt_succ_self n,h⟩,B0,Y1,nr,o3,S2,e4,?_⟩
    cases o3 with
    |nx Y5=>exact λσ5 H5 om S5=>⟨Y5,om,S5,e1⟩
    |ct Y5=>exact λσ5 H5 om S5=>⟨Y5,om,S5,e1⟩
    |bk Y5=>cases e1;exact k
    |rt d=>cases e1;exact k
end
noncomputable def kj (T:aA->bd->Option bd)(t:BF)(f:EF)(Y:bd):aae->aac
 |[]=>aa []
 |d::r=>(T d Y).bind λY1=>(t Y1).bind λc=>if c=af then(f Y1).bind λy=>(kj T t f Y r).bind λys=>aa (y::ys) else kj T t f Y r
noncomputable def jY (cap:lf)(Y:bd):bd:=cap.map λo=>o.bind λj=>(Y[j]?).join
def du (cap:lf)(fi:AF)(T:aA->bd->Option bd)(t:BF)(f:EF):EF:=λY=>(fi Y).bind λds=>(kj T t f (jY cap Y) ds).bind λys=>if ds.length<=sizeLine then aa (.list ys) else ab
def wt (K:aM)(T:aA->bd->Option bd):TG:=λv σ H Q=>∃ P Y d Y',Hid P H/\Amf K (hid H P) Y σ/\Abx K (hid H P) d v/\T d Y=aa Y'/\∀ σ',Amf K (hid H P) Y' σ'->Q σ' H
def vg (T:aA->bd->Option bd):Prop:=∀ d Y Y',T d Y=aa Y'->∀ (i:Nat) d',Y[i]?=aa (aa d')->Y'[i]?=aa (aa d')
def cE:BF:=λ_=>aa af
noncomputable def gB (j:Nat):aA->bd->Option bd:=λd Y=>match Y[j]? with
 |some ab=>aa (Y.set j (aa d))
 |_=>ab
theorem BN{Y':bd}(h:gB j d Y=aa Y'):Y[j]?=aa ab/\Y.set j (aa d)=Y':=by
 unfold gB at h;split at h
 .rename_i e;exact⟨e,fM h⟩
 .cases h
def rm (i j:Nat):aA->bd->Option bd:=λd Y=>match d with
 |.tuple [a,b]=>(gB i a Y).bind λY'=>gB j b Y'
 |_=>ab
theorem qI:vg (gB j):=λd Y Y' e i d' h=>by
 obtain⟨hj,rfl⟩:=BN e;by_cases q:j=i
 .subst q;rw[hj] at h;cases h
 .rw[mI q];exact h
theorem ZR:vg (rm i j):=λd Y Y' e k d' h=>by
 unfold rm at e;split at e
 .obtain⟨Y1,e1,e2⟩:=ao e;exact qI _ _ _ e2 k d' (qI _ _ _ e1 k d' h)
 .cases e
section
variable {fi:AF}{T:aA->bd->Option bd}{t:BF}{f:EF}
theorem BQ:rU X [] (nh X.K cE):=λac s σ H Q I gh=>by
 obtain⟨P,Y,b,hP,rs,ef,k⟩:=gh;cases ef;exact Nv ac s σ H Q I (k H Ext.refl)
theorem xY (h:DT X c t):rU X [c] (nh X.K t):=Lb h
theorem Amf.set{B:Hp}(h:Amf K B Y σ)(r:Abx K B d v)(hl:j<σ.length):Amf K B (Y.set j (aa d)) (σ.set j (aa v)):=λi d' e=>by
 by_cases q:j=i
 .subst q;have hj:j<Y.length:=by
   have:=(eW.1 e).1;simpa using this
  rw[oE hj] at e;cases e;exact⟨v,oE hl,r⟩
 .rw[mI q] at e;obtain⟨w,h1,h2⟩:=h i d' e;exact⟨w,by rw[mI q];exact h1,h2⟩
def zu (X:Cx)(tg:aS)(T:aA->bd->Option bd):Prop:=
 ∀ (ac:dl) (s:aK) (σ:St) (H:Hp) (v:V) (u:aF) (Q:St->Hp->Prop),Inv X ac σ H s->RelV v u->wt X.K T v σ H Q ->
  aP (aW X.prog X.w) X.A (nB tg X.env u) (λ_ s'=>∃ σ' H',Inv X ac σ' H' s'/\Q σ' H') X.xe s
theorem vD(hN:X.N.Nodup)(hi:X.N[j]?=aa x)(hx:jN X.env.scope x)(hf:Fn X x:=by exact jO):zu X (.Name x pos) (gB j):=λac s σ H v u Q I r gh=>by
 obtain⟨P,Y,d,Y',hP,rs,rd,ef,k⟩:=gh;obtain⟨hj,rfl⟩:=BN ef;have hl:j<σ.length:=by rw[I.len];exact(eW.1 hi).1
 exact oI hN hi hx hf ac s σ H v u Q I r (k _ (rs.set rd hl))
theorem QG{p1:bH}{kk}(hc:X.calm=af)(hN:X.N.Nodup)(hi:X.N[i]?=aa x)(hj:X.N[j]?=aa y)(hx:jN X.env.scope x)(hy:jN X.env.scope y)
  (hf:Fn X x:=by exact jO) (uc:Fn X y:=by exact jO)
  (hn:(gH [.Name x p1,.Name y p2] X.env).length=2:=by rfl) (j3:(gH [.Name x p1,.Name y p2] X.env).findIdx? (·.1)=ab:=by rfl)
  (h1:(gH [.Name x p1,.Name y p2] X.env).map (·.2)=nB (.Name x p1) X.env::(gH [.Name y p2] X.env).map (·.2):=by rfl) (h2:(gH [.Name y p2] X.env).map (·.2)=nB (.Name y p2) X.env::(gH [] X.env).map (·.2):=by rfl):zu X (.Tuple [.Name x p1,.Name y p2] kk pos) (rm i j):=λac s σ H v u Q I r gh=>by
 obtain⟨P,Y,d,Y',hP,rs,rd,ef,k⟩:=gh;unfold rm at ef;split at ef
 .rename_i a b;obtain⟨Y1,e1,e2⟩:=ao ef;obtain⟨l1,rfl⟩:=BN e1;obtain⟨l2,rfl⟩:=BN e2;obtain⟨p,xs,rfl,hp,rr⟩:=Aan.1 rd;obtain⟨v1,t1,rfl,r1,rr⟩:=Aag.1 rr;obtain⟨v2,t2,rfl,r2,rr⟩:=Aag.1 rr;obtain rfl:=Aal.1 rr;have hl:i<σ.length:=by rw[I.len];exact(eW.1 hi).1
  have ql:j<σ.length:=by rw[I.len];exact(eW.1 hj).1
  exact KS hc (tD (oI hN hi hx hf) (tD (oI hN hj hy uc) GT h2) h1) hn j3 ac s σ H _ u Q I r ⟨p,_,rfl,SqT.of (Aau _ _ hp),rfl,v1,_,rfl,v2,_,rfl,rfl,k _ ((rs.set r1 hl).set r2 (by simpa using ql))⟩
 .cases ef
theorem Vw{B:Hp}(h:Amf K B Y σ):Amf K B (jY cap Y) (tZ cap σ):=λi d e=>by
 unfold jY at e;unfold tZ;rw[eU] at e ⊢;cases hc:cap[i]? with
 |none=>rw[hc] at e;simp at e
 |some o=>
  rw[hc] at e;cases o with
  |none=>simp at e
  |some j=>
   simp only[vY,bR,Option.some.injEq] at e ⊢;obtain⟨v,h1,h2⟩:=h j d (UT e);exact⟨v,by rw[h1];rfl,h2⟩
theorem NQ(hT:vg T):∀ σ H Q,tF K 1 (du cap fi T t f) σ H Q->z7 cap (tI K fi) (wt K T) (nh K t) (tF K 0 f) σ H Q:=λσ H Q gh=>by
 rw[2];obtain⟨ds,e1,ef⟩:=ao ef;obtain⟨all,e2,ef⟩:=ao ef;obtain⟨hz,rfl⟩:=cX ef;refine⟨P,Y,ds,hP,rs,e1,λJ H1 x1 it A hA=>?_⟩
 have hPA:=(hP.ext x1).new hA;have qm:∀ {H':Hp} {ys:aag},hid (upd H' A (.lst ys)) (de P [A])=hid H' (de P [A]):=λ{H' ys}=>by
  funext b;unfold hid;by_cases hb:de P [A] b
  .rw[if_pos hb,if_pos hb]
  .rw[if_neg hb,if_neg hb];exact dY (λz=>hb (.inr (by simp[z])))
 refine⟨λi m ys σ' H'=>m=ds.length-i/\i<=ds.length/\H' A=aa (.lst ys)/\Ext H1 H'/\Ext (hid H1 P) (hid H' (de P [A]))/\Amf K (hid H' (de P [A])) (jY cap Y) σ'/\ys.length<=i /\
  ∃ done rest,Aap K (hid H' (de P [A])) done ys/\kj T t f (jY cap Y) (ds.drop i)=aa rest/\all=done++rest,⟨ds.length,?_⟩,?_⟩
 .have xa:Ext (hid H1 P) (hid (upd H1 A (.lst [])) (de P [A])):=λb o e=>by
   obtain⟨nb,e⟩:=Abz.1 e;have hb:=kT e hA;exact gD (λz=>z.elim nb λm=>hb (by simpa using m)) (by rw[dY hb];exact e)
  exact⟨by simp,fY _,fT,Ext.new hA,xa,(Vw (rs.ext (dD x1))).ext xa,fY _,[],all,Aal.2 rfl,by simpa using e2,rfl⟩
 .rintro i m ys σ' H' ⟨rfl,hi,hD,x2,xb,J5,hl,done,rest,rd,e3,rfl⟩;refine⟨hD,?_⟩;obtain⟨go,st⟩:=it i H' (Aau.trans x2);have oq:Hid (de P [A]) H':=λa h=>by
   rcases h with h|h
   .exact(hP.ext (x1.trans x2)) a h
   .have:a=A:=by simpa using h
    subst this;exact .inl ⟨_,hD⟩
  by_cases bu:i<ds.length
  .have hd:=jU bu;rw[d6 bu] at e3;obtain⟨Y1,e4,e3⟩:=ao e3;obtain⟨c,e5,e3⟩:=ao e3;obtain⟨g1,g2⟩:=go _ hd;refine .inr ⟨g1,(),λys σ' H'=>i+1<=ds.length/\H' A=aa (.lst ys)/\Ext H1 H'/\Ext (hid H1 P) (hid H' (de P [A]))/\Amf K (hid H' (de P [A])) (jY cap Y) σ'/\ys.length<=i+1 /\
    ∃ d2 r2,Aap K (hid H' (de P [A])) d2 ys/\kj T t f (jY cap Y) (ds.drop (i+1))=aa r2/\done++rest=d2++r2,λzs σ2 H2 h=>⟨ds.length-(i+1),(),rfl,h⟩,λx H2 y=>?_⟩
   obtain⟨x3,r3⟩:=g2 x H2 y;refine⟨de P [A],jY cap Y,_,Y1,oq.ext x3,J5.ext (dD x3),r3 _ oq xb,e4,λσ3 xq=>?_⟩
   refine⟨de P [A],Y1,c,oq.ext x3,xq,e5,λH4 x4=>?_⟩
   have A7:Amf K (hid H2 (de P [A])) (jY cap Y) σ3:=λj d' e=>xq j d' (hT _ _ _ e4 j d' e)
   cases c with
   |false=>
    rw[if_neg oW] at e3;refine rH ⟨bu,x4 _ _ (x3 _ _ hD),x2.trans (x3.trans x4),xb.trans (dD (x3.trans x4)),A7.ext (dD x4),(),done,rest,rd.ext (dD (x3.trans x4)),e3,rfl⟩
   |true=>
    rw[if_pos rfl] at e3;obtain⟨yd,e6,e3⟩:=ao e3;obtain⟨r2,e7,e3⟩:=ao e3;cases e3;refine rG ⟨de P [A],Y1,yd,oq.ext (x3.trans x4),xq.ext (dD x4),e6,eI λv H5 x5 r5=>⟨x5 _ _ (x4 _ _ (x3 _ _ hD)),bu,fT,?_,?_,?_,by simp;lia,done++[yd],r2,?_,e7,by simp⟩⟩
    .intro b o e;rw[dY (kT e hA)];exact x5 _ _ (x4 _ _ (x3 _ _ (x2 _ _ e)))
    .rw[qm];exact xb.trans (dD (x3.trans (x4.trans x5)))
    .rw[qm];exact A7.ext (dD (x4.trans x5))
    .rw[qm];exact(rd.ext (dD (x3.trans (x4.trans x5)))).snoc r5
  .have e:i=ds.length:=()
   subst e;rw[List.drop_length] at e3;cases e3;rw[wG] at k;refine .inl ⟨st rfl,?_⟩;refine k (.ref A) H' [A] (x1.trans x2) (gZ.2 ⟨by simp,.nil⟩) (λa m=>?_) ⟨A,ys,ys.map λ_=>[],rfl,hD,?_,?_⟩
   .have:a=A:=by simpa using m
    subst this;exact⟨x1.none hA,_,hD⟩
   .have:∀ l:aag,(l.map λ_=>([]:aaj)).flatten=[]:=λl=>by
     induction l with
     |nil=>rfl
     |cons a l ih=>rw[dF,rP,ih];rfl
    rw[this]
   .have go:∀ (ds:aae) (xs:aag),Aap K (hid H' (de P [A])) ds xs->All3 (Afm K (hid H' (de P [A])) H' 0) ds xs (xs.map λ_=>[]):=by
     intro ds;induction ds with
     |nil=>intro xs r;rw[Aal.1 r];exact .nil
     |cons d ds ih=>
      intro xs r;obtain⟨y,t,rfl,h1,h2⟩:=Aag.1 r;exact .cons ⟨rfl,h1⟩ (ih t h2)
    exact go _ _ rd
def ZI (X:Cx)(N:aan)(sc:gY)(tg io:aS)(g9:List aS)(T:aA->bd->Option bd)(t:BF)(f:EF):Prop:=
 ∀ (cl:lm) (C:aC) (s₀:aK) (H₀:Hp) (ex:aaj),zu (hV X N sc cl C s₀ H₀ ex) tg T/\rU (hV X N sc cl C s₀ H₀ ex) g9 (nh X.K t)/\DE (hV X N sc cl C s₀ H₀ ex) io f
theorem FO (hc:X.calm=af)(S:CompScope X N cap sc)(hT:vg T)(hi:DI X tg bq fi)(hb:ZI X N sc tg io g9 T t f)(hs:∀ x,rM bq X.env x=pure x:=by intro _;rfl) :
  DF 1 X (.ListComp io [⟨tg,bq,g9,0⟩] sc pos) (du cap fi T t f):=PE.imp (Ey hc S hi (g:=wt X.K T) (tc:=nh X.K t) (te:=tF X.K 0 f) hb hs) (NQ hT)
theorem yC(m:Md)(hc:X.calm=af)(hN:X.N.Nodup)(r6:X.N[i]?=aa x)(hx:jN X.env.scope x)(S:CompScope X N cap sc)(hT:vg T)(hi:DI X tg bq fi)(hb:ZI X N sc tg io g9 T t f)
  (jt:kI (.ListComp io [⟨tg,bq,g9,0⟩] sc pos) (aa (.Name x px)) lx.line X.env=pure af:=by rfl)
  (hs:∀ x,rM bq X.env x=pure x:=by intro _;rfl) (hf:Fn X x:=by exact jO) :
  DS X H0 P0 n0 (.Assign [.Name x px] (.ListComp io [⟨tg,bq,g9,0⟩] sc pos) lx) (aU i 1 m (du cap fi T t f)):=PS.imp (Xs hc hN r6 hx S hi (g:=wt X.K T) (tc:=nh X.K t) (te:=tF X.K 0 f) hb jt hs hf) λD σ H gh=>by
 rw[4];obtain⟨d,e1,ef⟩:=ao ef;obtain⟨hl,rfl⟩:=cX ef;refine NQ hT σ H _ (NH m σ H _ ⟨B0,Y,fp,d,S,e1,λv H' t=>?_⟩)
 obtain⟨cu,S'⟩:=t.set hl;exact k _ _ cu S'
end
noncomputable def outD:Option Out->aaf
 |some (.rt d)=>aa d
 |some (.nx _)=>aa .none
 |_=>ab
def az (np n:Nat)(body:SF):aae->aaf:=λds=>if ds.length=np then outD (body (ds.map (λd=>aa (0,d))++oD (n-np) ab)) else ab
def qb (K:aM)(n0:Nat)(F:aae->aaf):Sp:=λvs H Q _=>∃ P ds d,Hid P H/\Aap K (hid H P) ds vs/\F ds=aa d/\Res K P n0 d H Q
section
variable {P:bW}{base:aY}
theorem NV{k np:Nat}{body:SF}(F:Fun K x qual st f fd)(S:FnScope N ps (dI st))(ud:np=ps.length)(hN:ps.length<=N.length)
  (hb:∀ (cc:aF) (A:cP) (outer:List fE) (s:aK) (H:Hp) (E:XK) (P0:aC->Prop),Room k (A.deeper (envOfC qual (dI st) s.heap.objs.size f cc))->jm (mL jw P w K mg base N qual (dI st) f cc A outer s H E).nox H P0 n0 (mW st) body) :
  FnOk P w K mg base jw (k+1) f fd ps (qb K n0 (az np N.length body)):=by
 refine F.ok S (λvs H Q E h=>?_) (λcc A outer s H vs Q E hr h=>?_)
 .obtain⟨P,ds,d,_,r,ef,_⟩:=h;unfold az at ef;by_cases hl:ds.length=np
  .rw[r.length,hl,ud]
  .rw[if_neg hl] at ef;cases ef
 .obtain⟨P0,ds,d,hP,r,ef,k⟩:=h;refine⟨_,hb cc A outer s H E P0 hr,?_⟩;unfold az at ef;by_cases hl:ds.length=np
  case neg=>rw[if_neg hl] at ef;cases ef
  rw[if_pos hl] at ef;rw[<-hl] at ef;have au:=r.length;have S0:Sta K H P0 (hid H P0) (ds.map (λd=>aa (0,d))++oD (N.length-ds.length) ab) (start N vs) H (λ_=>[]):=by
   have eH:Hd P0 (λ_=>[])=P0:=by
    funext a;simp[Hd]
   refine⟨by simp[start,au],λ_=>.nil,λi j a h=>by simp at h,λi a h=>by simp at h,Ext.refl,hP,by rw[eH];exact Ext.refl,λi n' d' e=>?_⟩
   rw[eH];by_cases hi:i<ds.length
   .rw[zY (by simpa using hi),eU] at e
    cases q:ds[i]? with
    |none=>rw[q] at e;simp at e
    |some d2=>
     rw[q] at e;have e':0=n'/\d2=d':=by simpa using e
     obtain⟨rfl,rfl⟩:=e';obtain⟨v,h1,h2⟩:=r.get q;refine⟨v,?_,rfl,h2⟩;unfold start;rw[zY (by rw[fA,au];exact hi),eU,h1]
     rfl
   .rw[Cp (by simpa using hi)] at e
    have:=jE e;simp at this
  cases eb:body (ds.map (λd=>aa (0,d))++oD (N.length-ds.length) ab) with
  |none=>rw[eb] at ef;cases ef
  |some o=>
   rw[eb] at ef;refine⟨_,_,_,o,S0,eb,?_⟩;cases o with
   |rt d'=>
    cases ef;exact λv H' ⟨Fr,h1,h2,h3,h4⟩=>k v H' Fr h1 h2 h3 h4
   |nx Y'=>
    cases ef;intro σ' H' cu S';refine k .non H' [] S'.ext .nil (λa m=>by simp at m) ?_
    cases n0 with
    |zero=>exact⟨rfl,Abw.2 rfl⟩
    |succ n=>
     unfold Afg;split
     .exact .inl ⟨rfl,rfl,rfl⟩
     .split
      .exact .inl ⟨rfl,rfl,rfl⟩
      .exact⟨rfl,Abw.2 rfl⟩
   |bk _=>cases ef
   |ct _=>cases ef
variable {k np:Nat}{F:aae->aaf}{fa:AF}
theorem xD (D:Def X.prog X.w X.K X.mg X.base x k ps (qb X.K n0 F))(hr:Room k X.A)(hg:Gl X x)(ha:DA X (e::es) fa)(jq:(x==("__debug__" : aD))=ag:=by decide)(he:bM (e::es) X.env=(ag,cA e X.env)::bM es X.env:=by rfl)
  (im:(iT pos (bM es X.env)).any (·.1)=ag:=by rfl):DF n0 X (.Call (.Name x p) (e::es) [] pos) (aL F fa):=
 PE.imp (KO D hr hg ha jq he im) λσ H Q gh=>by
  rw[2];obtain⟨ds,e1,ef⟩:=ao ef;refine⟨P,Y,ds,hP,rs,e1,λvs H1 x1 r1=>?_⟩
  show qb X.K n0 F (vs++[]) H1 Q E0;rw[wG];exact⟨P,ds,d,hP.ext x1,r1,ef,k.mono x1⟩
end
noncomputable def ff (g:Int->Int->aA):aA->aA->aaf
 |.int i,.int j=>aa (g i j)
 |_,_=>ab
def dq (C:Int->Int->Prop)[∀ i j,Decidable (C i j)](g:Int->Int->aA):aA->aA->aaf
 |.int i,.int j=>if C i j then aa (g i j) else ab
 |_,_=>ab
theorem GI {g:Int->Int->V}{gd:Int->Int->aA}(h:∀ i j H,Abx K H (gd i j) (g i j)):je K 0 (lh g) (ff gd):=λP H x y a b d Q hP ra rb e k=>by
 unfold ff at e;split at e
 .rename_i i j;cases e;exact⟨i,j,Aak.1 ra,Aak.1 rb,k.zero Ext.refl (h i j _)⟩
 .cases e
theorem wX {C C':Int->Int->Prop}[∀ i j,Decidable (C' i j)]{g:Int->Int->V}{gd:Int->Int->aA}(hC:∀ i j,C' i j->C i j)(h:∀ i j H,Abx K H (gd i j) (g i j)):je K 0 (rI C g) (dq C' gd):=λP H x y a b d Q hP ra rb e k=>by
 unfold dq at e;split at e
 .rename_i i j;obtain⟨hc,rfl⟩:=cX e;exact⟨i,j,Aak.1 ra,Aak.1 rb,hC i j hc,k.zero Ext.refl (h i j _)⟩
 .cases e
section
variable {a:aS}{fa fb fc:EF}
def dP:aA->aA->aaf:=ff λi j=>.int (i-j)
theorem Gv (ha:DE X a fa)(hb:DE X b fb):DE X (.BinOp a .Sub b pos) (ah dP fa fb):=pA Jl (GI λ_ _ _=>Aak.2 rfl) ha hb
noncomputable def cS:aA->aA->aaf:=dq (λi j=>(i.natAbs<2^64\/j.natAbs<2^64)\/(i.natAbs<2^1000/\j.natAbs<2^1000)) λi j=>.int (i*j)
theorem SQ:OpR X (kW .Mult) (rI (λi j=>(i.natAbs<2^64\/j.natAbs<2^64)\/(i.natAbs<2^1000/\j.natAbs<2^1000)) λi j=>.int (i*j)):=by
 rw[1];obtain⟨i,j,ex,ey,hc,q⟩:=h;rcases hc with hc|hc
 .refine Jo ac s σ H x y v u Q I rx ry ⟨i,j,ex,ey,?_,q⟩;rcases hc with hc|hc
  .exact .inl ⟨(),()⟩
  .exact .inr ⟨(),()⟩
 .exact Np ac s σ H x y v u Q I rx ry ⟨i,j,ex,ey,hc,q⟩
theorem ZO (ha:DE X a fa)(hb:DE X b fb):DE X (.BinOp a .Mult b pos) (ah cS fa fb):=pA SQ (wX (λ_ _ h=>h) λ_ _ _=>Aak.2 rfl) ha hb
noncomputable def bZ:aA->aA->aaf:=dq (λ_ j=>0<j/\j<1073741824) λi j=>.int (i/j)
theorem GS (ha:DE X a fa)(hb:DE X b fb):DE X (.BinOp a .FloorDiv b pos) (ah bZ fa fb):=pA Nj (wX (λ_ _ h=>h) λ_ _ _=>Aak.2 rfl) ha hb
noncomputable def bK:aA->aA->aaf:=dq (λ_ j=>0<j) λi j=>.int (i%j)
theorem ZF (ha:DE X a fa)(hb:DE X b fb):DE X (.BinOp a .Mod b pos) (ah bK fa fb):=pA Gw (wX (λ_ _ h=>h) λ_ _ _=>Aak.2 rfl) ha hb
noncomputable def fC:aA->aA->aaf:=dq (λi j=>0<=j/\j<=1000000/\i.natAbs<2^64) λi j=>.int (i^j.toNat)
theorem Ju (ha:DE X a fa)(hb:DE X b fb):DE X (.BinOp a .Pow b pos) (ah fC fa fb):=pA Ha (wX (λ_ _ h=>h) λ_ _ _=>Aak.2 rfl) ha hb
theorem Qy(hx:eY (.str x)=af)(hy:eY (.str y)=af):eY (.str (x++y))=af:=by
 have e:(x++y).cps=x.cps++y.cps:=rfl;simp only[eY,LW] at hx hy ⊢;rw[e,Array.all_append,hx,hy]
 rfl
noncomputable def bQ:aA->aA->aaf
 |.int i,.int j=>aa (.int (i+j))
 |.str x,.str y=>if x.length+y.length<=sizeLine then aa (.str (x++y)) else ab
 |.tuple (x::xs),.tuple ys=>if (x::xs).length+ys.length<=sizeLine then aa (.tuple ((x::xs)++ys)) else ab
 |_,_=>ab
theorem Oi:je K 0 (λx y H Q=>lh (λi j=>.int (i+j)) x y H Q\/(∃ i j,x=.str i/\y=.str j/\i.length+j.length<=sizeLine/\Q (.str (i++j)) H)\/FM K x y H Q) bQ:=λP H x y a b d Q hP ra rb e k=>by
 unfold bQ at e;split at e
 .rename_i i j;cases e;exact .inl ⟨i,j,Aak.1 ra,Aak.1 rb,k.zero Ext.refl (Aak.2 rfl)⟩
 .rename_i i j;obtain⟨hc,rfl⟩:=cX e;exact .inr (.inl ⟨i,j,(Aba.1 ra).1,(Aba.1 rb).1,hc,k.zero Ext.refl (Aba.2 ⟨rfl,Qy (Aba.1 ra).2 (Aba.1 rb).2⟩)⟩)
 .rename_i z zs ys;obtain⟨hc,rfl⟩:=cX e;obtain⟨p,us,rfl,hp,r1⟩:=Aan.1 ra;obtain⟨q,ws,rfl,hq,r2⟩:=Aan.1 rb;have l1:=r1.length;have l2:=r2.length;refine .inr (.inr ⟨p,q,us,ws,rfl,rfl,SqT.of (Aau _ _ hp),SqT.of (Aau _ _ hq),λz=>by rw[z] at l1;simp at l1,by rw[l1,l2];exact hc,λz=>?_,λz r hr=>?_⟩)
  .subst z;have:ys=[]:=by simpa using l2.symm
   subst this;refine k.zero Ext.refl ?_;rw[wG];exact ra
  .exact k.tup hP hr (r1.append r2)
 .cases e
theorem BC (ha:DE X a fa)(hb:DE X b fb):DE X (.BinOp a .Add b pos) (ah bQ fa fb):=pA (Be7.or (Aww.or A1b)) Oi ha hb
mutual
def noDict:aA->Bool
 |.dict _=>ag
 |.list ds=>noDicts ds
 |.tuple ds=>noDicts ds
 |_=>af
def noDicts:aae->Bool
 |[]=>af
 |d::r=>noDict d&&noDicts r
end
mutual
theorem nP {X:Cx}(I:Inv X ac σ H s):∀ {d:aA} {v:V} {u:aF},noDict d=af->Abx X.K H d v->RelV v u->d.canLay0=af/\∃ as,pQ s.heap u d as
 |.none,v,u,_,h,r=>by
  obtain rfl:=Abw.1 h;cases r;exact⟨by simp[eY],_,.none⟩
 |.bool b,v,u,_,h,r=>by
  obtain rfl:=Aao.1 h;cases r;exact⟨by simp[eY],_,.bool b⟩
 |.int i,v,u,_,h,r=>by
  obtain rfl:=Aak.1 h;obtain⟨t,rfl⟩:=r;exact⟨by simp[eY],_,.int i t⟩
 |.str x,v,u,_,h,r=>by
  obtain⟨rfl,hl⟩:=Aba.1 h;obtain⟨t,rfl⟩:=r;exact⟨hl,_,.str x t⟩
 |.list ds,v,u,n,h,r=>by
  obtain⟨a,xs,rfl,hs,hr⟩:=Abp.1 h;cases r;obtain⟨its,rv,⟨o,m,e,hc,_,hd⟩,_⟩:=I.list hs;obtain⟨hl,as,ha⟩:=JU I (by simpa [noDict] using n) hr rv
  exact⟨by simpa [eY] using hl,_,.list e hc hd (by simpa using ha)⟩
 |.tuple ds,v,u,n,h,r=>by
  obtain⟨a,xs,rfl,hs,hr⟩:=Aan.1 h;cases r;obtain⟨its,rv,⟨o,e,hc,m,hd⟩,_⟩:=I.tuple (SqT.of hs);obtain⟨hl,as,ha⟩:=JU I (by simpa [noDict] using n) hr rv
  exact⟨by simpa [eY] using hl,_,.tuple e hc hd (by simpa using ha)⟩
 |.dict _,_,_,n,h,_=>by simp[noDict] at n
theorem JU {X:Cx}(I:Inv X ac σ H s):∀ {ds:aae} {vs:aag} {us:aal},noDicts ds=af->Aap X.K H ds vs->Vals vs us->zT ds=af/\∃ as,pP s.heap us ds as
 |[],vs,us,_,h,r=>by
  obtain rfl:=Aal.1 h;cases r;exact⟨by simp[zT],_,.nil⟩
 |d::ds,vs,us,n,h,r=>by
  have n':noDict d=af/\noDicts ds=af:=by simpa [noDicts] using n
  obtain⟨x,rr,rfl,h1,h2⟩:=Aag.1 h;cases r with
  |cons r1 r2=>
   obtain⟨l1,as,ha⟩:=nP I n'.1 h1 r1;obtain⟨l2,bs,hb⟩:=JU I n'.2 h2 r2;exact⟨by simp[zT,l1,l2],_,.cons ha hb⟩
end
noncomputable def bP (d:aA):Bool:=noDict d&&decide (d.depth<=60)
def aw:aA->aA->aaf:=λa b=>if (bP a&&bP b)=af then aa (.bool (bE a b)) else ab
def bo:aA->aA->aaf:=λa b=>if (bP a&&bP b)=af then aa (.bool (!bE a b)) else ab
def AN (K:aM)(neg:Bool):R2:=λx y H Q=>∃ da db,Abx K H da x/\Abx K H db y/\bP da=af/\bP db=af/\Q (.bl (neg != bE da db)) H
theorem lZ (hu:X.A.units+100<cLine):OpR X (gR .Eq) (AN X.K ag):=by
 rw[1];obtain⟨da,db,ra,rb,fa,fb,q⟩:=h;have qo:noDict da=af/\da.depth<=60:=by simpa [bP] using fa
 have xr:noDict db=af/\db.depth<=60:=by simpa [bP] using fb
 obtain⟨la,as,ra⟩:=nP I qo.1 ra rx;obtain⟨lb,bs,rb⟩:=nP I xr.1 rb ry;exact SeqAt.compareEq_reads ra rb la lb () ⟨.bl _,H,I,rfl,by simpa using q⟩
theorem YM (hu:X.A.units+100<cLine):OpR X (gR .NotEq) (AN X.K af):=by
 rw[1];obtain⟨da,db,ra,rb,fa,fb,q⟩:=h;have qo:noDict da=af/\da.depth<=60:=by simpa [bP] using fa
 have xr:noDict db=af/\db.depth<=60:=by simpa [bP] using fb
 obtain⟨la,as,ra⟩:=nP I qo.1 ra rx;obtain⟨lb,bs,rb⟩:=nP I xr.1 rb ry;exact SeqAt.compareNe_reads ra rb la lb () ⟨.bl _,H,I,rfl,by simpa using q⟩
theorem lY:je K 0 (AN K ag) aw:=λP H x y a b d Q hP ra rb e k=>by
 obtain⟨hc,rfl⟩:=cX e;have g8:bP a=af/\bP b=af:=by simpa using hc
 exact⟨a,b,ra.ext Aau,rb.ext Aau,g8.1,g8.2,k.zero Ext.refl (Aao.2 (by simp))⟩
theorem ZE:je K 0 (AN K af) bo:=λP H x y a b d Q hP ra rb e k=>by
 obtain⟨hc,rfl⟩:=cX e;have g8:bP a=af/\bP b=af:=by simpa using hc
 exact⟨a,b,ra.ext Aau,rb.ext Aau,g8.1,g8.2,k.zero Ext.refl (Aao.2 (by simp))⟩
def FF (K:aM)(neg:Bool):R2:=λx y H Q=>∃ d ds,Abx K H d x/\(Abx K H (.list ds) y\/Abx K H (.tuple ds) y)/\bP d=af/\noDicts ds=af/\Q (.bl (neg != ds.any λz=>bE z d)) H
theorem Jt (hu:X.A.units+100<cLine):OpR X (gR .In) (FF X.K ag):=by
 rw[1];obtain⟨d,ds,ra,rb,fa,fb,q⟩:=h;have qo:noDict d=af/\d.depth<=60:=by simpa [bP] using fa
 obtain⟨la,as,ra⟩:=nP I qo.1 ra rx;rcases rb with rb|rb
 .obtain⟨lb,bs,rb⟩:=nP I (by simpa [noDict] using fb) rb ry
  exact SeqAt.in_list_reads rb ra (by simpa [eY] using lb) la () ⟨.bl _,H,I,rfl,by simpa using q⟩
 .obtain⟨lb,bs,rb⟩:=nP I (by simpa [noDict] using fb) rb ry
  exact SeqAt.in_tuple_reads rb ra (by simpa [eY] using lb) la () ⟨.bl _,H,I,rfl,by simpa using q⟩
theorem Pu (hu:X.A.units+100<cLine):OpR X (gR .NotIn) (FF X.K af):=by
 rw[1];obtain⟨d,ds,ra,rb,fa,fb,q⟩:=h;have qo:noDict d=af/\d.depth<=60:=by simpa [bP] using fa
 obtain⟨la,as,ra⟩:=nP I qo.1 ra rx;rcases rb with rb|rb
 .obtain⟨lb,bs,rb⟩:=nP I (by simpa [noDict] using fb) rb ry
  exact SeqAt.notIn_list_reads rb ra (by simpa [eY] using lb) la () ⟨.bl _,H,I,rfl,by simpa using q⟩
 .obtain⟨lb,bs,rb⟩:=nP I (by simpa [noDict] using fb) rb ry
  exact SeqAt.notIn_tuple_reads rb ra (by simpa [eY] using lb) la () ⟨.bl _,H,I,rfl,by simpa using q⟩
end
theorem PE.or{t t':TE}(h:PE X e t)(h':PE X e t'):PE X e (λσ H Q=>t σ H Q\/t' σ H Q):=λac s σ H Q I q=>q.elim (h ac s σ H Q I) (h' ac s σ H Q I)
noncomputable def cy:aA->aA->aaf
 |.int i,.int j=>aa (.bool (decide (i<j)))
 |.str i,.str j=>aa (.bool (decide (i.cps.toList<j.cps.toList)))
 |_,_=>ab
noncomputable def fy:aA->aA->aaf
 |.int i,.int j=>aa (.bool (decide (i<=j)))
 |.str i,.str j=>aa (.bool (!(decide (j.cps.toList<i.cps.toList))))
 |_,_=>ab
def cz:aA->aA->aaf:=ff λi j=>.bool (decide (j<i))
def dw:aA->aA->aaf:=ff λi j=>.bool (decide (j<=i))
theorem uP:je K 0 (λx y H Q=>lh (λi j=>.bl (decide (i<j))) x y H Q\/∃ i j,x=.str i/\y=.str j/\Q (.bl (decide (i.cps.toList<j.cps.toList))) H) cy:=λP H x y a b d Q hP ra rb e k=>by
 unfold cy at e;split at e
 .cases e;exact .inl ⟨_,_,Aak.1 ra,Aak.1 rb,k.zero Ext.refl (Aao.2 rfl)⟩
 .cases e;exact .inr ⟨_,_,(Aba.1 ra).1,(Aba.1 rb).1,k.zero Ext.refl (Aao.2 rfl)⟩
 .cases e
theorem Hr:je K 0 (lh λi j=>.bl (decide (j<i))) cz:=GI λ_ _ _=>Aao.2 rfl
theorem AX:je K 0 (lh λi j=>.bl (decide (j<=i))) dw:=GI λ_ _ _=>Aao.2 rfl
def rY:aA->aA->aaf
 |.none,.none=>aa (.bool af)
 |_,.none=>aa (.bool ag)
 |_,_=>ab
def kP:aA->aA->aaf
 |.none,.none=>aa (.bool ag)
 |_,.none=>aa (.bool af)
 |_,_=>ab
theorem SV{a:aA}{x:V}(r:Abx K H a x):decide (x=.non)=(match a with|.none=>af|_=>ag):=by
 cases a with
 |none=>obtain rfl:=Abw.1 r;rfl
 |bool b=>obtain rfl:=Aao.1 r;rfl
 |int b=>obtain rfl:=Aak.1 r;rfl
 |str b=>obtain⟨rfl,_⟩:=Aba.1 r;rfl
 |list b=>obtain⟨_,_,rfl,_⟩:=Abp.1 r;rfl
 |tuple b=>obtain⟨_,_,rfl,_⟩:=Aan.1 r;rfl
 |dict b=>obtain⟨_,rfl,_⟩:=Ada.1 r;rfl
theorem Me:je K 0 (λx y H Q=>y=.non/\Q (.bl (decide (x=.non))) H) rY:=λP H x y a b d Q hP ra rb e k=>by
 have q:=SV ra;unfold rY at e;split at e
 .cases e;exact⟨Abw.1 rb,k.zero Ext.refl (Aao.2 (by rw[q]))⟩
 .rename_i h;cases e;refine⟨Abw.1 rb,k.zero Ext.refl (Aao.2 ?_)⟩;rw[q];cases a<;>first|rfl|exact(h rfl).elim
 .cases e
theorem PV:je K 0 (λx y H Q=>y=.non/\Q (.bl (!decide (x=.non))) H) kP:=λP H x y a b d Q hP ra rb e k=>by
 have q:=SV ra;unfold kP at e;split at e
 .cases e;exact⟨Abw.1 rb,k.zero Ext.refl (Aao.2 (by rw[q];rfl))⟩
 .rename_i h;cases e;refine⟨Abw.1 rb,k.zero Ext.refl (Aao.2 ?_)⟩;rw[q];cases a<;>first|rfl|exact(h rfl).elim
 .cases e
noncomputable def bO:aA->Option aG
 |.int i=>aa (.inl i)
 |.str x=>aa (.inr x)
 |_=>ab
theorem CQ(h:bO d=aa k):d=kD k:=by
 cases d<;>simp[bO] at h<;>subst h<;>rfl
noncomputable def bL (kds:am)(k:aG):aaf:=(kds.find? λkd=>decide (bO kd.1=aa k)).map (·.2)
theorem Aa2 (k:aG):bO (kD k)=aa k:=by cases k<;>rfl
theorem yH:∀ {kds:am} {kvs:bm},Ab3 K H kds kvs->(bL kds k=ab/\eX kvs k=ab)\/∃ d v,bL kds k=aa d/\eX kvs k=aa v/\Abx K H d v
 |[],kvs,h=>by rw[Abt.1 h];exact .inl ⟨rfl,rfl⟩
 |(k0,d)::r,kvs,h=>by
  obtain⟨k',x,rr,rfl,rfl,h1,h2⟩:=Abf.1 h;by_cases e:k'=k
  .refine .inr ⟨d,x,?_,lM e,h1⟩;simp[bL,gF,Aa2,e]
  .have e1:bL ((kD k',d)::r) k=bL r k:=by simp[bL,gF,Aa2,e]
   rw[e1,kS e];exact yH h2
theorem WK:∀ {kds:am} {kvs:ce},Afd K H kds kvs->bL kds k=ab
 |[],kvs,h=>rfl
 |(k0,d)::r,kvs,h=>by
  obtain⟨k',x,rr,rfl,⟨rfl,_⟩,h1,h2⟩:=Afx.1 h;have e1:bL ((.tuple k',d)::r) k=bL r k:=by simp[bL,gF,bO]
  rw[e1];exact WK h2
theorem Vu(h:Abx K H (.dict kds) v)(e:bL kds k=aa d):∃ a,∃ kvs:Nat×bm,v=.ref a/\H a=aa (.dK kvs.1 kvs.2)/\Ab3 K H kds kvs.2:=by
 obtain⟨a,ev,⟨kvs,h1,r⟩|⟨ts,h1,r⟩|⟨xs,h1,r⟩⟩:=Ada.1 h
 case inr.inr=>
  obtain⟨es,rfl,_⟩:=IK r;cases e
 .exact⟨a,kvs,ev,h1,r⟩
 .cases kds with
  |nil=>simp[Axp] at r
  |cons p q=>
   obtain⟨k0,m⟩:=p;obtain⟨rfl,r2⟩:=Aes.1 r;have e1:bL ((.none,m)::q) k=bL q k:=by simp[bL,gF,bO]
   rw[e1,WK r2] at e;cases e
noncomputable def sJ (kds:am)(k:aae):aaf:=(kds.find? λkd=>bE kd.1 (.tuple k)).map (·.2)
theorem Nu (a b:aae):bE (.tuple a) (.tuple b)=iU a b:=by simp[bE]
theorem Rq {a k:aae}{r:am}(ha:cW a=af)(hk:cW k=af):sJ ((.tuple a,d)::r) k=if a=k then aa d else sJ r k:=by
 have e:bE (.tuple a) (.tuple k)=decide (a=k):=by rw[Nu,IH _ _ ha hk]
 unfold sJ;rw[gF,e];by_cases h:a=k
 .rw[if_pos h,decide_eq_true h];rfl
 .rw[if_neg h,decide_eq_false h]
theorem UP{k:aae}(hk:cW k=af):∀ {kds:am} {kvs:ce},Afd K H kds kvs->(sJ kds k=ab/\eX kvs k=ab)\/∃ d v,sJ kds k=aa d/\eX kvs k=aa v/\Abx K H d v
 |[],kvs,h=>by rw[Ain.1 h];exact .inl ⟨rfl,rfl⟩
 |(k0,d)::r,kvs,h=>by
  obtain⟨k',x,rr,rfl,⟨rfl,jo⟩,h1,h2⟩:=Afx.1 h;rw[Rq jo hk];by_cases e:k'=k
  .rw[if_pos e];exact .inr ⟨d,x,rfl,lM e,h1⟩
  .rw[if_neg e,kS e];exact UP hk h2
noncomputable def putD (kds:am)(k:aG)(d:aA):am:=
 if (kds.any λkd=>decide (bO kd.1=aa k))=af then kds.map λkd=>if bO kd.1=aa k then(kd.1,d) else kd else kds++[(kD k,d)]
theorem Be:∀ {kds:am} {kvs:bm},Ab3 K H kds kvs->(kds.any λkd=>decide (bO kd.1=aa k))=kvs.any λkv=>decide (kv.1=k)
 |[],kvs,h=>by rw[Abt.1 h];rfl
 |(k0,d)::r,kvs,h=>by
  obtain⟨k',x,rr,rfl,rfl,h1,h2⟩:=Abf.1 h;rw[ER,ER,Be h2,Aa2];simp
theorem IE(rv:Abx K H d v):∀ {kds:am} {kvs:bm},Ab3 K H kds kvs ->
  Ab3 K H (kds.map λkd=>if bO kd.1=aa k then(kd.1,d) else kd) (kvs.map λkv=>if kv.1=k then(kv.1,v) else kv)
 |[],kvs,h=>by rw[Abt.1 h];exact Abt.2 rfl
 |(k0,d0)::r,kvs,h=>by
  obtain⟨k',x,rr,rfl,rfl,h1,h2⟩:=Abf.1 h;rw[dF,dF];by_cases e:k'=k
  .rw[if_pos (show bO (kD k',d0).1=aa k by rw[Aa2,e]),if_pos (show(k',x).1=k from e)]
   exact Abf.2 ⟨k',v,_,rfl,rfl,rv,IE rv h2⟩
  .rw[if_neg (show ¬ bO (kD k',d0).1=aa k by rw[Aa2];simpa using e),if_neg (show ¬ (k',x).1=k from e)]
   exact Abf.2 ⟨k',x,_,rfl,rfl,h1,IE rv h2⟩
theorem Ab3.snoc(rv:Abx K H d v):∀ {kds:am} {kvs:bm},Ab3 K H kds kvs->Ab3 K H (kds++[(kD k,d)]) (kvs++[(k,v)])
 |[],kvs,h=>by rw[Abt.1 h];exact Abf.2 ⟨k,v,[],rfl,rfl,rv,Abt.2 rfl⟩
 |(k0,d0)::r,kvs,h=>by
  obtain⟨k',x,rr,rfl,rfl,h1,h2⟩:=Abf.1 h;exact Abf.2 ⟨k',x,_,rfl,rfl,h1,Ab3.snoc rv h2⟩
theorem PK{kvs:bm}(h:Ab3 K H kds kvs)(rv:Abx K H d v):Ab3 K H (putD kds k d) (putK kvs k v):=by
 unfold putD putK;rw[Be h];by_cases q:(kvs.any λkv=>decide (kv.1=k))=af
 .rw[if_pos q,if_pos q];exact IE rv h
 .rw[if_neg q,if_neg q];exact Ab3.snoc rv h
theorem Ab3.length:∀ {kds:am} {kvs:bm},Ab3 K H kds kvs->kvs.length=kds.length
 |[],kvs,h=>by rw[Abt.1 h];rfl
 |(k0,d0)::r,kvs,h=>by
  obtain⟨k',x,rr,rfl,rfl,h1,h2⟩:=Abf.1 h;rw[fZ,fZ,Ab3.length h2]
theorem mX{x:V}(h:bO d=aa k)(r:Abx K H d x):x=kV k:=by
 rw[CQ h] at r;exact Sg r
def ai:aA->aA->aaf
 |.list ds,.int i=>jf ds i
 |.tuple ds,.int i=>jf ds i
 |.str z,.int i=>if z.length<=sizeLine then(jf z.cps.toList i).bind λc=>aa (.str ⟨#[c]⟩) else ab
 |.dict kds,d=>(bO d).bind λk=>bL kds k
 |_,_=>ab
theorem OV{i:Int}(r:Aap K H ds xs)(h:jf ds i=aa d):∃ v,jf xs i=aa v/\Abx K H d v:=by
 unfold jf at h ⊢;rw[r.length];obtain⟨j,h1,h2⟩:=ao h;obtain⟨v,h3,h4⟩:=r.get h2;exact⟨v,by rw[h1];exact h3,h4⟩
theorem Ml {α:Type}{xs:List α}{i:Int}{x:α}(h:jf xs i=aa x):∃ j:Nat,xs[j]?=aa x:=by
 unfold jf at h;obtain⟨j,h1,h2⟩:=ao h;exact⟨j,h2⟩
section
variable {a:aS}{fa fb f:EF}
theorem nJ (hu:X.A.units+40<cLine)(ha:DE X a fa)(hb:DE X b fb)(hs:HG b):DE X (.Subscript a b pos) (ah ai fa fb):=PE.imp (PE.or (NO ZG ha hb hs) (Kd hu ha hb hs)) λσ H Q h=>by
 obtain⟨P,Y,d,hP,rs,ef,k⟩:=h;obtain⟨d1,e1,cm⟩:=ao ef;obtain⟨d2,e2,cv⟩:=ao cm;clear ef cm;have seq:(∀ (H2:Hp) (v u:V),Ext H H2->Abx X.K (hid H2 P) d1 v->Abx X.K (hid H2 P) d2 u->z4 X.K v u H2 Q)->rp (z4 X.K) (tF X.K 0 fa) (tF X.K 0 fb) σ H Q:=λz=>
  ⟨P,Y,d1,hP,rs,e1,eI λv H1 x1 r1=>⟨P,Y,d2,hP.ext x1,rs.ext (dD x1),e2,eI λu H2 x2 r2=>z H2 v u (x1.trans x2) (r1.ext (dD x2)) r2⟩⟩
 cases d1 with
 |list ds=>
  cases d2 with
  |int i=>
   refine .inl (seq λH2 v u x r1 r2=>.inl ?_)
   obtain⟨q,xs,rfl,hq,rr⟩:=Abp.1 r1;obtain⟨w,h1,h2⟩:=OV rr (show jf ds i=aa d from cv)
   exact⟨q,xs,i,w,rfl,Aak.1 r2,Aau.sqL hq,h1,k.zero x h2⟩
  |_=>cases cv
 |tuple ds=>
  cases d2 with
  |int i=>
   refine .inl (seq λH2 v u x r1 r2=>.inr (.inl ?_))
   obtain⟨q,xs,rfl,hq,rr⟩:=Aan.1 r1;obtain⟨w,h1,h2⟩:=OV rr (show jf ds i=aa d from cv)
   exact⟨q,xs,i,w,rfl,Aak.1 r2,SqT.of (Aau _ _ hq),h1,k.zero x h2⟩
  |_=>cases cv
 |str z=>
  cases d2 with
  |int i=>
   have cv:(if z.length<=sizeLine then(jf z.cps.toList i).bind λc=>aa (.str ⟨#[c]⟩) else ab)=aa d:=cv
   by_cases hz:z.length<=sizeLine
   .rw[if_pos hz] at cv;obtain⟨c,h1,h2⟩:=ao cv;cases h2;obtain⟨j,hj⟩:=Ml h1;refine .inl (seq λH2 v u x r1 r2=>.inr (.inr ⟨z,i,c,(Aba.1 r1).1,Aak.1 r2,hz,h1,k.zero x (Aba.2 ⟨rfl,HP (Aba.1 r1).2 hj⟩)⟩))
   .rw[if_neg hz] at cv;cases cv
  |_=>cases cv
 |dict kds=>
  obtain⟨kk,h1,h2⟩:=ao (show((bO d2).bind λk=>bL kds k)=aa d by cases d2<;>exact cv)
  refine .inr ⟨P,Y,_,hP,rs,e1,eI λv H1 x1 r1=>⟨P,Y,d2,hP.ext x1,rs.ext (dD x1),e2,eI λu H2 x2 r2=>?_⟩⟩
  obtain⟨q,kvs,rfl,hq,rr⟩:=Vu (r1.ext (dD x2)) h2;rcases yH rr with⟨n1,_⟩|⟨d',v',s1,s2,rd⟩
  .rw[h2] at n1;cases n1
  .rw[h2] at s1;cases s1;refine⟨q,v',rfl,.inl ⟨kvs.1,kvs.2,kk,.inl (Aau _ _ hq),mX h1 r2,s2.symm⟩,k.zero (x1.trans x2) rd⟩
 |_=>cases d2<;>cases cv
def FI (neg:Bool):aA->am->aaf
 |.tuple _,(_,.list _)::_=>ab
 |.tuple k,(_,_)::kds=>if (cW k&&decide (cI k<=6))=af then aa (.bool (neg != (sJ kds k).isSome)) else ab
 |_,_=>ab
def fu (neg:Bool):aA->aA->aaf
 |d,.list ds=>if (bP d&&noDicts ds)=af then aa (.bool (neg != ds.any λz=>bE z d)) else ab
 |d,.tuple ds=>if (bP d&&noDicts ds)=af then aa (.bool (neg != ds.any λz=>bE z d)) else ab
 |.str i,.str j=>aa (.bool (neg != !(MS j i 0 j.length 1).isEmpty))
 |d,.dict kds=>if f6 kds=af then(bO d).bind λk=>aa (.bool (neg != (bL kds k).isSome)) else FI neg d kds
 |_,_=>ab
def FY (K:aM)(neg:Bool):R2:=λx y H Q=>FF K neg x y H Q\/(∃ i j,x=.str i/\y=.str j/\Q (.bl (neg != !(MS j i 0 j.length 1).isEmpty)) H)\/∃ a o,y=.ref a/\rE H a x o/\Q (.bl (neg != o.isSome)) H
theorem QS (hu:X.A.units+100<cLine):OpR X (gR .In) (FY X.K ag):=by
 rw[1];rcases h with h|⟨i,j,ex,ey,q⟩|⟨a,o,rfl,g,q⟩
 .exact Jt hu ac s σ H x y v u Q I rx ry h
 .exact Ow ac s σ H x y v u Q I rx ry ⟨i,j,ex,ey,by simpa using q⟩
 .cases ry;exact Ee () I g rx λs' I'=>⟨.bl _,H,I',rfl,by simpa using q⟩
theorem JR (hu:X.A.units+100<cLine):OpR X (gR .NotIn) (FY X.K af):=by
 rw[1];rcases h with h|⟨i,j,ex,ey,q⟩|⟨a,o,rfl,g,q⟩
 .exact Pu hu ac s σ H x y v u Q I rx ry h
 .exact Tc ac s σ H x y v u Q I rx ry ⟨i,j,ex,ey,by simpa using q⟩
 .cases ry;exact Kg () I g rx λs' I'=>⟨.bl _,H,I',rfl,by simpa using q⟩
theorem xS{neg:Bool}:je K 0 (FY K neg) (fu neg):=λP H x y a b d Q hP ra rb e k=>by
 unfold fu at e;split at e
 .obtain⟨hc,rfl⟩:=cX e;have g8:=iG.1 hc;exact .inl ⟨a,_,ra.ext Aau,.inl (rb.ext Aau),g8.1,g8.2,k.zero Ext.refl (Aao.2 rfl)⟩
 .obtain⟨hc,rfl⟩:=cX e;have g8:=iG.1 hc;exact .inl ⟨a,_,ra.ext Aau,.inr (rb.ext Aau),g8.1,g8.2,k.zero Ext.refl (Aao.2 rfl)⟩
 .cases e;exact .inr (.inl ⟨_,_,(Aba.1 ra).1,(Aba.1 rb).1,k.zero Ext.refl (Aao.2 rfl)⟩)
 .rename_i kds;by_cases pk:f6 kds=af
  case neg=>
   rw[if_neg pk] at e;have ek:∃ m r,kds=(.none,m)::r:=by
    cases kds with
    |nil=>simp[f6] at pk
    |cons p r=>
     obtain⟨k0,m⟩:=p;cases k0<;>simp[f6] at pk;exact⟨m,r,rfl⟩
   obtain⟨m,r,rfl⟩:=ek;cases a with
   |tuple kk=>
    have hm:∀ es,m ≠ .list es:=by
     rintro es rfl;cases e
    replace e:(if (cW kk&&decide (cI kk<=6))=af then aa (eZ (neg != (sJ r kk).isSome)) else ab)=aa d:=by
     cases m with
     |list es=>exact absurd rfl (hm es)
     |_=>exact e
    obtain⟨hc,rfl⟩:=cX e;have g8:cW kk=af/\cI kk<=6:=by simpa using hc
    obtain⟨q,ts,rfl,hq,rr⟩:=(TZ hm).1 rb;obtain⟨b,xs,rfl,hb,rx⟩:=Aan.1 (ra.ext Aau);refine .inr (.inr ⟨q,eX ts.2 kk,rfl,.inr ⟨ts.2,kk,b,⟨_,.inl (Aau _ _ hq)⟩,rfl,⟨g8.1,g8.2,xs,hb,Aap.keys kk g8.1 rx⟩,rfl⟩,k.zero Ext.refl (Aao.2 ?_)⟩);rcases UP g8.1 rr with⟨n1,n2⟩|⟨d',v',s1,s2,rd⟩
    .rw[n1,n2];rfl
    .rw[s1,s2];rfl
   |_=>simp[FI] at e
  rw[if_pos pk] at e;obtain⟨kk,h1,h2⟩:=ao e;cases h2;obtain⟨q,kvs,rfl,hq,rr⟩:=(yE pk).1 rb;refine .inr (.inr ⟨q,eX kvs.2 kk,rfl,.inl ⟨kvs.1,kvs.2,kk,.inl (Aau _ _ hq),mX h1 ra,rfl⟩,k.zero Ext.refl (Aao.2 ?_)⟩);rcases yH rr with⟨n1,n2⟩|⟨d',v',s1,s2,rd⟩
  .rw[n1,n2];rfl
  .rw[s1,s2];rfl
 .cases e
end
def bA:aae->aaf
 |[.list ds]=>aa (.int ds.length)
 |[.tuple ds]=>aa (.int ds.length)
 |[.dict kds]=>if f6 kds=af then aa (.int kds.length) else ab
 |[.str z]=>if z.length<=sizeLine then aa (.int z.length) else ab
 |_=>ab
theorem gQ(r:Aap K H [d] xs):∃ v,xs=[v]/\Abx K H d v:=by
 obtain⟨v,t,rfl,h1,h2⟩:=Aag.1 r;obtain rfl:=Aal.1 h2;exact⟨v,rfl,h1⟩
section
def ND (K:aM):aag->Hp->VK->Prop:=λxs H Q=>(∃ p ys,xs=[.ref p]/\(SqL K H p ys\/SqT K H p ys)/\Q (.int ys.length) H)\/(∃ z,xs=[.str z]/\z.length<=sizeLine/\Q (.int z.length) H)\/∃ a ep kvs,xs=[V.ref a]/\H a=aa (.dK ep kvs)/\Q (.int kvs.length) H
theorem yR:Adn X (.builtin "len") (ND X.K):=Aq5.or (Ar6.or Yw)
theorem yK:CallD K 0 (ND K) bA:=λP H xs ds d Q hP r e k=>by
 unfold bA at e;split at e
 .cases e;rw[6];replace r:=r';obtain⟨q,ys,rfl,hq,rr⟩:=Abp.1 r;exact .inl ⟨q,ys,rfl,.inl (Aau.sqL hq),k.zero Ext.refl (Aak.2 (by rw[rr.length]))⟩
 .cases e;rw[6];replace r:=r';obtain⟨q,ys,rfl,hq,rr⟩:=Aan.1 r;exact .inl ⟨q,ys,rfl,.inr (SqT.of (Aau _ _ hq)),k.zero Ext.refl (Aak.2 (by rw[rr.length]))⟩
 .obtain⟨pk,rfl⟩:=cX e;rw[6];replace r:=r';obtain⟨q,ys,rfl,hq,rr⟩:=(yE pk).1 r;exact .inr (.inr ⟨q,ys.1,ys.2,rfl,Aau _ _ hq,k.zero Ext.refl (Aak.2 (by rw[rr.length]))⟩)
 .obtain⟨hz,rfl⟩:=cX e;rw[6];replace r:=r';exact .inr (.inl ⟨_,by rw[(Aba.1 r).1],hz,k.zero Ext.refl (Aak.2 rfl)⟩)
 .cases e
noncomputable def dW:aA->String
 |.none=>"NoneType"
 |.bool _=>"bool"
 |.int _=>"int"
 |.str _=>"str"
 |.list _=>"list"
 |.tuple _=>"tuple"
 |.dict _=>"dict"
def QX:List String:=["int","bool","str","list","tuple","dict"]
theorem Zp (d:aA):dW d∈kinds:=by cases d<;>simp[dW,kinds]
theorem Po:Adn X (.builtin "isinstance") (λxs H Q=>∃ x T d,xs=[x,.ty T]/\Abx X.K H d x/\T∈QX/\Q (.bl (dz (dW d) T)) H):=by
 rw[3];obtain⟨x,T,d,rfl,rd,hT,q⟩:=h;have ek:=Lj (Zp d) hT;have by_ty:TyOf X.K H x (.type (dW d))->aP (aW X.prog X.w) X.A (call (.builtin "isinstance") us) (EP X ac σ Q) X.xe s:=λty=>
  Rx ac s σ H _ us Q I r ⟨x,T,_,dz (dW d) T,rfl,ty,Amb.trans ek,q⟩
 cases d with
 |none=>obtain rfl:=Abw.1 rd;exact by_ty .non
 |bool b=>obtain rfl:=Aao.1 rd;exact by_ty (.bl _)
 |int b=>obtain rfl:=Aak.1 rd;exact by_ty (.int _)
 |str b=>obtain⟨rfl,_⟩:=Aba.1 rd;exact by_ty (.str _)
 |list b=>
  obtain⟨a,ys,rfl,h,_⟩:=Abp.1 rd;obtain⟨u,w',rfl,ru,i3⟩:=vals2 r;cases i3;cases ru;obtain⟨its,_,⟨o,n,e1,hc,_,_⟩,_⟩:=I.list h;exact nC Bs I.kIn ⟨o,e1,hc⟩ (Amb.trans ek) (λz=>nomatch z) λtk=>⟨.bl _,H,I.tok tk,rfl,q⟩
 |tuple b=>obtain⟨_,_,rfl,h,_⟩:=Aan.1 rd;exact by_ty (.tup h)
 |dict b=>
  obtain⟨_,rfl,⟨_,h,_⟩|⟨_,h,_⟩|⟨_,h,_⟩⟩:=Ada.1 rd
  .exact by_ty (.dK h)
  .exact by_ty (.dT h)
  .obtain⟨u,w',rfl,ru,i3⟩:=vals2 r;cases i3;cases ru;obtain⟨⟨_,_,o,_,e1,hc,_⟩,_⟩:=I.hok _ _ h;exact nC Bt I.kIn ⟨o,e1,hc.1⟩ (Amb.trans ek) (λz=>nomatch z) λtk=>⟨.bl _,H,I.tok tk,rfl,q⟩
noncomputable def cM (T:String):aA->aaf:=λd=>aa (.bool (dz (dW d) T))
variable {a:aS}{f:EF}{fa:AF}{br ax:bH}
theorem AW(t9:Gl X "isinstance")(hm:X.mg "isinstance" = ab)(hg:Gl X x)(J6:X.mg x=ab)(hv:nA x=aa (.type T))(hT:T∈QX)(he:DE X e f)
  (hn:x ≠ "__name__":=by decide) (hd:(x==("__debug__" : aD))=ag:=by decide) (ja:bM (e::[.Name x p2]) X.env=(ag,cA e X.env)::bM [.Name x p2] X.env:=by rfl)
  (gw:bM (.Name x p2::[]) X.env=(ag,cA (.Name x p2) X.env)::bM [] X.env:=by rfl) (im:(iT pos (bM [.Name x p2] X.env)).any (·.1)=ag:=by rfl):DE X (.Call (.Name "isinstance" p) [e,.Name x p2] [] pos) (bz (cM T) f):=
 PE.imp (QJ Po t9 hm boot_isinstance (gX he (gX (Et hg J6 hv hn hd) kQ gw) ja) nofun nofun ja im) λσ H Q gh=>by
  rw[2];obtain⟨d1,e1,ef⟩:=ao ef;cases ef;exact⟨P,Y,d1,hP,rs,e1,eI λv H1 x1 r1=>⟨v,T,d1,rfl,r1.ext Aau,hT,k.zero x1 (Aao.2 rfl)⟩⟩
def cY:aae->aaf
 |[.list ds]=>aa (.tuple ds)
 |[.tuple ds]=>aa (.tuple ds)
 |_=>ab
theorem Se:CallD K 0 (λxs H Q=>∃ p ys,xs=[.ref p]/\((SqL K H p ys/\∀ l,H l=ab->Q (.ref l) (upd H l (.tup ys)))\/(SqT K H p ys/\Q (.ref p) H))) cY:=λP H xs ds d Q hP r e k=>by
 unfold cY at e;split at e
 .cases e;rw[6];replace r:=r';obtain⟨q,ys,rfl,hq,rr⟩:=Abp.1 r;exact⟨q,ys,rfl,.inl ⟨Aau.sqL hq,λl hl=>k.tup hP hl rr⟩⟩
 .cases e;rw[6];replace r:=r';obtain⟨q,ys,rfl,hq,rr⟩:=Aan.1 r;exact⟨q,ys,rfl,.inr ⟨SqT.of (Aau _ _ hq),k.zero Ext.refl r⟩⟩
 .cases e
noncomputable def eJ:aae->aaf
 |[.list ds]=>aa (.list ds)
 |[.tuple ds]=>aa (.list ds)
 |[.str z]=>if z.length<=sizeLine then aa (.list (z.cps.toList.map λc=>.str ⟨#[c]⟩)) else ab
 |_=>ab
def NR (K:aM):aag->Hp->VK->Prop:=λxs H Q=>(∃ p ys,xs=[.ref p]/\(SqL K H p ys\/SqT K H p ys)/\∀ l,H l=ab->Q (.ref l) (upd H l (.lst ys)))\/∃ z:aD,xs=[.str z]/\z.length<=sizeLine/\∀ l,H l=ab->Q (.ref l) (upd H l (.lst (z.cps.toList.map sE)))
theorem Su (hc:X.calm=af):Adn X (.type "list") (NR X.K):=Aqx.or (Qh hc)
theorem VB:∀ {cs:aam},(∀ c∈cs,eY (.str ⟨#[c]⟩)=af)->Aap K H (cs.map λc=>.str ⟨#[c]⟩) (cs.map sE)
 |[],_=>Aal.2 rfl
 |c::r,h=>Aag.2 ⟨_,_,rfl,Aba.2 ⟨rfl,h c bT⟩,VB λc' m=>h c' (cL _ m)⟩
theorem Qi:CallD K 1 (NR K) eJ:=λP H xs ds d Q hP r e k=>by
 unfold eJ at e;split at e
 .cases e;rw[6];replace r:=r';obtain⟨q,ys,rfl,hq,rr⟩:=Abp.1 r;exact .inl ⟨q,ys,rfl,.inl (Aau.sqL hq),λl hl=>k.lst hP hl rr⟩
 .cases e;rw[6];replace r:=r';obtain⟨q,ys,rfl,hq,rr⟩:=Aan.1 r;exact .inl ⟨q,ys,rfl,.inr (SqT.of (Aau _ _ hq)),λl hl=>k.lst hP hl rr⟩
 .obtain⟨hz,rfl⟩:=cX e;rw[6];replace r:=r';refine .inr ⟨_,by rw[(Aba.1 r).1],hz,λl hl=>k.lst hP hl (VB λc m=>?_)⟩
  obtain⟨j,hj⟩:=List.mem_iff_getElem?.1 m;exact HP (Aba.1 r).2 hj
 .cases e
def eQ:aae->aaf
 |[.int i]=>aa (.int i)
 |[.bool b]=>aa (.int (if b then 1 else 0))
 |_=>ab
theorem Pj:CallD K 0 (λxs H Q=>(∃ i,xs=[.int i]/\Q (.int i) H)\/∃ k,xs=[.bl k]/\Q (.int (if k then 1 else 0)) H) eQ:=λP H xs ds d Q hP r e k=>by
 unfold eQ at e;split at e
 .cases e;rw[6];replace r:=r';exact .inl ⟨_,by rw[Aak.1 r],k.zero Ext.refl (Aak.2 rfl)⟩
 .cases e;rw[6];replace r:=r';exact .inr ⟨_,by rw[Aao.1 r],k.zero Ext.refl (Aak.2 rfl)⟩
 .cases e
noncomputable def nH:aae->Option (List Bool)
 |[]=>aa []
 |.bool b::r=>(nH r).bind λbs=>aa (b::bs)
 |_::_=>ab
def AS:aae->aaf
 |[.list ds]=>(nH ds).bind λbs=>aa (.bool (bs.all id))
 |_=>ab
theorem IB:∀ {ds:aae} {xs:aag} {bs:List Bool},nH ds=aa bs->Aap K H ds xs->xs=bs.map V.bl
 |[],xs,bs,e,r=>by
  cases e;rw[Aal.1 r];rfl
 |.bool b::ds,xs,bs,e,r=>by
  obtain⟨bs',e1,e2⟩:=ao (show((nH ds).bind λbs=>aa (b::bs))=aa bs from e)
  cases e2;obtain⟨v,t,rfl,h1,h2⟩:=Aag.1 r;rw[Aao.1 h1,IB e1 h2];rfl
 |.none::_,_,_,e,_=>by cases e
 |.int _::_,_,_,e,_=>by cases e
 |.str _::_,_,_,e,_=>by cases e
 |.list _::_,_,_,e,_=>by cases e
 |.tuple _::_,_,_,e,_=>by cases e
 |.dict _::_,_,_,e,_=>by cases e
theorem Oy:CallD K 0 (λxs H Q=>∃ p ys,xs=[.ref p]/\SqL K H p ys/\(∀ y∈ys,∃ b,y=.bl b)/\Q (.bl (allB ys)) H) AS:=λP H xs ds d Q hP r e k=>by
 unfold AS at e;split at e
 .obtain⟨bs,e1,e2⟩:=ao e;cases e2;rw[6];replace r:=r';obtain⟨q,ys,rfl,hq,rr⟩:=Abp.1 r;obtain rfl:=IB e1 rr;refine⟨q,_,rfl,Aau.sqL hq,λy m=>?_,k.zero Ext.refl (Aao.2 ?_)⟩
  .grind
  .unfold allB;rw[wH]
   grind
 .cases e
def cutD (ds:aae)(lo hi:aap):aae:=(ds.drop (HT.sIx ds.length 0 lo)).take (HT.sIx ds.length ds.length hi-HT.sIx ds.length 0 lo)
abbrev OF:=bd->Option aap
def T7 (K:aM)(f:OF):TO:=λσ H Q=>∃ P Y o,Hid P H/\Amf K (hid H P) Y σ/\f Y=aa o/\∀ H',Ext H H'->Q o H'
abbrev DO (X:Cx)(e:Option aS)(f:OF):Prop:=PO X e (T7 X.K f)
def oN:OF:=λ_=>aa ab
def oS (f:EF):OF:=λY=>(f Y).bind λd=>match d with
 |.int i=>aa (aa i)
 |_=>ab
theorem PO.imp {o:Option aS}{t t':TO}(h:PO X o t)(w:∀ σ H Q,t' σ H Q->t σ H Q):PO X o t':=λac s σ H Q I q=>h ac s σ H Q I (w _ _ _ q)
theorem uW:DO X ab oN:=PO.imp Mu λσ H Q gh=>by
 obtain⟨P,Y,o,hP,rs,ef,k⟩:=gh;cases ef;exact k H Ext.refl
theorem uZ (h:DE X e f):DO X (aa e) (oS f):=PO.imp (Lo h) λσ H Q gh=>by
 obtain⟨P,Y,o,hP,rs,ef,k⟩:=gh;obtain⟨d,e1,ef⟩:=ao ef;refine⟨P,Y,d,hP,rs,e1,eI λv H1 x1 r1=>?_⟩
 cases d with
 |int i=>cases ef;exact⟨i,Aak.1 r1,k H1 x1⟩
 |_=>cases ef
def nU (f:EF)(lo hi:OF):EF:=λY=>(f Y).bind λd=>(lo Y).bind λl=>(hi Y).bind λh=>match d with
 |.list ds=>aa (.list (cutD ds l h))
 |_=>ab
theorem xR {lo hi:Option aS}{fl fh:OF}{pp:bH}(he:DE X e f)(hl:DO X lo fl)(hh:DO X hi fh):DF 1 X (.Subscript e (.Slice lo hi ab pp) pos) (nU f fl fh):=PE.imp (RW Kh he hl hh) λσ H Q gh=>by
 rw[2];obtain⟨d1,e1,cm⟩:=ao ef;obtain⟨l,e2,cv⟩:=ao cm;obtain⟨h,e3,gs⟩:=ao cv;clear ef cm cv;cases d1 with
 |list ds=>
  cases gs;refine⟨P,Y,_,hP,rs,e1,eI λv H1 x1 r1=>⟨P,Y,l,hP.ext x1,rs.ext (dD x1),e2,λH2 x2=>⟨P,Y,h,hP.ext (x1.trans x2),rs.ext (dD (x1.trans x2)),e3,λH3 x3=>?_⟩⟩⟩
  obtain⟨q,ys,rfl,hq,rr⟩:=Abp.1 (r1.ext (dD (x2.trans x3)));refine⟨q,ys,rfl,Aau.sqL hq,λp hp=>(k.mono ((x1.trans x2).trans x3)).lst (hP.ext ((x1.trans x2).trans x3)) hp ?_⟩
  unfold rF cutD;rw[rr.length];exact(rr.drop _).take _
 |_=>cases gs
theorem OW {α:Type}{c:Prop}[Decidable c]{x:Option α}{y:α}(h:(if c then x else ab)=aa y):c/\x=aa y:=by
 grind
def fF:aA->aA->aA->aaf
 |.dict kds,k,x=>if f6 kds=af then(bO k).bind λk=>aa ((bL kds k).getD x) else ab
 |_,_,_=>ab
def cR (fd fk fx:EF):EF:=λY=>(fd Y).bind λd=>(fk Y).bind λk=>(fx Y).bind λx=>fF d k x
theorem Aj {o k z:aS}{fd fk fx:EF}(hu:X.A.units+40<cLine)(ho:DE X o fd)(hk:DE X k fk)(hz:DE X z fx)(m:M2 X o "get" br k z ax:=by exact⟨rfl,rfl,rfl,rfl⟩):DE X (.Call (.Attribute o "get" br) [k,z] [] ax) (cR fd fk fx):=
 PE.imp (Xo hu ho hk hz m) λσ H Q gh=>by
  obtain⟨P,Y,d,hP,rs,ef,kk⟩:=gh;obtain⟨d1,e1,cm⟩:=ao ef;obtain⟨d2,e2,cv⟩:=ao cm;obtain⟨d3,e3,gs⟩:=ao cv;clear ef cm cv;cases d1 with
  |dict kds=>
   obtain⟨pk,l6⟩:=OW (show(if f6 kds=af then(bO d2).bind λk=>aa ((bL kds k).getD d3) else ab)=aa d from gs)
   obtain⟨key,h1,h2⟩:=ao l6;cases h2;refine⟨P,Y,_,hP,rs,e1,eI λv H1 x1 r1=>?_⟩
   obtain⟨q,kvs,rfl,hq,rr⟩:=(yE pk).1 r1;refine⟨q,rfl,.inl ⟨kvs.1,kvs.2,.inl (Aau _ _ hq)⟩,P,Y,d2,hP.ext x1,rs.ext (dD x1),e2,eI λu H2 x2 r2=>⟨P,Y,d3,hP.ext (x1.trans x2),rs.ext (dD (x1.trans x2)),e3,eI λw H3 x3 r3=>?_⟩⟩
   refine⟨eX kvs.2 key,.inl ⟨kvs.1,kvs.2,key,.inl (x3 _ _ (x2 _ _ (Aau _ _ hq))),mX h1 r2,rfl⟩,kk.zero ((x1.trans x2).trans x3) ?_⟩;rcases yH (rr.ext (dD (x2.trans x3))) with⟨n1,n2⟩|⟨d',v',s1,s2,rd⟩
   .rw[n1,n2];exact r3
   .rw[s1,s2];exact rd
  |_=>cases gs
theorem Res.dic{ep:Nat}{kvs:bm}{q:aC}(hP:Hid P H)(h:Res K P 1 (.dict kds) H Q)(n:H q=ab)(r:Ab3 K (hid H P) kds kvs):Q (.ref q) (upd H q (.dK ep kvs)):=by
 refine h (.ref q) _ [q] (Ext.new n) (gZ.2 ⟨by simp,.nil⟩) (λa m=>?_) ⟨q,(ep,kvs),kvs.map λ_=>[],rfl,fT,?_,?_⟩
 .have:a=q:=by simpa using m
  subst this;exact⟨n,_,fT⟩
 .have:∀ l:bm,(l.map λ_=>([]:aaj)).flatten=[]:=λl=>by
   induction l with
   |nil=>rfl
   |cons a l ih=>rw[dF,rP,ih];rfl
  rw[this]
 .have xe:Ext (hid H P) (hid (upd H q (.dK ep kvs)) (de P [q])):=λb o e=>by
   obtain⟨nb,e⟩:=Abz.1 e;have hb:=kT e n;exact gD (λz=>z.elim nb λm=>hb (by simpa using m)) (by rw[dY hb];exact e)
  generalize hid (upd H q (.dK ep kvs)) (de P [q])=B at xe;generalize upd H q (.dK ep kvs)=H1;clear h;have go:∀ (ds:am) (xs:bm),Ab3 K (hid H P) ds xs->All3 (λ(kd:aA×aA) (kv:aG×V) f=>kd.1=kD kv.1/\Afg K B H1 0 kd.2 kv.2 f) ds xs (xs.map λ_=>[]):=by
   intro ds;induction ds with
   |nil=>intro xs r;rw[Abt.1 r];exact .nil
   |cons d ds ih=>
    intro xs r;obtain⟨k',y,t,rfl,ek,h1,h2⟩:=Abf.1 (show Ab3 K (hid H P) ((d.1,d.2)::ds) xs from r)
    exact .cons ⟨ek,rfl,h1.ext xe⟩ (ih t h2)
  exact go kds kvs r
theorem Ak:DF 1 X (.Dict [] [] pos) (eC (.dict [])):=PE.imp RX λσ H Q gh=>by
 rw[2];cases ef;exact λq hq=>k.dic hP hq (Abt.2 rfl)
def DC:aae->aaf
 |[.dict kds]=>if f6 kds=af then aa (.dict kds) else ab
 |_=>ab
theorem VG:Adn X (.type "dict") (λxs H Q=>∃ a ep kvs,xs=[.ref a]/\H a=aa (.dK ep kvs)/\∀ p n,H p=ab->Q (.ref p) (upd H p (.dK n kvs))):=by
 rw[3];obtain⟨a,ep,kvs,rfl,ha,q⟩:=h;obtain⟨u,rfl,ru⟩:=vals1 r;cases ru;exact Wp I (.inl ha) λp n s' hp I'=>⟨.ref p,_,I',rfl,q p n hp⟩
theorem VU:CallD K 1 (λxs H Q=>∃ a ep kvs,xs=[.ref a]/\H a=aa (.dK ep kvs)/\∀ p n,H p=ab->Q (.ref p) (upd H p (.dK n kvs))) DC:=λP H xs ds d Q hP r e k=>by
 unfold DC at e;split at e
 .obtain⟨pk,rfl⟩:=cX e;rw[6];replace r:=r';obtain⟨q,ys,rfl,hq,rr⟩:=(yE pk).1 r;exact⟨q,ys.1,ys.2,rfl,Aau _ _ hq,λl n hl=>k.dic hP hl rr⟩
 .cases e
end
section
variable {Y:aQ}
theorem IJ {B:Hp}:∀ {ds:aae} {xs:aag} {Fs:wv},All3 (Afm K B H 0) ds xs Fs->Aap K B ds xs/\Fs.flatten=[]:=by
 intro ds xs Fs h;induction h with
 |nil=>exact⟨Aal.2 rfl,rfl⟩
 |cons h t ih=>
  obtain⟨rfl,r⟩:=h;exact⟨Aag.2 ⟨_,_,rfl,r,ih.1⟩,by rw[rP,ih.2];rfl⟩
theorem Rb {B:Hp}:∀ {ds:am} {xs:bm} {Fs:wv},All3 (λ(kd:aA×aA) (kv:aG×V) f=>kd.1=kD kv.1/\Afm K B H 0 kd.2 kv.2 f) ds xs Fs->Ab3 K B ds xs/\Fs.flatten=[]:=by
 intro ds xs Fs h;induction h with
 |nil=>exact⟨Abt.2 rfl,rfl⟩
 |@cons p q F ds xs Fs h t ih=>
  obtain⟨k,d⟩:=p;obtain⟨k',v⟩:=q;obtain⟨ek,rfl,r⟩:=h;exact⟨Abf.2 ⟨_,_,_,rfl,ek,r,ih.1⟩,by rw[rP,ih.2];rfl⟩
theorem CD {B:Hp}:∀ {ds:aae} {xs:aag},Aap K B ds xs->All3 (Afm K B H1 0) ds xs (xs.map λ_=>[])/\(xs.map λ_=>([]:aaj)).flatten=[]
 |[],xs,r=>by rw[Aal.1 r];exact⟨.nil,rfl⟩
 |d::ds,xs,r=>by
  obtain⟨y,t,rfl,h1,h2⟩:=Aag.1 r;obtain⟨q1,q2⟩:=CD h2;exact⟨.cons ⟨rfl,h1⟩ q1,by rw[dF,rP,q2];rfl⟩
theorem WD {B:Hp}:∀ {ds:am} {xs:bm},Ab3 K B ds xs->All3 (λ(kd:aA×aA) (kv:aG×V) f=>kd.1=kD kv.1/\Afm K B H1 0 kd.2 kv.2 f) ds xs (xs.map λ_=>[])/\(xs.map λ_=>([]:aaj)).flatten=[]
 |[],xs,r=>by rw[Abt.1 r];exact⟨.nil,rfl⟩
 |(k,d)::ds,xs,r=>by
  obtain⟨k',y,t,rfl,ek,h1,h2⟩:=Abf.1 r;obtain⟨q1,q2⟩:=WD h2;exact⟨.cons ⟨ek,rfl,h1⟩ q1,by rw[dF,rP,q2];rfl⟩
theorem Sta.write {p:aC}{d':aA}(S:Sta K H0 P0 B0 Y σ H fp)(hi:i<Y.length)(hv:σ[i]?=aa (aa (.ref p)))(hp:p∈fp i)(ho:(∃ xs,o=.lst xs)\/∃ q:DQ,o=dO q)
  (new:Afg K (L2.hid H (Hd P0 fp)) (upd H p o) 1 d' (.ref p) (fp i)):Sta K H0 P0 B0 (Y.set i (aa (1,d'))) σ (upd H p o) fp:=by
 have hb:L2.hid (upd H p o) (Hd P0 fp)=L2.hid H (Hd P0 fp):=by
  funext b;unfold L2.hid;by_cases q:Hd P0 fp b
  .rw[if_pos q,if_pos q]
  .rw[if_neg q,if_neg q];exact dY λz=>q (.inr ⟨i,by rw[z];exact hp⟩)
 refine⟨by simp[S.len],S.nd,S.dj,λj a m=>⟨(S.own j a m).1,?_⟩,λb u e=>?_,S.hd,by rw[hb];exact S.base,λj n d e=>?_⟩
 .by_cases q:a=p
  .subst q;rcases ho with⟨xs,rfl⟩|⟨xs,rfl⟩
   .exact .inl ⟨xs,fT⟩
   .exact .inr ⟨xs,fT⟩
  .rw[dY q];exact(S.own j a m).2
 .rw[dY (kT e (S.own i p hp).1)];exact S.ext b u e
 .by_cases q:j=i
  .subst q;rw[oE hi] at e;cases e;exact⟨_,hv,by rw[hb];exact new⟩
  .rw[mI (λz=>q z.symm)] at e
   obtain⟨v,h1,h2⟩:=S.slot j n d e;refine⟨v,h1,?_⟩;rw[hb];exact h2.keep Ext.refl λa m=>dY λz=>q (S.dj j i a m (by rw[z];exact hp))
theorem Sta.lst1(S:Sta K H0 P0 B0 Y σ H fp)(e:Y[i]?=aa (aa (1,.list ds))):∃ p xs,σ[i]?=aa (aa (.ref p))/\H p=aa (.lst xs)/\Aap K (L2.hid H (Hd P0 fp)) ds xs /\
  ∀ k6 ju,Aap K (L2.hid H (Hd P0 fp)) k6 ju->Sta K H0 P0 B0 (Y.set i (aa (1,.list k6))) σ (upd H p (.lst ju)) fp:=by
 obtain⟨v,h1,h2⟩:=S.slot i 1 _ e;obtain⟨p,xs,Fs,rfl,hp,hF,h3⟩:=h2;obtain⟨r,hn⟩:=IJ h3;rw[hn] at hF;refine⟨p,xs,h1,hp,r,λk6 ju r'=>S.write (eW.1 e).1 h1 (by rw[hF];exact bT) (.inl ⟨_,rfl⟩) ?_⟩
 obtain⟨q1,q2⟩:=CD r';exact⟨p,ju,_,rfl,fT,by rw[hF,q2],q1⟩
theorem Sta.dic1 {ds:am}(S:Sta K H0 P0 B0 Y σ H fp)(e:Y[i]?=aa (aa (1,.dict ds))):∃ p ep xs,σ[i]?=aa (aa (.ref p))/\H p=aa (.dK ep xs)/\Ab3 K (L2.hid H (Hd P0 fp)) ds xs /\
  ∀ n k6 ju,Ab3 K (L2.hid H (Hd P0 fp)) k6 ju->Sta K H0 P0 B0 (Y.set i (aa (1,.dict k6))) σ (upd H p (.dK n ju)) fp:=by
 obtain⟨v,h1,h2⟩:=S.slot i 1 _ e;obtain⟨p,xs,Fs,rfl,hp,hF,h3⟩:=h2;obtain⟨r,hn⟩:=Rb h3;rw[hn] at hF;refine⟨p,xs.1,xs.2,h1,hp,r,λn k6 ju r'=>S.write (eW.1 e).1 h1 (by rw[hF];exact bT) (.inr ⟨.inl (n,ju),rfl⟩) ?_⟩
 obtain⟨q1,q2⟩:=WD r';exact⟨p,(n,ju),_,rfl,fT,by rw[hF,q2],q1⟩
end
noncomputable def getL (i:Nat)(Y:aQ):aac:=match Y[i]? with
 |some (aa (1,.list ds))=>aa ds
 |_=>ab
noncomputable def dM (i:Nat)(Y:aQ):Option am:=match Y[i]? with
 |some (aa (1,.dict ds))=>aa ds
 |_=>ab
theorem oJ{Y:aQ}(h:getL i Y=aa ds):Y[i]?=aa (aa (1,.list ds)):=by
 unfold getL at h;split at h
 .rename_i e;cases h;exact e
 .cases h
theorem tH{Y:aQ}{ds:am}(h:dM i Y=aa ds):Y[i]?=aa (aa (1,.dict ds)):=by
 unfold dM at h;split at h
 .rename_i e;cases h;exact e
 .cases h
section
variable {k o:aS}{f g:EF}{br ax:bH}
def dE (i:Nat)(m:Md)(f:EF):SF:=λY=>(eV 0 m f Y).bind λd=>(getL i Y).bind λds=>if ds.length<sizeLine then aa (.nx (Y.set i (aa (1,.list (ds++[d]))))) else ab
theorem Pb (i:Nat)(m:Md)(he:DE X e f)(hN:Nm X i x:=by exact kN)(q5:Bm X (.Name x px) e [] "append" br ax:=by exact⟨rfl,rfl,rfl,rfl,rfl⟩)
  (jt:kI (.Call (.Attribute (.Name x px) "append" br) [e] [] ax) ab pos.line X.env=pure ag:=by rfl):DS X H0 P0 n0 (.Expr (.Call (.Attribute (.Name x px) "append" br) [e] [] ax) pos) (dE i m f):=
 PS.imp (qR (qJ EC By Bw CJ (hN.pe) (gX (ev m he) kQ q5.s) q5) jt) λD σ H gh=>by
  rw[4];obtain⟨d,e1,cm⟩:=ao ef;obtain⟨ds,e2,cv⟩:=ao cm;obtain⟨hl,rfl⟩:=cX cv;obtain⟨p,xs,h1,h2,_,_⟩:=S.lst1 (oJ e2);refine⟨.ref p,h1,.inl ⟨rfl,xs,SqL.of h2⟩,B0,Y,fp,d,S,e1,λv H2 gh=>?_⟩
  obtain⟨f9,S2,r2⟩:=gh;obtain⟨p2,jz,q1,q2,q3,q4⟩:=S2.lst1 (oJ e2);have:p2=p:=by rw[h1] at q1;cases q1;rfl
  subst this;exact⟨p2,jz,v,rfl,rfl,q2,by rw[q3.length];exact hl,k _ _ f9 (q4 _ _ (q3.snoc r2.2))⟩
def fI (i:Nat):SF:=λY=>(getL i Y).bind λds=>aa (.nx (Y.set i (aa (1,.list []))))
def fK (i:Nat)(m:Md)(f:EF)(mk:Md)(g:EF):SF:=λY=>(eV 0 m f Y).bind λd=>(getL i Y).bind λds=>(eV 0 mk g Y).bind λk=>match k with
 |.int j=>(k9 ds.length j).bind λj=>aa (.nx (Y.set i (aa (1,.list (ds.set j d)))))
 |_=>ab
theorem sC{m:Md}{Y:aQ}(S:Sta K H0 P0 B0 Y σ H fp)(e:eV 0 m g Y=aa d)(hd:cB d=af)(k:∀ v H',Ext H H'->Abx K (hid H' (Hd P0 fp)) d v->Q v H'):tF K 0 g σ H Q:=by
 cases m with
 |s=>exact⟨Hd P0 fp,vS Y,d,S.hid,S.viewS,e,eI k⟩
 |a=>
  obtain⟨d',ed,ef⟩:=ao e;obtain⟨fl,rfl⟩:=cX ef;refine⟨P0,vA Y,d',S.hd.ext S.ext,S.viewA,ed,eI λv H' x r=>k v H' x (r.flat (λa xs e=>?_) _ hd)⟩
  obtain⟨na,e⟩:=Abz.1 e;refine gD (λq=>?_) e
  rcases q with q|⟨j,q⟩
  .exact na q
  .rcases((S.grow x).own j a q).2 with⟨ys,e2⟩|⟨ys,e2⟩<;>rw[e] at e2<;>first|cases e2|(cases ys<;>simp[dO] at e2)
def eB (i:Nat)(m:Md)(f:EF)(mk:Md)(g:EF):SF:=λY=>(eV 0 m f Y).bind λd=>(dM i Y).bind λkds=>(eV 0 mk g Y).bind λk=>(bO k).bind λk=>if kds.length<sizeLine then aa (.nx (Y.set i (aa (1,.dict (putD kds k d))))) else ab
theorem Ao (i:Nat)(m mk:Md)(hu:X.A.units+40<cLine)(he:DE X e f)(hk:DE X k g)(hN:Nm X i x:=by exact kN)(hs:kI e (aa (.Subscript (.Name x px) k br)) pos.line X.env=pure ag:=by rfl):DS X H0 P0 n0 (.Assign [.Subscript (.Name x px) k br] e pos) (eB i m f mk g):=
 PS.imp (HK hu (hN.pe) hk (ev m he) hs) λD σ H gh=>by
  obtain⟨B0,Y,fp,o,S,ef,kk⟩:=gh;obtain⟨d,e1,cm⟩:=ao ef;obtain⟨kds,e2,cv⟩:=ao cm;obtain⟨kd,e3,gs⟩:=ao cv;obtain⟨key,e4,l6⟩:=ao gs;obtain⟨hl,rfl⟩:=cX l6;clear ef cm cv gs;refine⟨B0,Y,fp,d,S,e1,λv H2 gh=>?_⟩
  obtain⟨f9,S2,r2⟩:=gh;obtain⟨p,ep,xs,h1,h2,_,_⟩:=S2.dic1 (tH e2);have hf:cB kd=af:=by rw[CQ e4];cases key<;>simp[kD,cB]
  refine⟨.ref p,h1,sC S2 e3 hf λu H3 x3 r3=>?_⟩
  have S3:=S2.grow x3;obtain⟨p3,l7,nu,q1,q2,q3,q4⟩:=S3.dic1 (tH e2);have:p3=p:=by rw[h1] at q1;cases q1;rfl
  subst this;refine⟨p3,_,rfl,.inl ⟨l7,nu,key,q2,mX e4 r3,by rw[q3.length];exact hl,rfl⟩,λn=>kk _ _ f9 (q4 n _ _ (PK q3 (r2.2.ext (dD x3))))⟩
end
section
variable {a:aS}{fa fb fc:EF}
theorem Vj {qf:CmpOp}{r':R2}{g':aA->aA->aaf}(ho:OpR X (gR op) r)(j2:OpR X (gR qf) r')(hg:je X.K 0 r g)(hg':je X.K 0 r' g')(ha:DE X a fa)(hb:DE X b fb)(hc:DE X c fc)
  (hm:lastMarks [op,qf] [b,c]=ag:=by with_unfolding_all rfl):DT X (.Compare a [op,qf] [b,c] pos) (aj (xC g g' fa fb fc)):=PT.imp (Ws ho j2 ha hb hc hm) λσ H Q gh=>by
 obtain⟨P,Y,t,hP,rs,ef,k⟩:=gh;obtain⟨d,e1,ef⟩:=ao ef;cases qZ ef;exact Ww hg hg' σ H _ ⟨P,Y,_,hP,rs,e1,eI λv H1 x1 r1=>⟨t,Aao.1 r1,k H1 x1⟩⟩
noncomputable def pK:aA->aA->aaf
 |.list xs,.list ys=>if xs.length+ys.length<=sizeLine then aa (.list (xs++ys)) else ab
 |_,_=>ab
theorem Mh:OpR X (kW .Add) (λx y H Q=>∃ l b xs zs,x=.ref l/\y=.ref b/\SqL X.K H l xs/\SqL X.K H b zs/\xs.length+zs.length<=sizeLine/\∀ p,H p=ab->Q (.ref p) (upd H p (.lst (xs++zs)))):=by
 rw[1];obtain⟨l,b,xs,zs,rfl,rfl,hH,hB,hz,q⟩:=h;cases rx;cases ry;obtain⟨its,r,p1,z1⟩:=I.list hH;obtain⟨gi,r2,p2,z2⟩:=I.list hB;have l1:=r.length;have l2:=r2.length;obtain⟨⟨cls,dd,data,sl⟩,ho,hc,n,hd⟩:=p1.isList;obtain⟨⟨tm,ph,data2,rq⟩,nq,j8,n2,f7⟩:=p2.isList;simp only at hc hd j8 f7;subst hc hd j8 f7;refine LL ⟨_,ho,rfl⟩ ⟨_,nq,rfl⟩ noFill_list_add seq_list_add PySem.F.slot_list_add PySem.F.entry_list_add (PySem.F.args_list_add_2 _ _) (list_addW l b its.toArray gi.toArray n n2 dd ph sl rq (by simp only[fR];lia)) ⟨ho,nq,?_⟩
 have ea:its.toArray++gi.toArray=(its++gi).toArray:=by simp
 rw[ea];exact⟨.ref _,_,I.lnew (r.append r2) (by rw[wC];lia),rfl,q _ I.fresh⟩
theorem ZX (ha:DE X a fa)(hb:DE X b fb):DF 1 X (.BinOp a .Add b pos) (ah pK fa fb):=pA Mh (λP H x y a b d Q hP ra rb e k=>by
 unfold pK at e;split at e
 .obtain⟨hz,rfl⟩:=cX e;obtain⟨p,xs,rfl,hp,r1⟩:=Abp.1 ra;obtain⟨q,ys,rfl,hq,r2⟩:=Abp.1 rb;exact⟨p,q,xs,ys,rfl,rfl,Aau.sqL hp,Aau.sqL hq,by rw[r1.length,r2.length];exact hz,λl hl=>k.lst hP hl (r1.append r2)⟩
 .cases e) ha hb
end
variable {a:aS}{f fa fb:EF}
def NZ (K:aM):R2:=λx y H Q=>∃ a b ys,x=.ref a/\y=.ref b/\SqT K H a []/\SqT K H b ys/\Q (.ref b) H
theorem Ob:OpR X (kW .Add) (NZ X.K):=by
 rw[1];obtain⟨a,b,ys,rfl,rfl,ha,hb,q⟩:=h;cases rx;cases ry;obtain⟨its,r1,p1,_⟩:=I.tuple ha;obtain⟨gi,r2,p2,_⟩:=I.tuple hb;cases r1;obtain⟨⟨cls,dd,data,sl⟩,ho,hc,n,hd⟩:=p1;obtain⟨⟨tm,ph,data2,rq⟩,nq,j8,n2,f7⟩:=p2;simp only at hc hd j8 f7;subst hc hd j8 f7;exact LL ⟨_,ho,rfl⟩ ⟨_,nq,rfl⟩ Bp seq_tuple_add Bx Ca (Cb _ _)
  (tuple_addW0 a b _ _ n n2 dd ph sl rq rfl) ⟨ho,nq,⟨.ref b,H,I,rfl,q⟩⟩
noncomputable def zK:aA->aA->aaf
 |.tuple xs,.tuple ys=>if xs.length+ys.length<=sizeLine then aa (.tuple (xs++ys)) else ab
 |_,_=>ab
theorem Vo:je K 0 (λx y H Q=>FM K x y H Q\/NZ K x y H Q) zK:=λP H x y a b d Q hP ra rb e k=>by
 unfold zK at e;split at e
 .rename_i zs ys;obtain⟨hc,rfl⟩:=cX e;obtain⟨p,us,rfl,hp,r1⟩:=Aan.1 ra;obtain⟨q,ws,rfl,hq,r2⟩:=Aan.1 rb;have l1:=r1.length;have l2:=r2.length;cases zs with
  |nil=>
   have eu:us=[]:=by simpa using l1
   subst eu;exact .inr ⟨p,q,ws,rfl,rfl,SqT.of (Aau _ _ hp),SqT.of (Aau _ _ hq),k.zero Ext.refl rb⟩
  |cons z zs=>
   refine .inl ⟨p,q,us,ws,rfl,rfl,SqT.of (Aau _ _ hp),SqT.of (Aau _ _ hq),λz=>by rw[z] at l1;simp at l1,by rw[l1,l2];exact hc,λz=>?_,λz r hr=>?_⟩
   .subst z;have:ys=[]:=by simpa using l2.symm
    subst this;refine k.zero Ext.refl ?_
    grind
   .exact k.tup hP hr (r1.append r2)
 .cases e
theorem Nl (ha:DE X a fa)(hb:DE X b fb):DE X (.BinOp a .Add b pos) (ah zK fa fb):=pA (A1b.or Ob) Vo ha hb
def AO:aae->aaf
 |[.int i,.int j]=>aa (.int (if j > i then j else i))
 |_=>ab
def AQ:aae->aaf
 |[.int i,.int j]=>aa (.int (if j<i then j else i))
 |_=>ab
theorem Qd:CallD K 0 (λxs H Q=>∃ i j,xs=[.int i,.int j]/\Q (.int (if j > i then j else i)) H) AO:=λP H xs ds d Q hP r e k=>by
 unfold AO at e;split at e
 .cases e;obtain⟨v,t,rfl,h1,h2⟩:=Aag.1 r;obtain⟨v',rfl,h3⟩:=gQ h2;rw[Aak.1 h1,Aak.1 h3];exact⟨_,_,rfl,k.zero Ext.refl (Aak.2 rfl)⟩
 .cases e
theorem Yp:CallD K 0 (λxs H Q=>∃ i j,xs=[.int i,.int j]/\Q (.int (if j<i then j else i)) H) AQ:=λP H xs ds d Q hP r e k=>by
 unfold AQ at e;split at e
 .cases e;obtain⟨v,t,rfl,h1,h2⟩:=Aag.1 r;obtain⟨v',rfl,h3⟩:=gQ h2;rw[Aak.1 h1,Aak.1 h3];exact⟨_,_,rfl,k.zero Ext.refl (Aak.2 rfl)⟩
 .cases e
end L2
namespace L2
open PySem PySem.Spec PyProof.Rows
variable {t:BF}{sl:Array aao}{us ak:Array aF}{Q E:aF->aK->Prop}{ds kds:am}{l a i1 i2:aC}{h h':aY}{d:aA}{es:List aS}{ep j k c n i m N n0:Nat}{s:aK}{e o:aS}{R:tR->aK->Prop}{P prog:bW}{w:bG}{x y z:aD}{b b1 b2:Bool}{xs ys:aag}{fp:Nat->aaj}{K:aM}{ta:TA}{v:V}{fa:AF}{H H' H0 B0:Hp}{p1 p2 gx pos px j7 br ax py lx:bH}{f g:EF}{T:String}{p:Array Nat}{vs:aal}{kvs:aab}{kss:ld}{X:Cx}{P0:aC->Prop}{ac:dl}{Y:aQ}{F o1 o2:aaj}{A:cP}{ps:aan}{S1 S2:Nat->aY->Prop}
theorem Tz {t sl:aC}{vl vu:aF}{lo hi:aap}(ht:IsTup s.heap t us)(hs:s.heap.IsSliceOf sl vl vu .none)(pl:pV vl lo)(pu:pV vu hi)
  (hw:HT.sIx us.size 0 lo=0/\HT.sIx us.size us.size hi=us.size) (h:Q (.ref t) s):aP (aW P w) A (pM (.ref t) (.ref sl)) Q E s:=by
 obtain⟨os,e1,e2,e3⟩:=id hs;have ty:s.TypeIs (.ref sl) "slice":=⟨os,e1,e2⟩;unfold pM
 try with_reducible refine kH ?_
 first|refine aI (aZ ?_)|skip
 refine aI (wpAny_sequenceKey ht.typeIs nofun (aI (nZ ht.typeIs LH (jR LH ht.typeIs entry_tuple_getitem ?_ (args_tuple_getitem _ _)))))
 show aP _ _ (Df (.ref t)>>=_) _ _ s;refine aI (tupleItemsOf_ ht (aI (nW ty ?_)));rw[if_pos nofun]
 refine aI (HT.Agm hs pl pu ?_);have ue:(((HT.sIx us.size 0 lo:Nat):Int)==0&&(1:Int)==1&&(HT.sIx us.size us.size hi-HT.sIx us.size 0 lo)==us.size)=af:=by
  rw[hw.1,hw.2];simp
 show aP _ _ (if (((HT.sIx us.size 0 lo:Nat):Int)==0&&(1:Int)==1&&(HT.sIx us.size us.size hi-HT.sIx us.size 0 lo)==us.size)=af then _ else _) _ _ s
 rw[if_pos ue];unfold Builtin.Tuple.tupleIsExact;refine aI (aI (nW ht.typeIs (aZ ?_)));rw[if_pos nofun]
 exact aI (rK (aZ ⟨_,rfl,aZ h⟩))
def Eb (K:aM):V->aap->aap->Hp->VK->Prop:=λx lo hi H Q=>∃ a xs,x=.ref a/\SqT K H a xs/\(HT.sIx xs.length 0 lo=0/\HT.sIx xs.length xs.length hi=xs.length)/\Q (.ref a) H
theorem A4g:SlR X (Eb X.K):=by
 intro ac s σ H x v vl vu lo hi sl Q I rx hs pl pu h;obtain⟨a,xs,rfl,hx,hw,q⟩:=h;cases rx;obtain⟨its,r,ht,hz⟩:=I.tuple hx;have au:its.toArray.size=xs.length:=by rw[fR];exact r.length.symm
 exact⟨"tuple",_,LH.lookup,ht.typeIs,Tz ht hs pl pu (by rw[au];exact hw) ⟨.ref a,H,I,rfl,q⟩⟩
def wQ (f:EF)(lo hi:OF):EF:=λY=>(f Y).bind λd=>(lo Y).bind λl=>(hi Y).bind λh=>match d with
 |.tuple ds=>aa (.tuple (cutD ds l h))
 |_=>ab
theorem Re {ds:aae}{l h:aap}(hw:HT.sIx ds.length 0 l=0/\HT.sIx ds.length ds.length h=ds.length):cutD ds l h=ds:=by
 unfold cutD;rw[hw.1,hw.2];simp
theorem Iq {lo hi:Option aS}{fl fh:OF}{pp:bH}(he:DE X e f)(hl:DO X lo fl)(hh:DO X hi fh):DE X (.Subscript e (.Slice lo hi ab pp) pos) (wQ f fl fh):=PE.imp (RW (A4g.or Ht) he hl hh) λσ H Q gh=>by
 rw[2];obtain⟨d1,e1,cm⟩:=ao ef;obtain⟨l,e2,cv⟩:=ao cm;obtain⟨h,e3,gs⟩:=ao cv;clear ef cm cv;cases d1 with
 |tuple ds=>
  cases gs;refine⟨P,Y,_,hP,rs,e1,eI λv H1 x1 r1=>⟨P,Y,l,hP.ext x1,rs.ext (dD x1),e2,λH2 x2=>⟨P,Y,h,hP.ext (x1.trans x2),rs.ext (dD (x1.trans x2)),e3,λH3 x3=>?_⟩⟩⟩
  have r3:=r1.ext (dD (x2.trans x3));obtain⟨q,ys,rfl,hq,rr⟩:=Aan.1 r3;by_cases hw:HT.sIx ds.length 0 l=0/\HT.sIx ds.length ds.length h=ds.length
  .rw[Re hw] at k;exact .inl ⟨q,ys,rfl,SqT.of (Aau _ _ hq),by rw[rr.length];exact hw,(k.mono ((x1.trans x2).trans x3)).zero Ext.refl r3⟩
  .refine .inr ⟨q,ys,rfl,SqT.of (Aau _ _ hq),by rw[rr.length];exact hw,λp hp=>(k.mono ((x1.trans x2).trans x3)).tup (hP.ext ((x1.trans x2).trans x3)) hp ?_⟩
   unfold rF cutD;rw[rr.length];exact(rr.drop _).take _
 |_=>cases gs
def Avj (h:aY)(d:aC)(es:Array pZ)(ep:Nat):Prop:=∃ o,h.get? d=aa o/\o.ExactDict/\o.data=.dict es ep
theorem Avj.keep{d:aC}{es:Array pZ}(x:Avj h d es ep)(k:∀ o,h.get? d=aa o->h'.get? d=aa o):Avj h' d es ep:=
 let ⟨o,e,r⟩:=x;⟨o,k o e,r⟩
theorem Avj.ty{d:aC}{es:Array pZ}(x:Avj s.heap d es ep):s.TypeIs (.ref d) "dict":=let ⟨o,e,c,_⟩:=x;⟨o,e,c.1⟩
section
variable {d it:aC}{es:Array pZ}
theorem We(nm:(d==iD)=ag)(R:Avj s.heap d es ep)
  (q:Q (.ref s.heap.objs.size) { s with heap:=s.heap.push { cls:=.type "dict_keyiterator",data:=.fields #[.ref d,.int 0 0,.int es.size 0,.int ep 0] } }):aP (aW prog w) A (pyIter (.ref d)) Q E s:=by
 have ty:=R.ty;obtain⟨o,eo,_,ed⟩:=R;refine wpAny_pyIter_slot ty F.slot_dict_iter (jR F.slot_dict_iter ty F.entry_dict_iter
  ?_ (F.args_dict_iter_1 _))
 unfold Builtin.«dict.__iter__»;refine aI ?_;unfold Builtin.Dict.dictSlotNone;refine aI (Bl ty ?_);refine aZ ?_;show aP _ _ (Builtin.Dict.showsAll d>>=_) _ _ s;unfold Builtin.Dict.showsAll;rw[if_neg (show ¬ (d==iD)=af by rw[nm];exact oW)]
 refine aI (aZ ?_);refine aI (Bn eo ed ?_);refine aI (wpAny_dictEpoch eo ed ?_);refine aI (nY (aZ ⟨_,rfl,"dict_keyiterator",_,
  ⟨_,dZ _ rfl,rfl⟩,ET.lookup,?_⟩))
 simpa [jA] using q
theorem Xh {e:pZ}{Q:aao->aK->Prop}(K:s.heap.IsKeyIter it d i es.size ep)(R:Avj s.heap d es ep)(x:es[i]?=aa e)
  (q:∀ h',h'.IsKeyIter it d (i+1) es.size ep->wJ it s.heap h'->Q (aa e.key) { s with heap:=h' }):aP (aW prog w) A (jJ (.ref it)) Q E s:=by
 obtain⟨oi,ei,ci,di⟩:=id K;obtain⟨o,eo,_,ed⟩:=R;unfold jJ;refine aI (tP (nZ K.typeIs
  ET (jR ET K.typeIs
   d8 ?_ (d9 _))))
 refine aI (aZ ?_);refine aI ?_;refine aI ?_
 first
  |refine aI (KZ K.typeIs (aZ ?_))
  |refine aI (KY K.typeIs (aZ ?_))
 refine aI (wpAny_fieldsOf ei di ?_);have own:Builtin.Dict_items.ownsTuple "dict_keyiterator" = ag:=by decide
 simp only[own,qA,if_false];show aP _ _ (if (gN d==gS)=af then _ else _) _ _ s
 rw[if_neg (show ¬ (gN d==gS)=af from oW)]
 refine aI (aZ ?_);refine aI (Bn eo ed ?_);rw[if_neg (by simp)]
 refine aI (aZ ?_);refine aI (wpAny_dictEpoch eo ed ?_);rw[if_neg (by simp)]
 refine aZ ?_;simp only[show ¬ ((i:Int)<0) from by lia,if_false,MK,x]
 refine aI ?_
 first
  |refine aI (KZ K.typeIs (aZ ?_))
  |refine aI (KY K.typeIs (aZ ?_))
 refine aI (wpAny_isOneOf_keyiter K.typeIs ?_);show aP _ _ (setField (.ref it) 1 (jA ((i:Int)+1))>>=_) _ _ s;refine aI (LA ei di (by simp) ?_)
 have K':(s.heap.update it (Obj.mapFields (·.setIfInBounds 1 (jA ((i:Int)+1))))).IsKeyIter it d (i+1) es.size ep:=
  ⟨_,ML _ ei (Obj.isFreed_of_fields (LY di _)),(Obj.cls_mapFields ..).trans ci,by
   rw[LY di];simp[jA]⟩
 refine aI (kH ?_);refine aI (wpAny_isOneOf_keyiter
  K'.typeIs ?_)
 exact aZ (aZ ⟨_,rfl,aZ (q _ K' (AB ..))⟩)
theorem Mf {Q:aao->aK->Prop}(hh:A.handled=ab)(K:s.heap.IsKeyIter it d i es.size ep)(R:Avj s.heap d es ep)(x:es.size<=i)
  (q:∀ h',ES it s.heap h'->Q ab { s with heap:=h' }):aP (aW prog w) A (jJ (.ref it)) Q E s:=by
 obtain⟨oi,ei,ci,di⟩:=id K;obtain⟨o,eo,_,ed⟩:=R;unfold jJ;refine aI (tP (nZ K.typeIs
  ET (jR ET K.typeIs
   d8 ?_ (d9 _))))
 refine aI (aZ ?_);refine aI ?_;refine aI ?_
 first
  |refine aI (KZ K.typeIs (aZ ?_))
  |refine aI (KY K.typeIs (aZ ?_))
 refine aI (wpAny_fieldsOf ei di ?_);have own:Builtin.Dict_items.ownsTuple "dict_keyiterator" = ag:=by decide
 simp only[own,qA,if_false];show aP _ _ (if (gN d==gS)=af then _ else _) _ _ s
 rw[if_neg (show ¬ (gN d==gS)=af from oW)]
 refine aI (aZ ?_);refine aI (Bn eo ed ?_);rw[if_neg (by simp)]
 refine aI (aZ ?_);refine aI (wpAny_dictEpoch eo ed ?_);rw[if_neg (by simp)]
 refine aZ ?_;simp only[show ¬ ((i:Int)<0) from by lia,if_false,MK,Array.getElem?_eq_none x]
 refine aI ?_
 first
  |refine aI (KZ K.typeIs (aZ ?_))
  |refine aI (KY K.typeIs (aZ ?_))
 show aP _ _ (setField (.ref it) 0 .none>>=_) _ _ s;refine aI (LA ei di (by simp) ?_)
 refine aI ?_;simp only[newExc,newTuple];refine aI (nY ?_ (by size_fits))
 refine aI (wpAny_of_eq
  (by first|rfl|(simp only[firstArgMember];rfl)) ?_)
 refine nY ?_ (by size_fits)
 simp only[raiseNew];refine aI (wpAny_handled ?_);rw[show A.in1.handled=ab from hh]
 refine aI (aZ (wpAny_throw ?_));refine aI (zO
  ⟨_,dZ _ rfl,rfl⟩ LK ?_)
 exact aZ (q _ (((AB ..).extBut.push _).push _))
theorem On (hh:A.handled=ab)(I d:aC)(ne:d≠I)(es:Array pZ)(ep:Nat) :
  Walks prog w A I [I,d] [I] es.size (λi v=>∃ e,es[i]?=aa e/\v=e.key) (λi h=>h.IsKeyIter I d i es.size ep/\Avj h d es ep) where
 sub:=λb hb=>by simp at hb;simp[hb]
 frame:=λ_ _ _ st hk=>⟨st.1.at λo e=>hk I (by simp) o e,st.2.keep λo e=>hk d (by simp) o e⟩
 item:=λi s Q E hi st hQ=>by
  have hx:=Array.getElem?_eq_getElem hi;refine Xh st.1 st.2 hx λh' K' hs=>?_
  exact hQ _ h' s.toks ⟨_,hx,rfl⟩ ⟨K',st.2.keep λo e=>hs.extBut d o ne e⟩ λb o hb e=>hs.extBut b o (λh=>hb (by simp[h])) e
 done:=λs Q E st hQ=>Mf hh st.1 st.2 (bS _) λh' he=>hQ h' s.toks λb o hb e=>he b o (λh=>hb (by simp[h])) e
 self:=λ_ _ _ _ st hQ=>wpAny_pyIter_keyiter st.1 hQ
theorem Tr:vP (.type "dict") "__len__" = pure (aa (.builtin "dict.__len__")):=by rw[LF,LN];kernel_rfl
theorem Ql(hh:A.handled=ab)(nm:(d==iD)=ag)(D:Avj s.heap d es ep)(S:aC)(res:aF)(c₀:Nat)(xt:S≠d)
  (hS:s.heap.get? S=aa { cls:=.type "list",data:=.seq #[] c₀ }) (hn:es.size<=sizeLine)
  (q:∀ h' tk aq c',(∀ b o,b≠S->s.heap.get? b=aa o->h'.get? b=aa o)->h'.get? S=aa { cls:=.type "list",dict:=ab,data:=.seq aq c',slots:=#[] } ->
   wI (λi v=>∃ e,es[i]?=aa e/\v=e.key) aq es.size->R (.ok (.ret res)) { s with heap:=h',toks:=tk }) :
  aP (aW prog w) A.in1 (EU (.ref S) (.ref d) res)
   (λfin s'=>match fin with|.done f=>R (.ok f) s'|.again c'=>c'.quiet=af/\oR (aW prog w) A c' R s') (λe s'=>R (.error e) s') s:=by
 have ty:=D.ty;unfold EU;refine aI (nW ty ?_);have h1:Dj (.ref S) (.ref d)=ag:=by
  simp[Dj,xt]
 have h2:(kX "dict" == kX "list")=ag:=by decide
 have h3:(kX "dict" == kX "tuple")=ag:=by decide
 simp only[h1,h2,h3,Bool.or_false,qA,if_false];refine aI (We nm D ?_);refine aI (kH ?_);have gy:d<s.heap.objs.size:=by obtain⟨o,e,_⟩:=D;exact bX e
 have A8:S<s.heap.objs.size:=bX hS;have kh:∀ b o,s.heap.get? b=aa o->(s.heap.push { cls:=.type "dict_keyiterator",data:=.fields #[.ref d,.int 0 0,.int es.size 0,.int ep 0] }).get? b=aa o:=λb o e=>cF _ e
 have D':Avj (s.heap.push { cls:=.type "dict_keyiterator",data:=.fields #[.ref d,.int 0 0,.int es.size 0,.int ep 0] }) d es ep:=D.keep λo e=>kh d o e
 have A9:(s.heap.push { cls:=.type "dict_keyiterator",data:=.fields #[.ref d,.int 0 0,.int es.size 0,.int ep 0] }).IsKeyIter s.heap.objs.size d 0 es.size ep:=⟨_,dZ _ rfl,rfl,rfl⟩;unfold Builtin.List.listLengthHint;refine aI (DU (T:="dict") (v:=.ref d) (by obtain⟨o,e,c,_⟩:=D';exact⟨o,e,c.1⟩) Tr ?_)
 wp_delta
 refine aI (zO (T:="dict") (v:=.ref d) (b:=af) (by obtain⟨o,e,c,_⟩:=D';exact⟨o,e,c.1⟩) (by rw[isSubtype_type];kernel_rfl) ?_)
 show aP _ _ (typeOf (gN d)>>=_) _ _ _;refine aI (nW (T:="dict") (v:=.ref d) (by obtain⟨o,e,c,_⟩:=D';exact⟨o,e,c.1⟩) ?_)
 refine aZ ?_;rw[if_pos nofun]
 refine aI (rK ?_);refine aI ?_;have S1:=kh _ _ hS;generalize(s.heap.push { cls:=.type "dict_keyiterator",data:=.fields #[.ref d,.int 0 0,.int es.size 0,.int ep 0] })=G at kh D' S1 A9 ⊢;show aP _ _ (updateSeq S (·.push .none)>>=λ_=>updateSeq S (·.pop)) _ _ _
 refine aI (wpAny_updateSeq S1 rfl ?_);have S2:=ML (jL (·.push gS)) S1 rfl;refine wpAny_updateSeq (hz:=by seq_fits) S2 rfl ?_
 have S3:=ML (jL (·.pop)) S2 rfl;have jb:∀ b o,b≠S->G.get? b=aa o->((G.update S (jL (·.push gS))).update S (jL (·.pop))).get? b=aa o:=λb o hb e=>
  (Cz _ _ (kY hb)).trans ((Cz _ _ (kY hb)).trans e)
 have j':d≠s.heap.objs.size:=fH gy;have J7:S∉[s.heap.objs.size,d]:=λhm=>by
  rcases dJ.1 hm with z|z
  .exact absurd A8 (by rw[z];exact mE _)
  .exact xt (fN.1 z)
 refine aZ ⟨zP F.plain_extend_loop _,codeAny_extend_loopS (On (A:=A.in1) hh s.heap.objs.size d j' es ep).toS hn _ J7 _ es.size 0 _ _ _ rfl (fY _)
  ⟨A9.at λo e=>jb _ o (lQ A8) e,D'.keep λo e=>jb _ o (kY xt) e⟩ S3 (ItemsOf.nil _) λs' aq c' hm ou ee=>?_⟩
 rw[Moved.eq_with hm];refine q s'.heap s'.toks aq c' (λb ob hb e=>hm.heap b ob (λhmem=>?_) (jb b ob hb (kh _ _ e))) ou ee
 rcases dJ.1 hmem with z|hmem
 .exact hb z
 .exact absurd (bX e) (by rw[fN.1 hmem];exact mE _)
theorem Rz {Q:aal->aK->Prop}(hh:A.handled=ab)(nm:(d==iD)=ag)(D:Avj s.heap d es ep)(hn:es.size<=sizeLine)
  (q:∀ s' aq,(∀ b o,s.heap.get? b=aa o->s'.heap.get? b=aa o)->s'.gens=s.gens->s'.drawn=s.drawn->s'.os=s.os->wI (λi v=>∃ e,es[i]?=aa e/\v=e.key) aq es.size->Q aq.toList s') :
  aP (aW prog w) A (collect (.ref d)) Q E s:=by
 have gy:d<s.heap.objs.size:=by obtain⟨o,e,_⟩:=D;exact bX e
 unfold collect;refine aI (wpAny_runValue (tQ F.entry_proto_collect ?_));rw[AJ F.plain_proto_collect _];refine aI (nY ?_);refine aZ ⟨zP F.plain_list_iadd _,tQ F.entry_list_iadd ?_⟩;rw[AJ F.plain_list_iadd _];have fin:∀ (r:tR) (s':aK),(r=.ok (.ret (.ref s.heap.objs.size))/\∃ h' tk aq c',s'={ s with heap:=h',toks:=tk }/\(∀ b o,b≠s.heap.objs.size->(s.heap.push { cls:=.type "list",data:=.seq ([]:aal).toArray }).get? b=aa o->h'.get? b=aa o) /\
   h'.get? s.heap.objs.size=aa { cls:=.type "list",dict:=ab,data:=.seq aq c',slots:=#[] }/\wI (λi v=>∃ e,es[i]?=aa e/\v=e.key) aq es.size) ->
   (match r with
    | .ok (.ret v)=>aP (aW prog w) A (match v with
      |.ref a=>do
       let o <-load a
       match o.data with
        |.seq xs _=>pure xs.toList
        |_=>unsupported "internal:collect"
      | _=>unsupported "internal:collect") Q E s'
    |.ok _=>False
    | .error e=>E e s'):=by
  rintro r s' ⟨rfl,h',tk,aq,c',rfl,hk,ou,ee⟩;refine aI (wpAny_load ou ?_);exact aZ (q { s with heap:=h',toks:=tk } aq (λb o e=>hk b o (fH (bX e)) (cF _ e)) rfl rfl rfl ee)
 refine lP (Ql
  (R:=λr s'=>r=.ok (.ret (.ref s.heap.objs.size))/\∃ h' tk aq c',s'={ s with heap:=h',toks:=tk }/\(∀ b o,b≠s.heap.objs.size->(s.heap.push { cls:=.type "list",data:=.seq ([]:aal).toArray }).get? b=aa o->h'.get? b=aa o) /\
   h'.get? s.heap.objs.size=aa { cls:=.type "list",dict:=ab,data:=.seq aq c',slots:=#[] }/\wI (λi v=>∃ e,es[i]?=aa e/\v=e.key) aq es.size)
  hh nm (D.keep λo e=>cF _ e) s.heap.objs.size _ 0 (lQ gy) (dZ _ rfl) hn λh' tk aq c' hk ou ee=>⟨rfl,h',tk,aq,c',rfl,hk,ou,ee⟩) (λf s' hf=>?_) λe s' hf=>absurd hf.1 (by intro z;cases z)
 cases f with
 |done f=>exact fin _ s' hf
 |again c=>exact⟨hf.1,LM hf.2 λr s2 h2=>fin r s2 h2⟩
theorem Ue (nm:(d==iD)=ag)(hn:es.size<=sizeLine):Meets (Builtin.«tuple.__new__» ⟨[.type "tuple",.ref d],[]⟩)
   (λA R s=>A.handled=ab/\Avj s.heap d es ep/\∀ (s':aK) (aq:Array aF),(∀ b o,s.heap.get? b=aa o->s'.heap.get? b=aa o)->s'.gens=s.gens->s'.drawn=s.drawn->s'.os=s.os->wI (λi v=>∃ e,es[i]?=aa e/\v=e.key) aq es.size ->
    R (.ok (.ret (.ref s'.heap.objs.size))) { s' with heap:=s'.heap.push { cls:=.type "tuple",data:=.seq aq } }):=
 .of_wp λprog w A R s h=>by
  obtain⟨hh,D,h⟩:=h;have gk:=sub_tuple_self;have BT:=init_tuple_lookup;have hmh:=madeHere_tuple;have ty:=D.ty;have tw:A.in1.handled=ab:=hh
  wp_walk using nW ty,Rz tw nm D hn
  intro s' aq hk hg hd ol ee;show aP _ _ (AG aq.toList.toArray>>=λv=>ret v) _ _ _
  unfold AG;refine aI (nY ?_ (show aq.toList.toArray.size<=sizeLine by
   simp only[Array.toArray_toList];rw[ee.1];exact hn))
  refine aZ ⟨_,rfl,?_⟩;have e:aq.toList.toArray=aq:=by simp
  rw[e];exact h s' aq hk hg hd ol ee
theorem Pc(hh:A.handled=ab)(nm:(d==iD)=ag)(D:Avj s.heap d es ep)(hn:es.size<=sizeLine)
  (q:∀ (h':aY) (tk:Nat) (aq:Array aF),(∀ b o,s.heap.get? b=aa o->h'.get? b=aa o)->wI (λi v=>∃ e,es[i]?=aa e/\v=e.key) aq es.size ->
   Q (.ref h'.objs.size) { s with heap:=h'.push { cls:=.type "tuple",data:=.seq aq },toks:=tk }):aP (aW prog w) A (call (.type "tuple") [.ref d]) Q E s:=by
 refine callType_new F.called_tuple nofun (F.typeCall_tuple_1 _) (F.newCall_tuple_1 _)
  (λobj=>F.args_object_init_2 obj _) F.entry_tuple_new (Ue nm hn) ⟨hh,D,λs' aq hk hg hd ol ee=>⟨⟨_,dZ _ rfl,rfl⟩,?_⟩⟩
 obtain⟨h',g',d',l8,vt⟩:=s';have e1:=hg;have e2:=hd;have e3:=ol;subst e1 e2 e3;exact q h' l8 aq hk ee
end
section
variable {σ:St}
theorem Pi {es:Array pZ}{aq:Array aF}(h:wI (λi v=>∃ e,es[i]?=aa e/\v=e.key) aq es.size):aq.toList=es.toList.map (·.key):=by
 obtain⟨h1,h2⟩:=h;apply Cs
 grind
theorem Wz {H:Hp}:∀ {kvs:ce} {ys:List (List aA×aC×aF)},gJ (λp q=>p.1=q.1/\Apc H p.1 q.2.1/\RelV p.2 q.2.2) kvs ys->gJ (λ(p:List aA×V) (b:aC)=>Apc H p.1 b) kvs (ys.map λy=>y.2.1):=by
 intro kvs ys h;induction h with
 |nil=>exact .nil
 |cons h _ ih=>exact .cons h.2.1 ih
theorem UE:∀ (ys:List (List aA×aC×aF)),Vals ((ys.map λy=>y.2.1).map V.ref) ((ys.map (entryOfKey (qW P w))).map (·.key))
 |[]=>.nil
 |_::t=>.cons rfl (UE t)
theorem Sy (hc:X.calm=af):Adn X (.type "tuple") (λxs H Q=>∃ a ep kvs,xs=[.ref a]/\H a=aa (.dT ep kvs)/\∀ l as,H l=ab->gJ (λ(p:List aA×V) (b:aC)=>Apc H p.1 b) kvs as->Q (.ref l) (upd H l (.tup (as.map V.ref)))):=by
 rw[3];obtain⟨a,ep,kvs,rfl,ha,q⟩:=h;obtain⟨u,rfl,ru⟩:=vals1 r;cases ru;obtain⟨z,nm,ys,kt,o,es,e1,e2,e3,e4,_⟩:=(show Ac5 X.prog X.w H s.heap a (.dT ep kvs) from I.hok a _ ha)
 have el:es.size=kvs.length:=by
  have:=congrArg List.length e4;rw[fA,<-oC kt] at this;simpa using this
 have hp:=Wz kt;have rv:Vals ((ys.map λy=>y.2.1).map V.ref) (es.toList.map (·.key)):=by
  rw[e4];exact UE ys
 refine Pc (I.ok.hd hc) nm ⟨o,e1,e2,e3⟩ () λh' tk aq hk ee=>?_
 have ea:=Pi ee;rw[<-ea] at rv;have I1:Inv X ac σ H { s with heap:=h',toks:=tk }:=I.kept hk;exact⟨.ref h'.objs.size,_,I1.laid (λb o e=>cF _ e) (bS _) (show Ac5 X.prog X.w _ _ _ (.tup _) from⟨by rw[fA,fA,<-oC kt];exact z,aq.toList,rv,A4z.new _ _⟩),rfl,q _ _ I1.fresh hp⟩
end
open PySem
structure Sub (P:bW)(w:bG)(it:aC)(own:List aC)(St:Nat->aY->Prop)(xs:Array aF):Prop where
 mem:it∈own
 obj:∀ k h,St k h->∀ c∈own,∃ o,h.get? c=aa o
 keep:∀ k h h',St k h->(∀ c∈own,∀ o,h.get? c=aa o->h'.get? c=aa o)->St k h'
 item:∀ (A:cP) (E:aF->aK->Prop) (s:aK) (Q:aF->aK->Prop) (k:Nat) (x:aF),St k s.heap->xs[k]?=aa x ->
  (∀ h',St (k+1) h'->wJ it s.heap h'->Q x { s with heap:=h' })->aP (aW P w) A (AI (.ref it)) Q E s
 done:∀ (A:cP) (E:aF->aK->Prop) (s:aK) (Q:aF->aK->Prop) (k:Nat),A.handled=ab->St k s.heap->xs[k]?=ab ->
  (∀ h' e,ES it s.heap h'->(∃ o,h'.get? e=aa o/\o.cls=.type "StopIteration")->E (.ref e) { s with heap:=h' })->aP (aW P w) A (AI (.ref it)) Q E s
section
theorem Xm {j t:aC}{u:aF}(hj:s.heap.IsTupleIter j t k)(ht:s.heap.IsTuple t us)(hu:us[k]?=aa u)
  (q:∀ h',h'.IsTupleIter j t (k+1)->wJ j s.heap h'->Q u { s with heap:=h' }):aP (aW P w) A (AI (.ref j)) Q E s:=by
 obtain⟨oj,g1,g2,g3⟩:=id hj;obtain⟨ot,t1,_,nt,t2⟩:=ht;unfold AI;refine aI (nZ hj.typeIs MM (jR MM hj.typeIs F.entry_tuple_iterator_next ?_ (F.args_tuple_iterator_next_1 _)));show aP _ _ (pO (.ref j) 0>>=_) _ _ s;refine aI (gG g1 g3 (x:=.ref t) rfl ?_);have ne:¬ (gN t==gS)=af:=oW;rw[if_neg ne];refine aI (gG g1 g3 rfl ?_);refine aI (mZ t1 t2 ?_);simp only[MK,hu];refine aI (LA g1 g3 (by simp) (aZ ⟨u,rfl,aZ (q _ ⟨_,ML _ g1 (Obj.isFreed_of_fields (LY g3 _)),(Obj.cls_mapFields ..).trans g2,?_⟩ (AB ..))⟩))
 rw[LY g3];simp[jA]
theorem Ya {j t:aC}(hh:A.handled=ab)(hj:s.heap.IsTupleIter j t k)(ht:s.heap.IsTuple t us)(hu:us[k]?=ab)
  (q:∀ h' e,ES j s.heap h'->(∃ o,h'.get? e=aa o/\o.cls=.type "StopIteration")->E (.ref e) { s with heap:=h' }):aP (aW P w) A (AI (.ref j)) Q E s:=by
 obtain⟨oj,g1,g2,g3⟩:=id hj;obtain⟨ot,t1,_,nt,t2⟩:=ht;unfold AI;refine aI (nZ hj.typeIs MM (jR MM hj.typeIs F.entry_tuple_iterator_next ?_ (F.args_tuple_iterator_next_1 _)));show aP _ _ (pO (.ref j) 0>>=_) _ _ s;refine aI (gG g1 g3 (x:=.ref t) rfl ?_);have ne:¬ (gN t==gS)=af:=oW;rw[if_neg ne];refine aI (gG g1 g3 rfl ?_);refine aI (mZ t1 t2 ?_);simp only[MK,hu];refine aI (rK (aI (LA g1 g3 (by simp) ?_)))
 refine aI ?_;simp only[newExc,newTuple];refine aI (nY ?_ (by size_fits))
 refine aI (wpAny_of_eq (by first|rfl|(simp only[firstArgMember];rfl)) ?_)
 refine nY ?_ (by size_fits)
 simp only[raiseNew];refine aI (wpAny_handled ?_)
 first|rw[show A.in1.handled=ab from hh]|rw[hh]
 refine aI (aZ (wpAny_throw (q _ _ (((AB ..).extBut.push _).push _) ⟨_,dZ _ rfl,rfl⟩)))
theorem Lr (j t:aC)(us:Array aF)(ne:t≠j):Sub P w j [j,t] (λk h=>h.IsTupleIter j t k/\h.IsTuple t us) us where
 mem:=bT
 obj:=λk h ⟨⟨o,e,_⟩,⟨o',e',_⟩⟩ c hc=>by
  grind
 keep:=λk h h' ⟨⟨o,e,r⟩,⟨o',e',r'⟩⟩ kp=>⟨⟨o,kp j bT o e,r⟩,⟨o',kp t (by simp) o' e',r'⟩⟩
 item:=λA E s Q k x ⟨a,b⟩ hx q=>Xm a b hx λh' a' sb=>q h' ⟨a',b.extBut sb.extBut ne⟩ sb
 done:=λA E s Q k hh ⟨a,b⟩ hx q=>Ya hh a b hx q
theorem Vt (j t:aC)(us:Array aF)(ne:t≠j):Sub P w j [j,t] (λk h=>h.IsListIter j t k/\h.IsList t us) us where
 mem:=bT
 obj:=λk h ⟨⟨o,e,_⟩,⟨o',e',_⟩⟩ c hc=>by
  grind
 keep:=λk h h' ⟨⟨o,e,r⟩,⟨o',e',r'⟩⟩ kp=>⟨⟨o,kp j bT o e,r⟩,⟨o',kp t (by simp) o' e',r'⟩⟩
 item:=λA E s Q k x ⟨a,b⟩ hx q=>wpAny_nextOf_list_item a b hx λh' a' sb=>q h' ⟨a',b.extBut sb.extBut ne⟩ sb
 done:=λA E s Q k hh ⟨a,b⟩ hx q=>wpAny_nextOf_list_end hh a b hx q
structure ZApart (z TI TO i1 i2:aC)(o1 o2:List aC):Prop where
 TIz:TI≠z
 TOz:TO≠z
 TITO:TI≠TO
 TI1:TI≠i1
 TI2:TI≠i2
 i12:i1≠i2
 z1:z∉o1
 z2:z∉o2
 TO1:TO∉o1
 TO2:TO∉o2
 x12:i1∉o2
 x21:i2∉o1
variable {z TI TO:aC}{xs ys:Array aF}
def k7 (z TI TO i1 i2:aC)(S1 S2:Nat->aY->Prop)(f0:aF)(k:Nat)(h:aY):Prop:=
 IsZip h z TI TO f0/\mJ h TI (.ref i1) (.ref i2)/\(∃ a b,mJ h TO a b)/\S1 k h/\S2 k h
theorem Sub.but {it c:aC}{own:aaj}{St:Nat->aY->Prop}(U:Sub P w it own St us)(st:St k h)(hc:c∉own)(e:ES c h h'):St k h':=
 U.keep k h h' st λb hb o g=>e b o (λq=>hc (q ▸ hb)) g
theorem Vs {x y:aF}(D:ZApart z TI TO i1 i2 o1 o2)(U:Sub P w i1 o1 S1 xs)(V:Sub P w i2 o2 S2 ys)(st:k7 z TI TO i1 i2 S1 S2 .none k s.heap)(hx:xs[k]?=aa x)(hy:ys[k]?=aa y)
  (q:∀ h',k7 z TI TO i1 i2 S1 S2 (jA s.heap.objs.size) (k+1) h'->mJ h' s.heap.objs.size x y->h'.objs.size=s.heap.objs.size+1 ->
   (∀ c o,c≠z->c≠TO->c≠i1->c≠i2->s.heap.get? c=aa o->h'.get? c=aa o)->Q (.ref s.heap.objs.size) { s with heap:=h' }) :
  aP (aW P w) A (Builtin.«zip.__next__» ⟨[.ref z],[]⟩) (λfin s'=>∃ v,fin=.done (.ret v)/\Q v s') E s:=by
 obtain⟨gz,gI,⟨a,b,gO⟩,jr,j4⟩:=st;have z1:i1≠z:=λe=>D.z1 (e ▸ U.mem)
 have z2:i2≠z:=λe=>D.z2 (e ▸ V.mem)
 have t1:TO≠i1:=λe=>D.TO1 (e ▸ U.mem)
 have t2:TO≠i2:=λe=>D.TO2 (e ▸ V.mem)
 show aP _ _ (pO (.ref z) 2>>=_) _ E s;refine aI (gG gz rfl rfl ?_);refine aI (gG gz rfl rfl (aI (mZ gI rfl ?_)));refine aI ?_;unfold AH;refine aI (gG gz rfl rfl (aZ ?_));simp only[if_true];refine aI (rK (aI (gG gz rfl rfl ?_)));refine aI (nX gz (by simp) λha l9 sa=>?_)
 replace l9:IsZip ha z TI TO .ellipsis:=l9;refine aI ?_;simp only[List.zipIdx_cons,List.zipIdx_nil,EM,MI];refine aI (aI (LB ?_));refine aI (U.item _ _ _ _ k x (U.but jr D.z1 sa.extBut) hx λhb me sb=>aZ ?_)
 have uf:=sb.extBut _ _ t1 (sa.extBut _ _ D.TOz gO);refine aI (mZ uf rfl (aI (Bi uf λhc vx sc=>?_)))
 replace vx:mJ hc TO x b:=vx;refine aI (LC (aZ (aI (aI (LB ?_)))));refine aI (V.item _ _ _ _ k y (V.but (V.but (V.but j4 D.z2 sa.extBut) D.x12 sb.extBut) D.TO2 sc.extBut) hy λhd qp sd=>aZ ?_)
 have B2:=sd.extBut _ _ t2 vx;refine aI (mZ B2 rfl (aI (Bi B2 λhe vy se=>?_)))
 replace vy:mJ he TO x y:=vy;refine aI (LC (aZ (aZ ?_)));refine aI (mZ vy rfl (aI (DX ?_)));have size:he.objs.size=s.heap.objs.size:=by rw[se.1,sd.1,sc.1,sb.1,sa.1]
 have B3:=se.extBut _ _ D.TOz.symm (sd.extBut _ _ z2.symm (sc.extBut _ _ D.TOz.symm (sb.extBut _ _ z1.symm l9)));have dL:∀ c o,c≠z->c≠TO->c≠i1->c≠i2->s.heap.get? c=aa o->he.get? c=aa o:=λc o n1 n2 n3 n4 g=>se.extBut _ _ n2 (sd.extBut _ _ n4 (sc.extBut _ _ n2 (sb.extBut _ _ n3 (sa.extBut _ _ n1 g))))
 have xu:=U.but (U.but (U.but me D.TO1 sc.extBut) D.x21 sd.extBut) D.TO1 se.extBut;have xw:=V.but qp D.TO2 se.extBut;have B4:=bX B3;refine aI ?_;unfold Dg;have J8:IsZip (he.push { cls:=.type "tuple",data:=.seq #[x,y] }) z TI TO .ellipsis:=cF _ B3;refine aI (nX J8 (by simp) λhg xy sg=>?_)
 replace xy:IsZip hg z TI TO (jA he.objs.size):=xy;refine nX xy (by simp) λhi vz si=>?_
 replace vz:IsZip hi z TI TO (jA he.objs.size):=vz;have up:∀ c o,c≠z->he.get? c=aa o->hi.get? c=aa o:=λc o n1 g=>si.extBut _ _ n1 (sg.extBut _ _ n1 (cF _ g))
 have gT:=si.extBut _ _ (lQ B4) (sg.extBut _ _ (lQ B4) (dZ _ rfl));have sz:hi.objs.size=he.objs.size+1:=by rw[si.1,sg.1,pX]
 have xz:=U.keep _ _ _ xu λc hc o g=>up c o (λe=>D.z1 (e ▸ hc)) g
 have xL:=V.keep _ _ _ xw λc hc o g=>up c o (λe=>D.z2 (e ▸ hc)) g
 rw[size] at vz gT sz;refine aZ ⟨_,rfl,?_⟩;rw[size];exact q hi ⟨vz,up _ _ D.TIz (dL _ _ D.TIz D.TITO D.TI1 D.TI2 gI),⟨x,y,up _ _ D.TOz vy⟩,xz,xL⟩ gT sz λc o n1 n2 n3 n4 g=>up c o n1 (dL c o n1 n2 n3 n4 g)
theorem Wx {Q:Fin->aK->Prop}(hh:A.handled=ab)(D:ZApart z TI TO i1 i2 o1 o2)(U:Sub P w i1 o1 S1 xs)(V:Sub P w i2 o2 S2 ys)(st:k7 z TI TO i1 i2 S1 S2 .none k s.heap)(g7:xs[k]?=ab\/ys[k]?=ab)
  (q:∀ h' e,(∀ c o,c≠z->c≠TO->c≠i1->c≠i2->s.heap.get? c=aa o->h'.get? c=aa o)->(∃ o,h'.get? e=aa o/\o.cls=.type "StopIteration")->E (.ref e) { s with heap:=h' }) :
  aP (aW P w) A (Builtin.«zip.__next__» ⟨[.ref z],[]⟩) Q E s:=by
 obtain⟨gz,gI,⟨a,b,gO⟩,jr,j4⟩:=st;have z1:i1≠z:=λe=>D.z1 (e ▸ U.mem)
 have z2:i2≠z:=λe=>D.z2 (e ▸ V.mem)
 have t1:TO≠i1:=λe=>D.TO1 (e ▸ U.mem)
 show aP _ _ (pO (.ref z) 2>>=_) _ E s;refine aI (gG gz rfl rfl ?_);refine aI (gG gz rfl rfl (aI (mZ gI rfl ?_)));refine aI ?_;unfold AH;refine aI (gG gz rfl rfl (aZ ?_));simp only[if_true];refine aI (rK (aI (gG gz rfl rfl ?_)));refine aI (nX gz (by simp) λha l9 sa=>?_)
 replace l9:IsZip ha z TI TO .ellipsis:=l9;refine aI ?_;simp only[List.zipIdx_cons,List.zipIdx_nil,EM,MI];refine aI (aI (LB ?_));have B5:∀ {h':aY} {e:aC},IsZip h' z TI TO .ellipsis->(∃ o,h'.get? e=aa o/\o.cls=.type "StopIteration")->e≠z:=λg ⟨o,g1,g2⟩ n=>by
  subst n;rw[g] at g1;cases g1;simp at g2
 cases hx:xs[k]? with
 |none=>
  refine aI (U.done _ _ _ _ k hh (U.but jr D.z1 sa.extBut) hx λhb e sb he=>?_)
  have B6:=sb _ _ z1.symm l9;have ne:=B5 B6 he;obtain⟨o,g1,g2⟩:=he;exact nX B6 (by simp) λhc _ sc=>q hc e (λc o n1 _ n3 _ g=>sc.extBut _ _ n1 (sb _ _ n3 (sa.extBut _ _ n1 g))) ⟨o,sc.extBut _ _ ne g1,g2⟩
 |some x=>
  have hy:=g7.resolve_left λh=>by rw[hx] at h;cases h
  refine aI (U.item _ _ _ _ k x (U.but jr D.z1 sa.extBut) hx λhb me sb=>aZ ?_)
  have uf:=sb.extBut _ _ t1 (sa.extBut _ _ D.TOz gO);refine aI (mZ uf rfl (aI (Bi uf λhc vx sc=>?_)))
  refine aI (LC (aZ (aI (aI (LB ?_)))));refine aI (V.done _ _ _ _ k hh (V.but (V.but (V.but j4 D.z2 sa.extBut) D.x12 sb.extBut) D.TO2 sc.extBut) hy λhd e sd he=>?_)
  have v4:=sd _ _ z2.symm (sc.extBut _ _ D.TOz.symm (sb.extBut _ _ z1.symm l9));have ne:=B5 v4 he;obtain⟨o,g1,g2⟩:=he;exact nX v4 (by simp) λhf _ sf=>q hf e (λc o n1 n2 n3 n4 g=>sf.extBut _ _ n1 (sd _ _ n4 (sc.extBut _ _ n2 (sb.extBut _ _ n3 (sa.extBut _ _ n1 g))))) ⟨o,sf.extBut _ _ ne g1,g2⟩
theorem QI {x y:aF}{Q:aao->aK->Prop}(D:ZApart z TI TO i1 i2 o1 o2)(U:Sub P w i1 o1 S1 xs)(V:Sub P w i2 o2 S2 ys)(st:k7 z TI TO i1 i2 S1 S2 .none k s.heap)(hx:xs[k]?=aa x)(hy:ys[k]?=aa y)
  (q:∀ h',k7 z TI TO i1 i2 S1 S2 (jA s.heap.objs.size) (k+1) h'->mJ h' s.heap.objs.size x y->h'.objs.size=s.heap.objs.size+1 ->
   (∀ c o,c≠z->c≠TO->c≠i1->c≠i2->s.heap.get? c=aa o->h'.get? c=aa o)->Q (aa (.ref s.heap.objs.size)) { s with heap:=h' }):aP (aW P w) A (jJ (.ref z)) Q E s:=by
 have ty:s.TypeIs (.ref z) "zip":=⟨_,st.1,rfl⟩;unfold jJ;exact aI (tP (nZ ty tX (jR tX ty MP (Vs D U V st hx hy λh' a1 a2 a3 a4=>aZ (q h' a1 a2 a3 a4)) (MQ _))))
theorem RE {Q:aao->aK->Prop}(hh:A.handled=ab)(D:ZApart z TI TO i1 i2 o1 o2)(U:Sub P w i1 o1 S1 xs)(V:Sub P w i2 o2 S2 ys)(st:k7 z TI TO i1 i2 S1 S2 .none k s.heap)(g7:xs[k]?=ab\/ys[k]?=ab)
  (q:∀ h',(∀ c o,c≠z->c≠TO->c≠i1->c≠i2->s.heap.get? c=aa o->h'.get? c=aa o)->Q ab { s with heap:=h' }):aP (aW P w) A (jJ (.ref z)) Q E s:=by
 have ty:s.TypeIs (.ref z) "zip":=⟨_,st.1,rfl⟩;unfold jJ;refine aI (tP (nZ ty tX (jR tX ty MP (Wx hh D U V st g7 λh' e kp ⟨o,g1,g2⟩=>?_) (MQ _))))
 exact aI (zO ⟨o,g1,g2⟩ LK (aZ (q _ kp)))
end
def SqB (b:Bool)(h:aY)(l:aC)(us:Array aF):Prop:=match b with
 |true=>h.IsList l us
 |false=>h.IsTuple l us
def j9 (b:Bool)(l:aC):bJ:={ cls:=.type (match b with|true=>"list_iterator" | false=>"tuple_iterator"),data:=.fields #[.ref l,.int 0 0] }
def StB (b:Bool)(j l:aC)(us:Array aF)(k:Nat)(h:aY):Prop:=match b with
 |true=>h.IsListIter j l k/\h.IsList l us
 |false=>h.IsTupleIter j l k/\h.IsTuple l us
theorem qK(b:Bool)(j l:aC)(us:Array aF)(ne:l≠j):Sub P w j [j,l] (StB b j l us) us:=by
 cases b with
 |true=>exact Vt j l us ne
 |false=>exact Lr j l us ne
theorem SqB.keep(q:SqB b h l us)(k:∀ o,h.get? l=aa o->h'.get? l=aa o):SqB b h' l us:=by
 cases b with
 |true=>
  obtain⟨o,e,r⟩:=q;exact⟨o,k o e,r⟩
 |false=>
  obtain⟨o,e,r⟩:=q;exact⟨o,k o e,r⟩
theorem StB.new{j:aC}(q:SqB b h l us)(e:h.get? j=aa (j9 b l)):StB b j l us 0 h:=by
 cases b with
 |true=>exact⟨⟨_,e,rfl,rfl⟩,q⟩
 |false=>exact⟨⟨_,e,rfl,rfl⟩,q⟩
section
variable {l1 l2:aC}{xs ys:Array aF}
theorem xP(h:SqB b s.heap l us)(q:Q (.ref s.heap.objs.size) { s with heap:=s.heap.push (j9 b l) }):aP (aW P w) A (pyIter (.ref l)) Q E s:=by
 cases b with
 |true=>exact DV h q
 |false=>exact wpAny_pyIter_tuple h q
abbrev zA (b1:Bool)(h:aY)(l1:aC):aY:=h.push (j9 b1 l1)
abbrev zB (b1 b2:Bool)(h:aY)(l1 l2:aC):aY:=(zA b1 h l1).push (j9 b2 l2)
abbrev zC (b1 b2:Bool)(h:aY)(l1 l2:aC):aY:=(zB b1 b2 h l1 l2).push { cls:=.type "tuple",data:=.seq #[.ref h.objs.size,.ref (zA b1 h l1).objs.size] }
abbrev zD (b1 b2:Bool)(h:aY)(l1 l2:aC):aY:=(zC b1 b2 h l1 l2).push { cls:=.type "tuple",data:=.seq #[.none,.none] }
abbrev zE (b1 b2:Bool)(h:aY)(l1 l2:aC):aY:=(zD b1 b2 h l1 l2).push { cls:=.type "zip",data:=.fields #[.none,.bool ag,.bool ag,.ref (zB b1 b2 h l1 l2).objs.size,.ref (zC b1 b2 h l1 l2).objs.size] }
theorem Ve (b1 b2:Bool)(l1 l2:aC)(xs ys:Array aF) :
  Meets (Builtin.«zip.__new__» ⟨[.type "zip",.ref l1,.ref l2],[]⟩) (λ_ R s=>SqB b1 s.heap l1 xs/\SqB b2 s.heap l2 ys /\
   R (.ok (.ret (.ref (zD b1 b2 s.heap l1 l2).objs.size))) { s with heap:=zE b1 b2 s.heap l1 l2 }):=
 .of_wp λprog w A R s h=>by
  obtain⟨hp,g,d,tk,os⟩:=s;obtain⟨q1,q2,q⟩:=h;have sz:=sub_zip;have u1:SqB b1 (Shared.heap ⟨hp,g,d,tk,os⟩) l1 xs:=q1;have u2:SqB b2 (Shared.heap ⟨hp.push (j9 b1 l1),g,d,tk,os⟩) l2 ys:=q2.keep λo e=>cF _ e
  wp_walk using xP u1,xP u2
  exact⟨_,rfl,q⟩
theorem Yz {l1 l2:Nat}(h1:l1<n)(h2:l2<n):ZApart (n+4) (n+2) (n+3) n (n+1) [n,l1] [n+1,l2]:=by
 have r9:∀ {a b c:Nat},a≠b->a≠c->a∉[b,c]:=λh h' m=>by
  grind
 have ne:∀ {a b:Nat},a<b->a≠b:=fH;have en:∀ {a b:Nat},b<a->a≠b:=lQ;exact⟨ne (),ne (),ne (),en (),en (),ne (),r9 (en ()) (en ()),r9 (en ()) (en ()),r9 (en ()) (en ()),r9 (en ()) (en ()),r9 (ne ()) (en h2),r9 (en ()) (en ())⟩
theorem SG(h1:SqB b1 s.heap l1 xs)(h2:SqB b2 s.heap l2 ys)
  (q:∀ (z TI TO i1 i2:aC) (h':aY),s.heap.objs.size<=z->s.heap.objs.size<=TI->s.heap.objs.size<=TO->s.heap.objs.size<=i1->s.heap.objs.size<=i2->ZApart z TI TO i1 i2 [i1,l1] [i2,l2]->k7 z TI TO i1 i2 (StB b1 i1 l1 xs) (StB b2 i2 l2 ys) .none 0 h' ->
   (∀ c o,s.heap.get? c=aa o->h'.get? c=aa o)->Q (.ref z) { s with heap:=h' }):aP (aW P w) A (call (.type "zip") [.ref l1,.ref l2]) Q E s:=by
 refine callType_new F.called_zip nofun (F.typeCall_zip_2 _ _) (F.newCall_zip_2 _ _) (λobj=>F.args_object_init_3 obj _ _) F.entry_zip_new (Ve b1 b2 l1 l2 xs ys) ⟨h1,h2,?_⟩
 have za:(zA b1 s.heap l1).objs.size=s.heap.objs.size+1:=pX ..;have zb:(zB b1 b2 s.heap l1 l2).objs.size=s.heap.objs.size+2:=by rw[pX,za]
 have zc:(zC b1 b2 s.heap l1 l2).objs.size=s.heap.objs.size+3:=by rw[pX,zb]
 have zd:(zD b1 b2 s.heap l1 l2).objs.size=s.heap.objs.size+4:=by rw[pX,zc]
 have g5:(zE b1 b2 s.heap l1 l2).get? (zD b1 b2 s.heap l1 l2).objs.size=aa _:=dZ _ rfl;have g4:(zE b1 b2 s.heap l1 l2).get? (zC b1 b2 s.heap l1 l2).objs.size=aa _:=cF _ (dZ _ rfl);have g3:(zE b1 b2 s.heap l1 l2).get? (zB b1 b2 s.heap l1 l2).objs.size=aa _:=cF _ (cF _ (dZ _ rfl));have g2:(zE b1 b2 s.heap l1 l2).get? (zA b1 s.heap l1).objs.size=aa (j9 b2 l2):=cF _ (cF _ (cF _ (dZ _ (by cases b2<;>rfl))))
 have g1:(zE b1 b2 s.heap l1 l2).get? s.heap.objs.size=aa (j9 b1 l1):=cF _ (cF _ (cF _ (cF _ (dZ _ (by cases b1<;>rfl)))))
 have all:∀ c o,s.heap.get? c=aa o->(zE b1 b2 s.heap l1 l2).get? c=aa o:=λc o x=>cF _ (cF _ (cF _ (cF _ (cF _ x))))
 have J9:l1<s.heap.objs.size:=by
  cases b1 with
  |true=>obtain⟨o,e,_⟩:=h1;exact bX e
  |false=>obtain⟨o,e,_⟩:=h1;exact bX e
 have J':l2<s.heap.objs.size:=by
  cases b2 with
  |true=>obtain⟨o,e,_⟩:=h2;exact bX e
  |false=>obtain⟨o,e,_⟩:=h2;exact bX e
 refine⟨⟨_,g5,rfl⟩,q _ (zB b1 b2 s.heap l1 l2).objs.size (zC b1 b2 s.heap l1 l2).objs.size s.heap.objs.size (zA b1 s.heap l1).objs.size _ () () () () () ?_ ⟨g5,g3,⟨_,_,g4⟩,StB.new (h1.keep (all l1)) g1,StB.new (h2.keep (all l2)) g2⟩ all⟩
 have ap:=Yz J9 J';rw[<-za,<-zb,<-zc,<-zd] at ap;exact ap
end
def ItB (b:Bool)(j l:aC)(k:Nat)(h:aY):Prop:=match b with
 |true=>h.IsListIter j l k
 |false=>h.IsTupleIter j l k
theorem Aea{j:aC}:StB b j l us k h↔ItB b j l k h/\SqB b h l us:=by cases b<;>exact Iff.rfl
theorem ItB.get{j:aC}(q:ItB b j l k h):∃ o,h.get? j=aa o/\∀ v,o.data ≠ .cell v:=by
 cases b with
 |true=>
  obtain⟨o,e,_,d⟩:=q
  grind
 |false=>
  obtain⟨o,e,_,d⟩:=q
  grind
theorem ItB.keep{j:aC}(q:ItB b j l k h)(kp:∀ o,h.get? j=aa o->h'.get? j=aa o):ItB b j l k h':=by
 cases b with
 |true=>
  obtain⟨o,e,r⟩:=q;exact⟨o,kp o e,r⟩
 |false=>
  obtain⟨o,e,r⟩:=q;exact⟨o,kp o e,r⟩
def i6 (b:Bool)(K:aM)(H:Hp)(a:aC)(xs:aag):Prop:=match b with
 |true=>SqL K H a xs
 |false=>SqT K H a xs
section
variable {σ:St}
theorem Inv.sqB(I:Inv X ac σ H s)(h:i6 b X.K H a xs):∃ its:aal,Vals xs its/\SqB b s.heap a its.toArray:=by
 cases b with
 |true=>
  obtain⟨its,rv,p,_⟩:=I.list h;exact⟨its,rv,p.isList⟩
 |false=>
  obtain⟨its,rv,p,_⟩:=I.tuple h;exact⟨its,rv,p⟩
theorem Inv.sqV_inj(I:Inv X ac σ H s)(h:i6 b X.K H a xs)(h':i6 b X.K H a ys):xs=ys:=by
 cases b with
 |true=>exact I.list_inj h h'
 |false=>exact I.tuple_inj h h'
theorem Inv.turnM {t':Nat}{fp:aaj}(I:Inv X ac σ H s)(hf:∀ b∈fp,jV X ac H b)(k:∀ b o,b∉fp->s.heap.get? b=aa o->h'.get? b=aa o):Inv X ac σ H { s with heap:=h',toks:=t' }:=by
 have out:∀ b u,H b=aa u->b∉fp:=λb u e m=>by
  rw[(hf b m).1] at e;cases e
 have loc:X.env.locals∉fp:=λm=>(hf _ m).2.1 rfl
 refine I.step (λb m=>⟨(hf b m).2.2.2.1,(hf b m).2.1,(hf b m).2.2.2.2.1,(hf b m).2.2.2.2.2⟩) (λb o _ _ n e _=>k b o n e) (λb o _ _ n e _=>⟨o.slots,k b o n e⟩) (λ_ _ _ _ n=>n)
  (λb o n e=>⟨o,k b o n e⟩) (λ_ _ e=>e) (λ_ _ _ e=>e) (λb ps e=>⟨#[],by rw[e];simp⟩) (λm hm=>?_) (λb u e=>?_) I.bare
 .obtain⟨o,es,ep,ho,r⟩:=hm;exact⟨o,es,ep,k _ o loc ho,r⟩
 .refine(I.hok b u e).stay (λc v hc q=>k c v ?_ q) (λ_ q=>q) λ_ _ q=>q
  grind
end
def EX (K:aM)(b1 b2:Bool)(a1 a2:aC):It:=
  ⟨λi H=>∃ xs ys x y,i6 b1 K H a1 xs/\i6 b2 K H a2 ys/\xs[i]?=aa x/\ys[i]?=aa y,
   λi H v H'=>∃ T x y,H T=ab/\v=.ref T/\(∀ xs,i6 b1 K H a1 xs->xs[i]?=aa x)/\(∀ ys,i6 b2 K H a2 ys->ys[i]?=aa y)/\H'=upd H T (.tup [x,y]),
   λi H=>∃ xs ys,i6 b1 K H a1 xs/\i6 b2 K H a2 ys/\(xs.length<=i\/ys.length<=i)⟩
def U0 (b1 b2:Bool)(a1 a2 z TI TO i1 i2:aC)(i:Nat)(h:aY):Prop:=IsZip h z TI TO .none/\mJ h TI (.ref i1) (.ref i2)/\(∃ a b,mJ h TO a b)/\ItB b1 i1 a1 i h/\ItB b2 i2 a2 i h
theorem Vr{cx}{pos:bH}{b1 b2:Bool}{a1 a2 z TI TO i1 i2:aC}(D:ZApart z TI TO i1 i2 [i1,a1] [i2,a2])(n1:a1≠i1)(n2:a2≠i2) :
  Turn P w K (.Tuple es cx pos) (EX K b1 b2 a1 a2) [z,TI,TO,i1,i2] z (U0 b1 b2 a1 a2 z TI TO i1 i2) where
 mem:=by simp
 obj:=λi h ⟨g1,g2,⟨a,b,g3⟩,g4,g5⟩ c hc=>by
  simp only[dJ,pT,or_false] at hc;rcases hc with rfl|rfl|rfl|rfl|rfl
  .exact⟨_,g1,λv q=>by cases q⟩
  .exact⟨_,g2,λv q=>by cases q⟩
  .exact⟨_,g3,λv q=>by cases q⟩
  .exact g4.get
  .exact g5.get
 keep:=λi h h' ⟨g1,g2,⟨a,b,g3⟩,g4,g5⟩ k=>⟨k z (by simp) _ g1,k TI (by simp) _ g2,⟨a,b,k TO (by simp) _ g3⟩,g4.keep (k i1 (by simp)),g5.keep (k i2 (by simp))⟩
 item:=by
  intro X hP hw hK hc i ac s σ H E I hf st hg;subst hP hw hK;obtain⟨xs,ys,x,y,q1,q2,hx,hy⟩:=hg;obtain⟨us,r1,s1⟩:=I.sqB q1;obtain⟨vs,r2,s2⟩:=I.sqB q2;obtain⟨u,hu,ru⟩:=r1.get hx;obtain⟨v,hv,rv⟩:=r2.get hy;obtain⟨g1,g2,⟨pa,pb,g3⟩,g4,g5⟩:=st;have kw:k7 z TI TO i1 i2 (StB b1 i1 a1 us.toArray) (StB b2 i2 a2 vs.toArray) .none i s.heap:=⟨g1,g2,⟨pa,pb,g3⟩,Aea.2 ⟨g4,s1⟩,Aea.2 ⟨g5,s2⟩⟩;have mh:∀ b∈[z,TI,TO,i1,i2],b<s.heap.objs.size:=λb m=>by
   simp only[dJ,pT,or_false] at m;rcases m with rfl|rfl|rfl|rfl|rfl
   .exact bX g1
   .exact bX g2
   .exact bX g3
   .obtain⟨o,e,_⟩:=g4.get;exact bX e
   .obtain⟨o,e,_⟩:=g5.get;exact bX e
  refine QI D (qK b1 i1 a1 us.toArray n1) (qK b2 i2 a2 vs.toArray n2) kw (by simpa using hu) (by simpa using hv) λh' zt pr sz dL=>?_
  have fr:=I.hok.fresh (bS _);have I0:Inv X ac σ (upd H s.heap.objs.size (.tup [x,y])) { s with heap:=s.heap.push { cls:=.type "tuple",data:=.seq #[u,v] } }:=
   I.laid (λb ob q=>cF _ q) (bS _) ⟨by show 2<=sizeLine;decide,[u,v],.cons ru (.cons rv .nil),A4z.new _ _⟩
  have qr:∀ b∈[z,TI,TO,i1,i2],jV X ac (upd H s.heap.objs.size (.tup [x,y])) b:=λb m=>⟨by rw[dY (fH (mh b m))];exact(hf b m).1,(hf b m).2⟩
  have I1:Inv X ac σ (upd H s.heap.objs.size (.tup [x,y])) { s with heap:=h' }:=I0.turnM qr λb o n e=>by
   simp only[dJ,pT,or_false,not_or] at n;by_cases hb:b=s.heap.objs.size
   .subst hb;have e':(s.heap.push { cls:=.type "tuple",data:=.seq #[u,v] }).get? s.heap.objs.size=aa { cls:=.type "tuple",data:=.seq #[u,v] }:=dZ _ rfl
    grind
   .exact dL b o n.1 n.2.2.1 n.2.2.2.1 n.2.2.2.2 ((Heap.get?_push_ne _ _ _ hb).symm.trans e)
  obtain⟨w1,w2,⟨wa,wb,w3⟩,w4,w5⟩:=zt;have z1:i1≠z:=λe=>D.z1 (e ▸ bT)
  have z2:i2≠z:=λe=>D.z2 (e ▸ bT)
  refine⟨_,rfl,wpAny_letOwnedTupleGo_zip w1 λh2 gz sb=>?_⟩
  have I2:Inv X ac σ (upd H s.heap.objs.size (.tup [x,y])) { s with heap:=h2 }:=I1.turnM qr λb o n e=>sb.extBut b o (λq=>n (by simp[q])) e
  exact⟨.ref s.heap.objs.size,_,I2,rfl,⟨_,x,y,fr,rfl,λju h=>by rw[I.sqV_inj h q1];exact hx,λox h=>by rw[I.sqV_inj h q2];exact hy,rfl⟩,
   ⟨gz,sb.extBut _ _ D.TIz w2,⟨wa,wb,sb.extBut _ _ D.TOz w3⟩,(Aea.1 w4).1.keep λo e=>sb.extBut _ _ z1 e,(Aea.1 w5).1.keep λo e=>sb.extBut _ _ z2 e⟩,λb m=>(qr b m).1⟩
 done:=by
  intro X hP hw hK hc i ac s σ H E I hf st hg;subst hP hw hK;obtain⟨xs,ys,q1,q2,hl⟩:=hg;obtain⟨us,r1,s1⟩:=I.sqB q1;obtain⟨vs,r2,s2⟩:=I.sqB q2;obtain⟨g1,g2,g3,g4,g5⟩:=st;have kw:k7 z TI TO i1 i2 (StB b1 i1 a1 us.toArray) (StB b2 i2 a2 vs.toArray) .none i s.heap:=⟨g1,g2,g3,Aea.2 ⟨g4,s1⟩,Aea.2 ⟨g5,s2⟩⟩;have l1:=r1.length;have l2:=r2.length;refine RE (I.ok.hd hc) D (qK b1 i1 a1 us.toArray n1) (qK b2 i2 a2 vs.toArray n2) kw ?_ λh' dL=>⟨rfl,I.turnM hf λb o n e=>?_⟩
  all_goals grind
 self:=λ_ _ _ _ _ st h=>Bj st.1 h
section
variable {a b:aS}{p:bH}{cx:Nat}
def Dz (K:aM)(ta:TA):TI:=λσ H R=>ta σ H λvs H1=>∃ a1 a2 b1 b2 xs ys,vs=[.ref a1,.ref a2]/\i6 b1 K H1 a1 xs/\i6 b2 K H1 a2 ys/\R (EX K b1 b2 a1 a2) H1
theorem Hm(hg:Gl X "zip")(hm:X.mg "zip" = ab)(ha:PA X [a,b] ta)(hs:bM [a,b] X.env=[(ag,cA a X.env),(ag,cA b X.env)]:=by rfl)(gw:bM [b] X.env=[(ag,cA b X.env)]:=by rfl) :
  PI X (.Tuple es cx j7) (.Call (.Name "zip" p) [a,b] [] pos) (Dz X.K ta):=by
 intro ac s σ H R I h;refine Call_ (pE I hg hm boot_zip (vX (bb (ha pos ac s σ H _ I h) λus s1 ⟨vs,H1,I1,r1,q1⟩=>?_) (by rw[hs,gw]) (by rw[gw];rfl)))
 obtain⟨a1,a2,b1,b2,xs,ys,rfl,k1,k2,q⟩:=q1;cases r1 with
 |cons r rr=>
  cases rr with
  |cons r' rr=>
   cases rr;cases r;cases r';obtain⟨u1,_,w1⟩:=I1.sqB k1;obtain⟨u2,_,w2⟩:=I1.sqB k2;have m1:a1<s1.heap.objs.size:=by
    cases b1 with
    |true=>obtain⟨o,e,_⟩:=w1;exact bX e
    |false=>obtain⟨o,e,_⟩:=w1;exact bX e
   have m2:a2<s1.heap.objs.size:=by
    cases b2 with
    |true=>obtain⟨o,e,_⟩:=w2;exact bX e
    |false=>obtain⟨o,e,_⟩:=w2;exact bX e
   refine SG w1 w2 λz TI TO i1 i2 h' y0 y1 y2 y3 y4 D kw all=>Bj kw.1 ?_
   refine⟨z,[z,TI,TO,i1,i2],_,_,H1,rfl,I1.kept all,Vr D (λe=>?_) (λe=>?_),⟨kw.1,kw.2.1,kw.2.2.1,(Aea.1 kw.2.2.2.1).1,(Aea.1 kw.2.2.2.2).1⟩,λb m=>?_,q⟩
   .grind
   .grind
   .have le:s1.heap.objs.size<=b:=by
     grind
    exact I1.fpOk le (I1.hok.fresh le)
noncomputable def mC:aA->aac
 |.list ds=>aa ds
 |.tuple ds=>aa ds
 |_=>ab
def pairD (x y:aA):aA:=.tuple [x,y]
def iZ (fa:AF):AF:=λY=>(fa Y).bind λds=>match ds with
 |[x,y]=>(mC x).bind λxs=>(mC y).bind λys=>aa (MC pairD xs ys)
 |_=>ab
theorem yO{B:Hp}{ds:aae}(e:mC d=aa ds)(r:Abx K B d v):∃ a b xs,v=.ref a/\(∀ H2,Ext B H2->i6 b K H2 a xs)/\Aap K B ds xs:=by
 cases d with
 |list es=>
  cases e;obtain⟨a,xs,rfl,h,rr⟩:=Abp.1 r;exact⟨a,af,xs,rfl,λH2 x2=>x2.sqL h,rr⟩
 |tuple es=>
  cases e;obtain⟨a,xs,rfl,h,rr⟩:=Aan.1 r;exact⟨a,ag,xs,rfl,λH2 x2=>SqT.of (x2 _ _ h),rr⟩
 |_=>cases e
theorem Oc{B:Hp}{a1 a2:aC}{ds es:aae}(h1:∀ H2,Ext B H2->i6 b1 K H2 a1 xs)(h2:∀ H2,Ext B H2->i6 b2 K H2 a2 ys)(r1:Aap K B ds xs)(r2:Aap K B es ys) :
  m9 K B (EX K b1 b2 a1 a2) (MC pairD ds es):=λi H2 x2=>by
 refine⟨λd hd=>?_,λe=>⟨xs,ys,h1 H2 x2,h2 H2 x2,?_⟩⟩
 .rw[List.getElem?_zipWith] at hd;cases c1:ds[i]? with
  |none=>rw[c1] at hd;simp at hd
  |some d1=>
   cases c2:es[i]? with
   |none=>rw[c1,c2] at hd;simp at hd
   |some d2=>
    rw[c1,c2] at hd;have hd:pairD d1 d2=d:=by simpa using hd
    subst hd;obtain⟨v1,g1,g2⟩:=r1.get c1;obtain⟨v2,g3,g4⟩:=r2.get c2;refine⟨⟨xs,ys,v1,v2,h1 H2 x2,h2 H2 x2,g1,g3⟩,?_⟩;rintro x H3 ⟨T,x',y',fr,rfl,k1,k2,rfl⟩;obtain rfl:v1=x':=fM (g1.symm.trans (k1 xs (h1 H2 x2)));obtain rfl:v2=y':=fM (g3.symm.trans (k2 ys (h2 H2 x2)));have ext:Ext H2 (upd H2 T (.tup [v1,v2])):=λb u e=>by rw[dY (kT e fr)];exact e
    refine⟨ext,λP2 ya xb=>?_⟩
    have nT:¬ P2 T:=λq=>by
     rcases ya T q with⟨o,e⟩|⟨o,e⟩<;>rw[fr] at e<;>cases e
    have gT:hid (upd H2 T (.tup [v1,v2])) P2 T=aa (.tup [v1,v2]):=gD nT fT;have xx:=xb.trans (dD ext);exact Aan.2 ⟨T,_,rfl,gT,Aag.2 ⟨_,_,rfl,g2.ext xx,Aag.2 ⟨_,_,rfl,g4.ext xx,Aal.2 rfl⟩⟩⟩
 .rw[List.length_zipWith] at e;rw[r1.length,r2.length]
  lia
theorem Gu(hg:Gl X "zip")(hm:X.mg "zip" = ab)(ha:DA X [a,b] fa)(hs:bM [a,b] X.env=[(ag,cA a X.env),(ag,cA b X.env)]:=by rfl)(gw:bM [b] X.env=[(ag,cA b X.env)]:=by rfl) :
  DI X (.Tuple es cx j7) (.Call (.Name "zip" p) [a,b] [] pos) (iZ fa):=PI.imp (Hm hg hm ha hs gw) λσ H R gh=>by
 obtain⟨P,Y,ds,hP,rs,ef,k⟩:=gh;obtain⟨as,e1,cm⟩:=ao ef;clear ef
 match as,e1,cm with
 |[x,y],e1,cm=>
  obtain⟨xs,e2,cv⟩:=ao (show((mC x).bind λxs=>(mC y).bind λys=>aa (MC pairD xs ys))=aa ds from cm)
  obtain⟨ys,e3,gs⟩:=ao cv;cases gs;refine⟨P,Y,_,hP,rs,e1,λvs H1 x1 r1=>?_⟩
  obtain⟨v,t,rfl,q1,q2⟩:=Aag.1 r1;obtain⟨v',rfl,q3⟩:=gQ q2;obtain⟨a1,b1,us,rfl,k1,w1⟩:=yO e2 q1;obtain⟨a2,b2,yb,rfl,k2,w2⟩:=yO e3 q3;exact⟨a1,a2,b1,b2,us,yb,rfl,k1 _ Aau,k2 _ Aau,k _ H1 x1 (Oc k1 k2 w1 w2)⟩
 |[],_,h=>cases h
 |[_],_,h=>cases h
 |_::_::_::_,_,h=>cases h
end
section
variable {e j:aC}{own:aaj}{S:Nat->aY->Prop}{xs:Array aF}{x dL:aF}
theorem Zh(U:Sub P w j own S xs)(ne:e∉own)(ge:pW s.heap e j (k:Int) dL)(st:S k s.heap)(hx:xs[k]?=aa x)
  (q:∀ h',IsEnumOut h' e j ((k+1:Nat):Int) x s.heap.objs.size->S (k+1) h'->mJ h' s.heap.objs.size (.int k s.toks) x->h'.objs.size=s.heap.objs.size+1 ->
   (∀ c o,c≠e->c≠j->s.heap.get? c=aa o->h'.get? c=aa o)->Q (.ref s.heap.objs.size) { s with heap:=h',toks:=s.toks+1 }) :
  aP (aW P w) A (Builtin.«enumerate.__next__» ⟨[.ref e],[]⟩) (λfin s'=>∃ v,fin=.done (.ret v)/\Q v s') E s:=by
 have nj:e≠j:=λh=>ne (h ▸ U.mem)
 show aP _ _ (pO (.ref e) 2>>=_) _ E s;refine aI (gG ge rfl (x:=.ref j) rfl (aI (U.item _ _ _ _ k x st hx λha KK sa=>?_)))
 have yc:pW ha e j (k:Int) dL:=sa.extBut _ _ nj ge;show aP _ _ (pO (.ref e) 3>>=_) _ E _;refine aI (gG yc rfl (x:=jA k) rfl ?_);show aP _ _ (pO (.ref e) 4>>=_) _ E _;refine aI (gG yc rfl (x:=.none) rfl ?_);show aP _ _ (mkInt k>>=_) _ E _;refine aI (wpAny_mkInt ?_);show aP _ _ (setField (.ref e) 3 (jA ((k:Int)+1))>>=_) _ E _;refine aI (nX yc (by simp) λhb ye sb=>?_)
 replace ye:pW hb e j ((k+1:Nat):Int) dL:=ye;show aP _ _ (setField (.ref e) 4 .none>>=_) _ E _;refine aI (nX ye (by simp) λhc v5 sc=>?_)
 replace v5:pW hc e j ((k+1:Nat):Int) dL:=v5;show aP _ _ (newTuple [.int k s.toks,x]>>=_) _ E _;refine aI (DX ?_);have size:hc.objs.size=s.heap.objs.size:=by rw[sc.1,sb.1,sa.1]
 have lt:e<hc.objs.size:=bX v5;have yf:∀ c o,c≠e->c≠j->s.heap.get? c=aa o->hc.get? c=aa o:=λc o n1 n2 g=>sc.extBut _ _ n1 (sb.extBut _ _ n1 (sa.extBut _ _ n2 g))
 have K0:S (k+1) hc:=U.but (U.but KK ne sb.extBut) ne sc.extBut;have yg:pW (hc.push { cls:=.type "tuple",data:=.seq #[.int k s.toks,x] }) e j ((k+1:Nat):Int) dL:=cF _ v5;show aP _ _ (AH (.ref e)>>=_) _ E _;refine aI ?_;unfold AH;refine aI (gG yg rfl (x:=.none) rfl (aZ ?_));simp only[if_true];refine aI (rK (aI (gG yg rfl (x:=dL) rfl (aI (nX yg (by simp) λhe yh se=>?_)))))
 replace yh:pW he e j ((k+1:Nat):Int) x:=yh;show aP _ _ (Dg (.ref e) (.ref hc.objs.size)>>=_) _ E _;refine aI ?_;unfold Dg;refine aI (nX yh (by simp) λhf yi sf=>?_)
 replace yi:IsEnumOut hf e j ((k+1:Nat):Int) x hc.objs.size:=yi;refine nX yi (by simp) λhg v6 sg=>?_
 replace v6:IsEnumOut hg e j ((k+1:Nat):Int) x hc.objs.size:=v6;have up:∀ c o,c≠e->(hc.push { cls:=.type "tuple",data:=.seq #[.int k s.toks,x] }).get? c=aa o->hg.get? c=aa o:=λc o n g=>sg.extBut _ _ n (sf.extBut _ _ n (se.extBut _ _ n g))
 have sz:hg.objs.size=hc.objs.size+1:=by rw[sg.1,sf.1,se.1,pX]
 have pr:mJ hg hc.objs.size (.int k s.toks) x:=up _ _ (lQ lt) (dZ _ rfl);have K1:S (k+1) hg:=U.keep _ _ _ K0 λc m o g=>up c o (λh=>ne (h ▸ m)) (cF _ g)
 refine aI (LC (aZ ⟨_,rfl,?_⟩));rw[size] at v6 pr sz ⊢;exact q hg v6 K1 pr sz λc o n1 n2 g=>up c o n1 (cF _ (yf c o n1 n2 g))
theorem Oo {Q:aao->aK->Prop}(U:Sub P w j own S xs)(ne:e∉own)(ge:pW s.heap e j (k:Int) dL)(st:S k s.heap)(hx:xs[k]?=aa x)
  (q:∀ h',IsEnumOut h' e j ((k+1:Nat):Int) x s.heap.objs.size->S (k+1) h'->mJ h' s.heap.objs.size (.int k s.toks) x->h'.objs.size=s.heap.objs.size+1 ->
   (∀ c o,c≠e->c≠j->s.heap.get? c=aa o->h'.get? c=aa o)->Q (aa (.ref s.heap.objs.size)) { s with heap:=h',toks:=s.toks+1 }):aP (aW P w) A (jJ (.ref e)) Q E s:=by
 have ty:s.TypeIs (.ref e) "enumerate":=⟨_,ge,rfl⟩;unfold jJ;exact aI (tP (nZ ty MO (jR MO ty F.entry_enumerate_next (Zh U ne ge st hx λh' a1 a2 a3 a4 a5=>aZ (q h' a1 a2 a3 a4 a5)) (F.args_enumerate_next_1 _))))
theorem Zi {Q:aao->aK->Prop}(hh:A.handled=ab)(U:Sub P w j own S xs)(ge:pW s.heap e j (k:Int) dL)(st:S k s.heap)(hx:xs[k]?=ab)
  (q:∀ h',ES j s.heap h'->Q ab { s with heap:=h' }):aP (aW P w) A (jJ (.ref e)) Q E s:=by
 have ty:s.TypeIs (.ref e) "enumerate":=⟨_,ge,rfl⟩;unfold jJ;refine aI (tP (nZ ty MO (jR MO ty F.entry_enumerate_next ?_ (F.args_enumerate_next_1 _))));show aP _ _ (pO (.ref e) 2>>=_) _ _ _;refine aI (gG ge rfl (x:=.ref j) rfl (aI (U.done _ _ _ _ k hh st hx λh' a kp gh=>?_)))
 obtain⟨o,g1,g2⟩:=gh;exact aI (zO ⟨o,g1,g2⟩ LK (aZ (q _ kp)))
theorem Yy (b:Bool)(l:aC)(us:Array aF) :
  Meets (Builtin.«enumerate.__new__» ⟨[.type "enumerate",.ref l],[]⟩) (λ_ R s=>SqB b s.heap l us /\
   R (.ok (.ret (.ref (s.heap.push (j9 b l)).objs.size))) { s with heap:=(s.heap.push (j9 b l)).push { cls:=.type "enumerate",data:=.fields #[.none,.bool ag,.ref s.heap.objs.size,jA 0,.none,.none] } }):=
 .of_wp λprog w A R s h=>by
  obtain⟨hp,g,d,tk,os⟩:=s;obtain⟨q1,q⟩:=h;have sz:=sub_enumerate;have u1:=q1
  wp_walk
  refine wpAny_stack_any λst=>aZ ?_
  split
  .rename_i c _ _ _ _ _;cases(c==kX "enumerate")
   .wp_walk using xP u1
    exact⟨_,rfl,q⟩
   .wp_walk using xP u1
    exact⟨_,rfl,q⟩
  .wp_walk using xP u1
   exact⟨_,rfl,q⟩
theorem Zc(h1:SqB b s.heap l us)
  (q:∀ (e j:aC) (h':aY),s.heap.objs.size<=e->s.heap.objs.size<=j->e∉[j,l]->l≠j->pW h' e j ((0:Nat):Int) .none->StB b j l us 0 h'->(∀ c o,s.heap.get? c=aa o->h'.get? c=aa o)->Q (.ref e) { s with heap:=h' }) :
  aP (aW P w) A (call (.type "enumerate") [.ref l]) Q E s:=by
 refine callType_new F.called_enumerate nofun (F.typeCall_enumerate_1 _) (F.newCall_enumerate_1 _) (λobj=>F.args_object_init_2 obj _) F.entry_enumerate_new (Yy b l us) ⟨h1,?_⟩
 have z1:(s.heap.push (j9 b l)).objs.size=s.heap.objs.size+1:=pX ..;have lt:l<s.heap.objs.size:=by
  cases b with
  |true=>obtain⟨o,e,_⟩:=h1;exact bX e
  |false=>obtain⟨o,e,_⟩:=h1;exact bX e
 have all:∀ c o,s.heap.get? c=aa o->((s.heap.push (j9 b l)).push { cls:=.type "enumerate",data:=.fields #[.none,.bool ag,.ref s.heap.objs.size,jA 0,.none,.none] }).get? c=aa o:=λc o x=>cF _ (cF _ x)
 have g2:((s.heap.push (j9 b l)).push { cls:=.type "enumerate",data:=.fields #[.none,.bool ag,.ref s.heap.objs.size,jA 0,.none,.none] }).get? (s.heap.push (j9 b l)).objs.size=aa _:=dZ _ rfl;have g1:((s.heap.push (j9 b l)).push { cls:=.type "enumerate",data:=.fields #[.none,.bool ag,.ref s.heap.objs.size,jA 0,.none,.none] }).get? s.heap.objs.size=aa (j9 b l):=cF _ (dZ _ (by cases b<;>rfl))
 refine⟨⟨_,g2,rfl⟩,q _ s.heap.objs.size _ () (bS _) (λm=>?_) (fH lt) g2 (StB.new (h1.keep (all l)) g1) all⟩
 rw[z1] at m;rcases dJ.1 m with m|m
 .exact Nat.succ_ne_self _ m
 .grind
end
def EZ (K:aM)(b:Bool)(a:aC):It:=
  ⟨λi H=>∃ xs x,i6 b K H a xs/\xs[i]?=aa x,
   λi H v H'=>∃ T x,H T=ab/\v=.ref T/\(∀ xs,i6 b K H a xs->xs[i]?=aa x)/\H'=upd H T (.tup [.int i,x]),
   λi H=>∃ xs,i6 b K H a xs/\xs.length<=i⟩
def T' (b:Bool)(a e j:aC)(i:Nat)(h:aY):Prop:=(∃ dL,pW h e j (i:Int) dL)/\ItB b j a i h
theorem Zd{cx}{pos:bH}{b:Bool}{a e j:aC}(D:e∉[j,a])(n1:a≠j) :
  Turn P w K (.Tuple es cx pos) (EZ K b a) [e,j] e (T' b a e j) where
 mem:=by simp
 obj:=λi h ⟨⟨dL,g1⟩,g2⟩ c hc=>by
  simp only[dJ,pT,or_false] at hc;rcases hc with rfl|rfl
  .exact⟨_,g1,λv q=>by cases q⟩
  .exact g2.get
 keep:=λi h h' ⟨⟨dL,g1⟩,g2⟩ k=>⟨⟨dL,k e (by simp) _ g1⟩,g2.keep (k j (by simp))⟩
 item:=by
  intro X hP hw hK hc i ac s σ H E I hf st hg;subst hP hw hK;obtain⟨xs,x,q1,hx⟩:=hg;obtain⟨us,r1,s1⟩:=I.sqB q1;obtain⟨u,hu,ru⟩:=r1.get hx;obtain⟨⟨dL,g1⟩,g2⟩:=st;have mh:∀ b∈[e,j],b<s.heap.objs.size:=λb m=>by
   simp only[dJ,pT,or_false] at m;rcases m with rfl|rfl
   .exact bX g1
   .obtain⟨o,e,_⟩:=g2.get;exact bX e
  refine Oo (qK b j a us.toArray n1) D g1 (Aea.2 ⟨g2,s1⟩) (x:=u) (by simpa using hu) λh' eo sj pr sz keep=>?_
  have fr:H s.heap.objs.size=ab:=I.hok.fresh (bS _);have I0:Inv X ac σ (upd H s.heap.objs.size (.tup [.int i,x])) { s with heap:=s.heap.push { cls:=.type "tuple",data:=.seq #[.int i s.toks,u] },toks:=s.toks+1 }:=
   I.laid (t':=s.toks+1) (o:=.tup [.int i,x]) (λb ob q=>cF _ q) (bS _) ⟨by show 2<=sizeLine;decide,[.int i s.toks,u],.cons ⟨_,rfl⟩ (.cons ru .nil),A4z.new _ _⟩
  have qr:∀ b∈[e,j],jV X ac (upd H s.heap.objs.size (.tup [.int i,x])) b:=λb m=>⟨by rw[dY (fH (mh b m))];exact(hf b m).1,(hf b m).2⟩
  have I1:Inv X ac σ (upd H s.heap.objs.size (.tup [.int i,x])) { s with heap:=h',toks:=s.toks+1 }:=I0.turnM (t':=s.toks+1) qr λb o n g=>by
   simp only[dJ,pT,or_false,not_or] at n;by_cases hb:b=s.heap.objs.size
   .subst hb;have e':(s.heap.push { cls:=.type "tuple",data:=.seq #[.int i s.toks,u] }).get? s.heap.objs.size=aa { cls:=.type "tuple",data:=.seq #[.int i s.toks,u] }:=dZ _ rfl
    grind
   .exact keep b o n.1 n.2 ((Heap.get?_push_ne _ _ _ hb).symm.trans g)
  have nj:j≠e:=λh=>D (h ▸ bT)
  refine⟨_,rfl,wpAny_letOwnedTupleGo_enum eo λh2 ge sb=>?_⟩
  have I2:Inv X ac σ (upd H s.heap.objs.size (.tup [.int i,x])) { s with heap:=h2,toks:=s.toks+1 }:=I1.turnM (t':=s.toks+1) qr λb o n g=>sb.extBut b o (λq=>n (by simp[q])) g
  exact⟨.ref s.heap.objs.size,_,I2,rfl,⟨_,x,fr,rfl,λju h=>by rw[I.sqV_inj h q1];exact hx,rfl⟩,⟨⟨_,ge⟩,(Aea.1 sj).1.keep λo g=>sb.extBut _ _ nj g⟩,λb m=>(qr b m).1⟩
 done:=by
  intro X hP hw hK hc i ac s σ H E I hf st hg;subst hP hw hK;obtain⟨xs,q1,hl⟩:=hg;obtain⟨us,r1,s1⟩:=I.sqB q1;obtain⟨⟨dL,g1⟩,g2⟩:=st;have l1:=r1.length;refine Zi (I.ok.hd hc) (qK b j a us.toArray n1) g1 (Aea.2 ⟨g2,s1⟩) (by simp;lia) λh' kp=>⟨rfl,I.turnM (t':=s.toks) hf λb o n g=>?_⟩
  simp only[dJ,pT,or_false,not_or] at n;exact kp b o n.2 g
 self:=λ_ _ _ _ _ st h=>by
  obtain⟨⟨dL,g1⟩,_⟩:=st;exact wpAny_pyIter_enum g1 h
section
variable {a:aS}{p:bH}{cx:Nat}
def Fi (K:aM)(ta:TA):TI:=λσ H R=>ta σ H λvs H1=>∃ a1 b1 xs,vs=[.ref a1]/\i6 b1 K H1 a1 xs/\R (EZ K b1 a1) H1
theorem Mk(hg:Gl X "enumerate")(hm:X.mg "enumerate" = ab)(ha:PA X [a] ta)(hs:bM [a] X.env=[(ag,cA a X.env)]:=by rfl) :
  PI X (.Tuple es cx j7) (.Call (.Name "enumerate" p) [a] [] pos) (Fi X.K ta):=by
 intro ac s σ H R I h;refine Call_ (pE I hg hm boot_enumerate (vX (bb (ha pos ac s σ H _ I h) λus s1 ⟨vs,H1,I1,r1,q1⟩=>?_) hs (by rfl)))
 obtain⟨a1,b1,xs,rfl,k1,q⟩:=q1;obtain⟨u,rfl,ru⟩:=vals1 r1;cases ru;obtain⟨u1,_,w1⟩:=I1.sqB k1;refine Zc w1 λe j h' y0 y1 D n1 ge sj all=>wpAny_pyIter_enum ge ?_
 refine⟨e,[e,j],_,_,H1,rfl,I1.kept all,Zd D n1,⟨⟨_,ge⟩,(Aea.1 sj).1⟩,λb m=>?_,q⟩
 have le:s1.heap.objs.size<=b:=by
  grind
 exact I1.fpOk le (I1.hok.fresh le)
def lT (i:Nat)(x:aA):aA:=.tuple [.int i,x]
def n8 (fa:AF):AF:=λY=>(fa Y).bind λds=>match ds with
 |[x]=>(mC x).bind λxs=>aa (xs.mapIdx lT)
 |_=>ab
theorem Vg{B:Hp}{a1:aC}{ds:aae}(h1:∀ H2,Ext B H2->i6 b1 K H2 a1 xs)(r1:Aap K B ds xs):m9 K B (EZ K b1 a1) (ds.mapIdx lT):=λi H2 x2=>by
 refine⟨λd hd=>?_,λe=>⟨xs,h1 H2 x2,?_⟩⟩
 .rw[List.getElem?_mapIdx] at hd;cases c1:ds[i]? with
  |none=>rw[c1] at hd;simp at hd
  |some d1=>
   rw[c1] at hd;have hd:lT i d1=d:=by simpa using hd
   subst hd;obtain⟨v1,g1,g2⟩:=r1.get c1;refine⟨⟨xs,v1,h1 H2 x2,g1⟩,?_⟩;rintro x H3 ⟨T,x',fr,rfl,k1,rfl⟩;obtain rfl:v1=x':=fM (g1.symm.trans (k1 xs (h1 H2 x2)));have ext:Ext H2 (upd H2 T (.tup [.int i,v1])):=λb u e=>by rw[dY (kT e fr)];exact e
   refine⟨ext,λP2 ya xb=>?_⟩
   have nT:¬ P2 T:=λq=>by
    rcases ya T q with⟨o,e⟩|⟨o,e⟩<;>rw[fr] at e<;>cases e
   have gT:hid (upd H2 T (.tup [.int i,v1])) P2 T=aa (.tup [.int i,v1]):=gD nT fT;have xx:=xb.trans (dD ext);exact Aan.2 ⟨T,_,rfl,gT,Aag.2 ⟨_,_,rfl,Aak.2 rfl,Aag.2 ⟨_,_,rfl,g2.ext xx,Aal.2 rfl⟩⟩⟩
 .rw[List.length_mapIdx] at e;rw[r1.length];exact EH e
theorem xX(hg:Gl X "enumerate")(hm:X.mg "enumerate" = ab)(ha:DA X [a] fa)(hs:bM [a] X.env=[(ag,cA a X.env)]:=by rfl) :
  DI X (.Tuple es cx j7) (.Call (.Name "enumerate" p) [a] [] pos) (n8 fa):=PI.imp (Mk hg hm ha hs) λσ H R gh=>by
 obtain⟨P,Y,ds,hP,rs,ef,k⟩:=gh;obtain⟨as,e1,cm⟩:=ao ef;clear ef
 match as,e1,cm with
 |[x],e1,cm=>
  obtain⟨xs,e2,cv⟩:=ao (show((mC x).bind λxs=>aa (xs.mapIdx lT))=aa ds from cm)
  cases cv;refine⟨P,Y,_,hP,rs,e1,λvs H1 x1 r1=>?_⟩
  obtain⟨v,rfl,q1⟩:=gQ r1;obtain⟨a1,b1,us,rfl,k1,w1⟩:=yO e2 q1;exact⟨a1,b1,us,rfl,k1 _ Aau,k _ H1 x1 (Vg k1 w1)⟩
 |[],_,h=>cases h
 |_::_::_,_,h=>cases h
end
theorem Yq:Adn X (.type "range") (λxs H Q=>∃ j:Int,xs=[.int j]/\∀ a,H a=ab->Q (.ref a) (upd H a (.rng 0 j))):=by
 rw[3];obtain⟨j,rfl,q⟩:=h;obtain⟨u,rfl,t,rfl⟩:=vals1 r;refine call_range_1 ?_;exact⟨.ref s.heap.objs.size,_,I.laid (o:=.rng 0 j) (λb ob g=>cF _ g) (bS _) ⟨_,_,_,dZ _ rfl⟩,rfl,q _ I.fresh⟩
noncomputable def upTo (n:Nat):aae:=(bD n).map λ(k:Nat)=>bC k
noncomputable def og (n:Nat):aag:=(bD n).map λ(k:Nat)=>V.int k
theorem Qx (hc:X.calm=af):Adn X (.type "list") (λxs H Q=>∃ a,∃ j:Int,xs=[.ref a]/\H a=aa (.rng 0 j) /\ -4096<=j/\j<=4096/\∀ l,H l=ab->Q (.ref l) (upd H l (.lst (og j.toNat)))):=by
 rw[3];obtain⟨a,j,rfl,ha,h1,h2,q⟩:=h;obtain⟨u,rfl,ru⟩:=vals1 r;cases ru;obtain⟨t,u,v,g⟩:=(show Ac5 X.prog X.w H s.heap a (.rng 0 j) from I.hok a _ ha)
 have hn:Builtin.Range.rangeSize 0 j 1=(j.toNat:Int):=by rw[rangeSize_one];split<;>lia
 refine call_list_range (I.ok.hd hc) g (small_one () () () ()) hn () λh' tk l5 c' hk hS ee=>?_
 have hv:Vals (og j.toNat) l5.toList:=by
  refine JO (by simp[og,ee.1]) λi x u h1 h2=>?_
  obtain⟨t',rfl⟩:=ee.2 i u (by simpa using h2)
  have hi:i<j.toNat:=by
   have:=(eW.1 h1).1;simpa [og] using this
  have:(og j.toNat)[i]?=aa (V.int i):=by simp[og,hi]
  rw[this] at h1;cases h1;exact⟨t',by simp⟩
 exact⟨.ref s.heap.objs.size,_,I.laid hk (bS _) (show Ac5 X.prog X.w _ h' _ (.lst (og j.toNat)) from⟨by simp[og,pL];lia,l5.toList,c',hv,by simpa using hS⟩),rfl,q _ I.fresh⟩
theorem Yi(n:Nat):Aap K H (upTo n) (og n):=by
 unfold upTo og;generalize bD n=l;induction l with
 |nil=>exact Aal.2 rfl
 |cons a l ih=>exact Aag.2 ⟨_,_,rfl,Aak.2 rfl,ih⟩
def YV:aae->aaf
 |[.int j]=>if -4096<=j/\j<=4096 then aa (.list (upTo j.toNat)) else ab
 |_=>ab
theorem Xu{fe:EF}{ug:bH}(hc:X.calm=af)(g1:Gl X "list")(m1:X.mg "list" = ab)(g2:Gl X "range")(m2:X.mg "range" = ab)(he:DE X e fe)
  (ja:bM [AD (.Name "range" p2) [e] [] gx] X.env=[(ag,cA (AD (.Name "range" p2) [e] [] gx) X.env)]:=by rfl) (gw:bM [e] X.env=[(ag,cA e X.env)]:=by rfl) :
  DF 1 X (.Call (.Name "list" p1) [.Call (.Name "range" p2) [e] [] gx] [] ug) (aL YV (aE fe aH)):=by
 have h1:PE X (.Call (.Name "range" p2) [e] [] gx) _:=CL Yq g2 m2 rfl (gX he kQ gw) nofun nofun gw rfl
 have h2:PE X (.Call (.Name "list" p1) [.Call (.Name "range" p2) [e] [] gx] [] ug) _:=CL (Qx hc) g1 m1 rfl (gX h1 kQ ja) nofun nofun ja rfl
 refine PE.imp h2 λσ H Q gh=>?_
 rw[2];obtain⟨K2,e0,ef⟩:=ao ef;obtain⟨d1,e1,e0⟩:=ao e0;have e0:[d1]=K2:=by simpa [aH] using e0
 subst e0;cases d1 with
 |int j=>
  obtain⟨hl,rfl⟩:=cX (show(if -4096<=j/\j<=4096 then aa (kJ (upTo j.toNat)) else ab)=aa d from ef)
  refine⟨P,Y,.int j,hP,rs,e1,eI λv H1 x1 r1=>?_⟩
  obtain rfl:=Aak.1 r1;refine⟨j,rfl,λa hn=>⟨a,j,rfl,fT,hl.1,hl.2,λl ql=>?_⟩⟩
  have x2:Ext H (upd H1 a (.rng 0 j)):=x1.trans (Ext.new hn);exact(k.mono x2).lst (hP.ext x2) ql (Yi _)
 |_=>cases ef
def CZ (m:Md)(f:EF)(T:aA->aQ->aar):SF:=λY=>(eV 0 m f Y).bind λd=>(T d Y).bind λY'=>aa (.nx Y')
theorem Mw {tg:aS}{T:aA->aQ->aar}(m:Md)(he:DE X e f)(hg:DG X H0 P0 tg T)(hs:swapsWithSole [tg] e pos.line X.env=pure ag:=by rfl)(hw:swappedStores [tg] e X.env=pure ab:=by rfl)
  (h1:(gH [tg] X.env).map (·.2)=[nB tg X.env]:=by rfl):DS X H0 P0 n0 (.Assign [tg] e pos) (CZ m f T):=PS.imp (Gy (ev m he) hg hs hw h1) λD σ H gh=>by
 rw[4];obtain⟨d,e1,ef⟩:=ao ef;obtain⟨Y',e2,ef⟩:=ao ef;cases ef;refine⟨B0,Y,fp,d,S,e1,λv H' gh=>?_⟩
 obtain⟨cu,S',r⟩:=gh;exact⟨B0,Y,cu,d,Y',S',r.2,e2,λσ' f9 S2=>k _ _ f9 S2⟩
open PySem PySem.W PyProof.Rows
def bg {α:Type}(lt:Nat->Nat->Bool):KasT α->α
 |.ret a=>a
 |.ask i j k=>bg lt (k (lt i j))
theorem uT {α β:Type}(lt:Nat->Nat->Bool)(f:α->KasT β):∀ t:KasT α,bg lt (t.bind f)=bg lt (f (bg lt t))
 |.ret _=>rfl
 |.ask i j k=>uT lt f (k (lt i j))
structure Ord (lt:Nat->Nat->Bool):Prop where
 asym:∀ a b,lt a b=af->lt b a=ag
 tr:∀ a b c,lt b a=ag->lt c b=ag->lt c a=ag
section
variable {lt:Nat->Nat->Bool}(O:Ord lt)
abbrev at' (p:Array Nat)(i:Nat):Nat:=p.getD i 0
def hX (lt:Nat->Nat->Bool)(p:Array Nat)(m:Nat):Prop:=∀ i j,i<=j->j<m->lt (at' p j) (at' p i)=ag
def rT (lt:Nat->Nat->Bool)(p:Array Nat)(m:Nat):Prop:=∀ i j,i<=j->j<m->lt (at' p i) (at' p j)=ag
include O
theorem Ord.refl (a:Nat):lt a a=ag:=by
 cases h:lt a a with
 |false=>rfl
 |true=>exact absurd (O.asym a a h) (by rw[h];decide)
theorem Ky(h1:1<=n)(h:hX lt p n)(hl:lt (at' p n) (at' p (n-1))=ag):hX lt p (n+1):=λi j gp hj=>by
 by_cases c:j<n
 .exact h i j gp c
 .obtain rfl:j=n:=()
  by_cases d:i=j
  .subst d;exact O.refl _
  .exact O.tr _ _ _ (h i (j-1) () ()) hl
theorem xV(h1:1<=n)(h:rT lt p n)(hl:lt (at' p (n-1)) (at' p n)=ag):rT lt p (n+1):=λi j gp hj=>by
 by_cases c:j<n
 .exact h i j gp c
 .obtain rfl:j=n:=()
  by_cases d:i=j
  .subst d;exact O.refl _
  .exact O.tr _ _ _ hl (h i (j-1) () ())
theorem Oe (p:Array Nat):hX lt p 1:=λi j gp hj=>by
 obtain rfl:j=0:=()
 obtain rfl:i=0:=()
 exact O.refl _
theorem GN:∀ (f n:Nat),1<=n->hX lt p n->n<=bg lt (kas_asc p f n)/\bg lt (kas_asc p f n)<=n+f/\hX lt p (bg lt (kas_asc p f n))/\(bg lt (kas_asc p f n)<n+f->lt (at' p (bg lt (kas_asc p f n))) (at' p (bg lt (kas_asc p f n)-1))=af)
 |0,n,h1,h=>⟨bS _,bS _,h,λz=>absurd z (by show ¬ n<n+0;lia)⟩
 |f+1,n,h1,h=>by
  have e:bg lt (kas_asc p (f+1) n)=bg lt (if lt (at' p n) (at' p (n-1))=af then KasT.ret n else kas_asc p f (n+1)):=rfl
  rw[e];by_cases c:lt (at' p n) (at' p (n-1))=af
  .rw[if_pos c];exact⟨bS _,by show n<=n+(f+1);lia,h,λ_=>c⟩
  .rw[if_neg c];obtain⟨a1,a2,a3,a4⟩:=GN f (n+1) () (Ky O h1 h (by simpa using c))
   exact⟨(),(),a3,λz=>a4 ()⟩
theorem IP(h:hX lt p k):∀ (f l r:Nat),l<=r->r<=k->r-l<=f->(∀ i<l,lt (at' p k) (at' p i)=ag)->(∀ i,r<=i->i<k->lt (at' p i) (at' p k)=ag) ->
  bg lt (kas_place p k f l r)<=k/\(∀ i<bg lt (kas_place p k f l r),lt (at' p k) (at' p i)=ag)/\∀ i,bg lt (kas_place p k f l r)<=i->i<k->lt (at' p i) (at' p k)=ag
 |0,l,r,h1,h2,h3,hl,hr=>by
  have e:bg lt (kas_place p k 0 l r)=l:=rfl;obtain rfl:l=r:=()
  rw[e];exact⟨h2,hl,hr⟩
 |f+1,l,r,h1,h2,h3,hl,hr=>by
  unfold kas_place;by_cases c:l ≥ r
  .rw[if_pos c];obtain rfl:l=r:=()
   exact⟨h2,hl,hr⟩
  .rw[if_neg c];show bg lt (if lt (at' p k) (at' p ((l+r)/2))=af then kas_place p k f l ((l+r)/2) else kas_place p k f ((l+r)/2+1) r)<=k/\_
   by_cases d:lt (at' p k) (at' p ((l+r)/2))=af
   .have e:bg lt (KasT.ask (p.getD k 0) (p.getD ((l+r)/2) 0) λc=>if c=af then kas_place p k f l ((l+r)/2) else kas_place p k f ((l+r)/2+1) r)=bg lt (kas_place p k f l ((l+r)/2)):=by
     show bg lt (if lt (at' p k) (at' p ((l+r)/2))=af then _ else _)=_
     rw[if_pos d]
    rw[e,if_pos d];exact IP h f l ((l+r)/2) () () () hl λi a b=>O.tr _ _ _ (O.asym _ _ d) (h _ i a b)
   .have d':lt (at' p k) (at' p ((l+r)/2))=ag:=by simpa using d
    have e:bg lt (KasT.ask (p.getD k 0) (p.getD ((l+r)/2) 0) λc=>if c=af then kas_place p k f l ((l+r)/2) else kas_place p k f ((l+r)/2+1) r)=bg lt (kas_place p k f ((l+r)/2+1) r):=by
     show bg lt (if lt (at' p k) (at' p ((l+r)/2))=af then _ else _)=_
     rw[if_neg d]
    rw[e,if_neg d];refine IP h f ((l+r)/2+1) r () h2 () (λi hi=>?_) hr
    exact O.tr _ _ _ (h i ((l+r)/2) () ()) d'
end
theorem at_of(i:Nat):at' p i=(p[i]?).getD 0:=Array.getD_eq_getD_getElem?
theorem ZZ{l:Nat}(hk:k<p.size)(hl:l<=k)(i:Nat):at' (bubble p k (k-l)) i=if i=l then at' p k else if l<i/\i<=k then at' p (i-1) else at' p i:=by
 have e:k-(k-l)=l:=()
 have q:=getElem?_bubble hk (k-l) () i
 rw[e] at q;simp only[at_of,q];split
 .rfl
 .split<;>rfl
theorem mS(hj:j<=p.size)(k:Nat):at' (kas_rev p i j) k=if i<=k/\k<j then at' p (i+j-1-k) else at' p k:=by
 have q:=getElem?_mirror_all (i:=i) hj k;simp only[at_of];unfold kas_rev;rw[q];split<;>rfl
theorem HX (p:Array Nat)(i j:Nat):(kas_rev p i j).size=p.size:=mirror_size _ _ _ _
theorem qX (p:Array Nat)(i j:Nat):(kas_rev p i j).Perm p:=mirror_perm _ _ _ _
section
variable {lt:Nat->Nat->Bool}(O:Ord lt)
include O
theorem OL:∀ (f:Nat) (p:Array Nat) (k:Nat),hX lt p k->k+f<=p.size->(bg lt (kas_bin f p k)).Perm p/\hX lt (bg lt (kas_bin f p k)) (k+f)
 |0,p,k,h,_=>⟨EW _,h⟩
 |f+1,p,k,h,hz=>by
  have e:bg lt (kas_bin (f+1) p k)=bg lt (kas_bin f (bubble p k (k-bg lt (kas_place p k k 0 k))) (k+1)):=by
   show bg lt ((kas_place p k k 0 k).bind λl=>kas_bin f (bubble p k (k-l)) (k+1))=_
   rw[uT]
  obtain⟨h1,h2,h3⟩:=IP O h k 0 k (fY _) (bS _) () (λi hi=>absurd hi ()) (λi a b=>absurd b ())
  rw[e];generalize bg lt (kas_place p k k 0 k)=l at h1 h2 h3;have hk:k<p.size:=()
  have A':hX lt (bubble p k (k-l)) (k+1):=λi j gp hj=>by
   rw[ZZ hk h1,ZZ hk h1];by_cases ci:i=l
   .rw[if_pos ci];by_cases cj:j=l
    .rw[if_pos cj];exact O.refl _
    .rw[if_neg cj,if_pos ⟨(),()⟩]
     exact h3 (j-1) () ()
   .rw[if_neg ci];by_cases cj:j=l
    .rw[if_pos cj,if_neg ()]
     exact h2 i ()
    .rw[if_neg cj];by_cases di:l<i/\i<=k
     .rw[if_pos di,if_pos ⟨(),()⟩]
      exact h (i-1) (j-1) () ()
     .rw[if_neg di];by_cases dj:l<j/\j<=k
      .rw[if_pos dj];exact h i (j-1) () ()
      .rw[if_neg dj];exact h i j gp ()
  obtain⟨a1,a2⟩:=OL f (bubble p k (k-l)) (k+1) A' (by rw[bubble_size];lia)
  exact⟨a1.trans (bubble_perm _ _ _),by rw[show k+(f+1)=k+1+f by lia];exact a2⟩
structure Fall (lt:Nat->Nat->Bool)(p:Array Nat)(n q:Nat):Prop where
 pos:q+1<=n
 dsc:rT lt p n
 eq:∀ i j,n-(q+1)<=i->i<n->n-(q+1)<=j->j<n->lt (at' p i) (at' p j)=ag
theorem Fall.rev{q:Nat}(F:Fall lt p n q)(hz:n<=p.size):Fall lt (kas_rev p (n-(q+1)) n) n q:=by
 have hp:=F.pos;refine⟨hp,λi j gp hj=>?_,λi j a b c d=>?_⟩
 .rw[mS hz,mS hz];by_cases ci:n-(q+1)<=i/\i<n
  .rw[if_pos ci,if_pos ⟨(),hj⟩]
   exact F.eq _ _ () () () ()
  .rw[if_neg ci];by_cases cj:n-(q+1)<=j/\j<n
   .rw[if_pos cj];exact F.dsc _ _ () ()
   .rw[if_neg cj];exact F.dsc i j gp hj
 .rw[mS hz,mS hz,if_pos ⟨a,b⟩,if_pos ⟨c,d⟩];exact F.eq _ _ () () () ()
theorem BZ:∀ (f:Nat) (p:Array Nat) (n q:Nat),Fall lt p n q->n+f<=p.size->(bg lt (kas_desc f p n q)).1.Perm p/\n<=(bg lt (kas_desc f p n q)).2.1/\(bg lt (kas_desc f p n q)).2.1<=n+f/\Fall lt (bg lt (kas_desc f p n q)).1 (bg lt (kas_desc f p n q)).2.1 (bg lt (kas_desc f p n q)).2.2
 |0,p,n,q,F,_=>⟨EW _,bS _,bS _,F⟩
 |f+1,p,n,q,F,hz=>by
  have hp:=F.pos;have e:bg lt (kas_desc (f+1) p n q)=bg lt (if lt (at' p n) (at' p (n-1))=af then(if q > 0 then kas_desc f (kas_rev p (n-(q+1)) n) (n+1) 0 else kas_desc f p (n+1) 0) else KasT.ask (p.getD (n-1) 0) (p.getD n 0) λd=>if d=af then .ret (p,n,q) else kas_desc f p (n+1) (q+1)):=rfl
  rw[e];by_cases c:lt (at' p n) (at' p (n-1))=af
  .rw[if_pos c];by_cases hq:q > 0
   .rw[if_pos hq];have F':=F.rev O ()
    have hn:at' (kas_rev p (n-(q+1)) n) n=at' p n:=by rw[mS (),if_neg ()]
    have F2:Fall lt (kas_rev p (n-(q+1)) n) (n+1) 0:=by
     refine⟨(),xV O () F'.dsc ?_,λi j a b c' d=>?_⟩
     .rw[hn,mS (),if_pos ⟨(),()⟩]
      exact O.tr _ _ _ (O.asym _ _ c) (F.eq _ _ () () () ())
     .obtain rfl:i=n:=()
      obtain rfl:j=i:=()
      exact O.refl _
    obtain⟨a1,a2,a3,a4⟩:=BZ f _ (n+1) 0 F2 (by rw[HX];lia)
    exact⟨a1.trans (qX _ _ _),(),(),a4⟩
   .rw[if_neg hq];have F2:Fall lt p (n+1) 0:=by
     refine⟨(),xV O () F.dsc (O.asym _ _ c),λi j a b c' d=>?_⟩
     obtain rfl:i=n:=()
     obtain rfl:j=i:=()
     exact O.refl _
    obtain⟨a1,a2,a3,a4⟩:=BZ f _ (n+1) 0 F2 ()
    exact⟨a1,(),(),a4⟩
  .rw[if_neg c];have c':lt (at' p n) (at' p (n-1))=ag:=by simpa using c
   have e2:bg lt (KasT.ask (p.getD (n-1) 0) (p.getD n 0) λd=>if d=af then .ret (p,n,q) else kas_desc f p (n+1) (q+1))=bg lt (if lt (at' p (n-1)) (at' p n)=af then .ret (p,n,q) else kas_desc f p (n+1) (q+1)):=rfl
   rw[e2];by_cases d:lt (at' p (n-1)) (at' p n)=af
   .rw[if_pos d];exact⟨EW _,bS _,by show n<=n+(f+1);lia,F⟩
   .rw[if_neg d];have d':lt (at' p (n-1)) (at' p n)=ag:=by simpa using d
    have F2:Fall lt p (n+1) (q+1):=by
     refine⟨(),xV O () F.dsc d',λi j a b a' b'=>?_⟩
     by_cases ci:i=n
     .by_cases cj:j=n
      .rw[ci,cj];exact O.refl _
      .rw[ci];exact O.tr _ _ _ (F.eq (n-1) j () () () ()) c'
     .by_cases cj:j=n
      .rw[cj];exact O.tr _ _ _ d' (F.eq i (n-1) () () () ())
      .exact F.eq i j () () () ()
    obtain⟨a1,a2,a3,a4⟩:=BZ f _ (n+1) (q+1) F2 ()
    exact⟨a1,(),(),a4⟩
end
section
variable {lt:Nat->Nat->Bool}(O:Ord lt)
include O
theorem Lu(h:rT lt p n)(hz:n<=p.size):hX lt (kas_rev p 0 n) n:=λi j gp hj=>by
 rw[mS hz,mS hz,if_pos ⟨fY _,hj⟩,if_pos ⟨fY _,()⟩]
 exact h _ _ () ()
theorem RT(h1:1<=n)(hn:n<=m)(hz:m<=p.size)(h:rT lt p n):(bg lt (kas_tail3 n m p)).2.Perm p/\(bg lt (kas_tail3 n m p)).1<=m/\1<=(bg lt (kas_tail3 n m p)).1/\hX lt (bg lt (kas_tail3 n m p)).2 (bg lt (kas_tail3 n m p)).1:=by
 unfold kas_tail3;rw[uT];obtain⟨a1,a2,a3,_⟩:=GN O (m-n) n h1 (Lu O h ())
 exact⟨qX _ _ _,by show bg lt (kas_asc (kas_rev p 0 n) (m-n) n)<=m;lia,by show 1<=bg lt (kas_asc (kas_rev p 0 n) (m-n) n);lia,a3⟩
theorem RQ(h1:1<=n)(hn:n+1<=m)(hz:m<=p.size)(h:rT lt p (n+1)):(bg lt (kas_descPart n m p)).2.Perm p/\(bg lt (kas_descPart n m p)).1<=m/\1<=(bg lt (kas_descPart n m p)).1/\hX lt (bg lt (kas_descPart n m p)).2 (bg lt (kas_descPart n m p)).1:=by
 have F0:Fall lt p (n+1) 0:=⟨(),h,λi j a b c d=>by
  obtain rfl:i=n:=()
  obtain rfl:j=i:=()
  exact O.refl _⟩
 obtain⟨a1,a2,a3,a4⟩:=BZ O (m-(n+1)) p (n+1) 0 F0 ()
 unfold kas_descPart;rw[uT];generalize bg lt (kas_desc (m-(n+1)) p (n+1) 0)=r at a1 a2 a3 a4;have hs:=a1.size_eq;split
 .have F':=a4.rev O ()
  obtain⟨b1,b2,b3,b4⟩:=RT O () () (by rw[HX];lia) F'.dsc (m:=m)
  exact⟨b1.trans ((qX _ _ _).trans a1),b2,b3,b4⟩
 .obtain⟨b1,b2,b3,b4⟩:=RT O () () () a4.dsc (m:=m)
  exact⟨b1.trans a1,b2,b3,b4⟩
theorem UM(h1:1<=m)(hz:m<=p.size):(bg lt (kas_count m p)).2.Perm p/\(bg lt (kas_count m p)).1<=m/\1<=(bg lt (kas_count m p)).1/\hX lt (bg lt (kas_count m p)).2 (bg lt (kas_count m p)).1:=by
 obtain⟨a1,a2,a3,a4⟩:=GN O (m-1) 1 (bS _) (Oe O p);unfold kas_count;rw[uT];generalize bg lt (kas_asc p (m-1) 1)=n at a1 a2 a3 a4;by_cases c:(n==m)=af
 .rw[if_pos c];exact⟨EW _,by show n<=m;lia,a1,a3⟩
 .rw[if_neg c];have uh:n≠m:=by simpa using c
  have hl:=a4 ()
  by_cases d:n > 1
  .rw[if_pos d];show(bg lt (if lt (at' p 0) (at' p (n-1))=af then KasT.ret (n,p) else kas_descPart n m (kas_rev p 0 n))).2.Perm p/\(bg lt (if lt (at' p 0) (at' p (n-1))=af then KasT.ret (n,p) else kas_descPart n m (kas_rev p 0 n))).1<=m/\1<=(bg lt (if lt (at' p 0) (at' p (n-1))=af then KasT.ret (n,p) else kas_descPart n m (kas_rev p 0 n))).1/\hX lt (bg lt (if lt (at' p 0) (at' p (n-1))=af then KasT.ret (n,p) else kas_descPart n m (kas_rev p 0 n))).2 (bg lt (if lt (at' p 0) (at' p (n-1))=af then KasT.ret (n,p) else kas_descPart n m (kas_rev p 0 n))).1
   by_cases e:lt (at' p 0) (at' p (n-1))=af
   .rw[if_pos e];exact⟨EW _,by show n<=m;lia,a1,a3⟩
   .rw[if_neg e];have e':lt (at' p 0) (at' p (n-1))=ag:=by simpa using e
    have same:∀ i j,i<n->j<n->lt (at' p i) (at' p j)=ag:=λi j hi hj=>
     O.tr _ (at' p 0) _ (O.tr _ _ _ (a3 j (n-1) () ()) e') (a3 0 i (fY _) hi)
    have D:rT lt (kas_rev p 0 n) (n+1):=by
     refine xV O a1 (λi j gp hj=>?_) ?_
     .rw[mS (),mS (),if_pos ⟨fY _,()⟩,if_pos ⟨fY _,hj⟩]
      exact same _ _ () ()
     .rw[mS (),mS (),if_pos ⟨fY _,()⟩,if_neg ()]
      exact O.tr _ _ _ (O.asym _ _ hl) (same _ _ () ())
    obtain⟨b1,b2,b3,b4⟩:=RQ O a1 () (by rw[HX];exact hz) D (m:=m)
    exact⟨b1.trans (qX _ _ _),b2,b3,b4⟩
  .rw[if_neg d];obtain rfl:n=1:=()
   exact RQ O (bS _) () hz (xV O (bS _) (λi j gp hj=>by
    obtain rfl:j=0:=()
    obtain rfl:i=0:=()
    exact O.refl _) (O.asym _ _ hl))
theorem RP(h1:1<=n):(bg lt (kas_sort n)).Perm (jD (bD n))/\hX lt (bg lt (kas_sort n)) n:=by
 have hs:(jD (bD n)).size=n:=by simp
 obtain⟨a1,a2,a3,a4⟩:=UM O h1 (by rw[hs];exact bS _)
 unfold kas_sort;rw[uT];generalize bg lt (kas_count n (jD (bD n)))=r at a1 a2 a3 a4;have hz:=a1.size_eq.trans hs;split
 .have em:max r.1 1=r.1:=()
  rw[em];obtain⟨b1,b2⟩:=OL O (n-r.1) r.2 r.1 a4 ()
  exact⟨b1.trans a1,by rw[show r.1+(n-r.1)=n by lia] at b2;exact b2⟩
 .have:r.1=n:=()
  exact⟨a1,by rw[this] at a4;exact a4⟩
end
def iI {α:Type}(lt:Nat->Nat->Bool)(N:Nat):KasT α->Prop
 |.ret _=>True
 |.ask i j k=>(i<N/\j<N)/\iI lt N (k (lt i j))
theorem uV {α β:Type}{lt:Nat->Nat->Bool}{f:α->KasT β}:∀ {t:KasT α},iI lt N t->iI lt N (f (bg lt t))->iI lt N (t.bind f)
 |.ret _,_,h=>h
 |.ask i j k,h,h2=>⟨h.1,uV h.2 h2⟩
theorem NT {α:Type}{lt:Nat->Nat->Bool}{ui:Nat->Nat->(Bool->aK->Prop)->aK->Prop}(hc:∀ i j (C:Bool->aK->Prop),i<N->j<N->C (lt i j) s->ui i j C s){Q:α->aK->Prop}:∀ {t:KasT α},iI lt N t->Q (bg lt t) s->t.kasWp ui Q s
 |.ret _,_,h=>h
 |.ask i j k,h,q=>hc i j _ h.1.1 h.1.2 (NT hc h.2 q)
abbrev El (N:Nat)(p:Array Nat):Prop:=∀ x∈p,x<N
theorem El.at(h:El N p)(h0:0<N)(i:Nat):at' p i<N:=by
 rw[at_of];cases e:p[i]? with
 |none=>exact h0
 |some v=>exact h v (Array.mem_of_getElem? e)
theorem El.perm{q:Array Nat}(h:El N p)(x:q.Perm p):El N q:=λv m=>h v (x.mem_iff.1 m)
section
variable {lt:Nat->Nat->Bool}(h0:0<N)
include h0
theorem KN(h:El N p):∀ f n,iI lt N (kas_asc p f n)
 |0,_=>trivial
 |f+1,n=>by
  refine⟨⟨h.at h0 _,h.at h0 _⟩,?_⟩;show iI lt N (if lt (at' p n) (at' p (n-1))=af then KasT.ret n else kas_asc p f (n+1))
  by_cases c:lt (at' p n) (at' p (n-1))=af
  .rw[if_pos c];trivial
  .rw[if_neg c];exact KN h f (n+1)
theorem HY(h:El N p):∀ f l r,iI lt N (kas_place p k f l r)
 |0,_,_=>trivial
 |f+1,l,r=>by
  unfold kas_place;by_cases c:l ≥ r
  .rw[if_pos c];trivial
  .rw[if_neg c];refine⟨⟨h.at h0 _,h.at h0 _⟩,?_⟩;show iI lt N (if lt (at' p k) (at' p ((l+r)/2))=af then kas_place p k f l ((l+r)/2) else kas_place p k f ((l+r)/2+1) r)
   by_cases d:lt (at' p k) (at' p ((l+r)/2))=af
   .rw[if_pos d];exact HY h f _ _
   .rw[if_neg d];exact HY h f _ _
theorem YX:∀ (f:Nat) (p:Array Nat) (k:Nat),El N p->iI lt N (kas_bin f p k)
 |0,_,_,_=>trivial
 |f+1,p,k,h=>uV (HY h0 h k 0 k) (YX f _ _ (h.perm (bubble_perm _ _ _)))
theorem BK:∀ (f:Nat) (p:Array Nat) (n q:Nat),El N p->iI lt N (kas_desc f p n q)/\El N (bg lt (kas_desc f p n q)).1
 |0,_,_,_,h=>⟨trivial,h⟩
 |f+1,p,n,q,h=>by
  have e:bg lt (kas_desc (f+1) p n q)=bg lt (if lt (at' p n) (at' p (n-1))=af then(if q > 0 then kas_desc f (kas_rev p (n-(q+1)) n) (n+1) 0 else kas_desc f p (n+1) 0) else KasT.ask (p.getD (n-1) 0) (p.getD n 0) λd=>if d=af then .ret (p,n,q) else kas_desc f p (n+1) (q+1)):=rfl
  have g:iI lt N (kas_desc (f+1) p n q)↔(at' p n<N/\at' p (n-1)<N)/\iI lt N (if lt (at' p n) (at' p (n-1))=af then(if q > 0 then kas_desc f (kas_rev p (n-(q+1)) n) (n+1) 0 else kas_desc f p (n+1) 0) else KasT.ask (p.getD (n-1) 0) (p.getD n 0) λd=>if d=af then .ret (p,n,q) else kas_desc f p (n+1) (q+1)):=Iff.rfl
  rw[g,e];by_cases c:lt (at' p n) (at' p (n-1))=af
  .rw[if_pos c];by_cases hq:q > 0
   .rw[if_pos hq];obtain⟨a,b⟩:=BK f _ (n+1) 0 (h.perm (qX p (n-(q+1)) n));exact⟨⟨⟨h.at h0 _,h.at h0 _⟩,a⟩,b⟩
   .rw[if_neg hq];obtain⟨a,b⟩:=BK f _ (n+1) 0 h;exact⟨⟨⟨h.at h0 _,h.at h0 _⟩,a⟩,b⟩
  .rw[if_neg c];have e2:bg lt (KasT.ask (p.getD (n-1) 0) (p.getD n 0) λd=>if d=af then .ret (p,n,q) else kas_desc f p (n+1) (q+1))=bg lt (if lt (at' p (n-1)) (at' p n)=af then .ret (p,n,q) else kas_desc f p (n+1) (q+1)):=rfl
   have g2:iI lt N (KasT.ask (p.getD (n-1) 0) (p.getD n 0) λd=>if d=af then .ret (p,n,q) else kas_desc f p (n+1) (q+1))↔(at' p (n-1)<N/\at' p n<N)/\iI lt N (if lt (at' p (n-1)) (at' p n)=af then .ret (p,n,q) else kas_desc f p (n+1) (q+1)):=Iff.rfl
   rw[g2,e2];by_cases d:lt (at' p (n-1)) (at' p n)=af
   .rw[if_pos d];exact⟨⟨⟨h.at h0 _,h.at h0 _⟩,⟨h.at h0 _,h.at h0 _⟩,trivial⟩,h⟩
   .rw[if_neg d];obtain⟨a,b⟩:=BK f _ (n+1) (q+1) h;exact⟨⟨⟨h.at h0 _,h.at h0 _⟩,⟨h.at h0 _,h.at h0 _⟩,a⟩,b⟩
theorem PL(n m:Nat)(h:El N p):iI lt N (kas_tail3 n m p):=uV (KN h0 (h.perm (qX _ _ _)) _ _) trivial
theorem OM(n m:Nat)(h:El N p):iI lt N (kas_descPart n m p):=by
 obtain⟨a,b⟩:=BK h0 (m-(n+1)) p (n+1) 0 h;refine uV a ?_;split
 .exact PL h0 _ _ (b.perm (qX _ _ _))
 .exact PL h0 _ _ b
theorem Wv(m:Nat)(h:El N p):iI lt N (kas_count m p):=by
 refine uV (KN h0 h _ _) ?_;generalize bg lt (kas_asc p (m-1) 1)=n;by_cases c:(n==m)=af
 .rw[if_pos c];trivial
 .rw[if_neg c];by_cases d:n > 1
  .rw[if_pos d];refine⟨⟨h.at h0 _,h.at h0 _⟩,?_⟩;show iI lt N (if lt (at' p 0) (at' p (n-1))=af then KasT.ret (n,p) else kas_descPart n m (kas_rev p 0 n))
   by_cases e:lt (at' p 0) (at' p (n-1))=af
   .rw[if_pos e];trivial
   .rw[if_neg e];exact OM h0 _ _ (h.perm (qX _ _ _))
  .rw[if_neg d];exact OM h0 _ _ h
end
theorem Ms {lt:Nat->Nat->Bool}(O:Ord lt)(h1:1<=n):iI lt n (kas_sort n):=by
 have hs:(jD (bD n)).size=n:=by simp
 have h:El n (jD (bD n)):=λx m=>by simpa using m
 refine uV (Wv () n h) ?_
 obtain⟨a1,_⟩:=UM O h1 (by rw[hs];exact bS _)
 generalize bg lt (kas_count n (jD (bD n)))=r at a1;split
 .exact YX () _ _ _ (h.perm a1)
 .trivial
theorem Uw {lt:Nat->Nat->Bool}(O:Ord lt)(h1:1<=n){ui:Nat->Nat->(Bool->aK->Prop)->aK->Prop}(hc:∀ i j (C:Bool->aK->Prop),i<n->j<n->C (lt i j) s->ui i j C s){G:Array Nat->aK->Prop}
  (h:∀ p:Array Nat,p.Perm (jD (bD n))->hX lt p n->G p s):(kas_sort n).kasWp ui G s:=
 NT hc (Ms O h1) (h _ (RP O h1).1 (RP O h1).2)
abbrev Dn (a:aC)(h h':aY):Prop:=∀ b o,b≠a->h.get? b=aa o->h'.get? b=aa o
abbrev oH (h:aY)(a:aC)(vs:aal):aY:=((h.update a (jL λ_=>#[])).push (gM "tuple" vs.toArray 0)).push (gM "list" #[] 0)
theorem Nn:Dn a h (oH h a vs):=λb o hb e=>
 cF _ (cF _ (((AB h a (jL λ_=>(#[]:Array aF))).2 b hb).trans e))
theorem Ur{κ:SortKind}{lt:Nat->Nat->Bool}{P:PySem.Fin->aK->Prop}(O:Ord lt)(ho:s.heap.get? a=aa (gM "list" vs.toArray n))(h2:2<=vs.length)(oy:vs.length<64)
  (hk:∀ (Q:SortKind->aK->Prop),Q κ { s with heap:=oH s.heap a vs }->aP (aW prog w) A (keyKind' vs.toArray) Q E { s with heap:=oH s.heap a vs })
  (hc:∀ i j (C:Bool->aK->Prop),i<vs.length->j<vs.length->C (lt i j) { s with heap:=oH s.heap a vs }->aP (aW prog w) A (keyLt' κ (vs.getD i gS) (vs.getD j gS)) C (λ_ _=>False) { s with heap:=oH s.heap a vs })
  (h:∀ p:Array Nat,p.Perm (jD (bD vs.length))->hX lt p vs.length->P (.done (.ret .none)) { s with heap:=sortedHeap s.heap a vs (jD (p.toList.map λi=>vs.getD i gS)) }) :
  aP (aW prog w) A (Builtin.«list.sort» ⟨[.ref a],[]⟩) P E s:=by
 have lz:vs.length<=sizeLine:=by rw[pL];lia
 have ha:=bX ho;obtain⟨e1,uj⟩:∃ e,(s.heap.update a (jL λ_=>(#[]:Array aF))).get? a=aa (gM "list" #[] e):=⟨_,get?_update_seq ho λ_=>#[]⟩
 have uk:(oH s.heap a vs).get? a=aa (gM "list" #[] e1):=cF _ (cF _ uj);rw[list_sort_plain];refine aI (zR ho rfl (aI (zQ ho rfl (aI (seqEpoch_at uj rfl (aI (DX (aI (zN (kH ?_) (fY _))) (by simpa using lz))))) (by rw[fR];exact lz) (fY _))))
 dsimp only;have big:¬ vs.toArray.size<2:=by rw[fR];lia
 rw[if_neg big,if_neg big];refine aI (hk _ ?_);have eS:SortSt.mk' κ (vs.toArray.zip vs.toArray) #[] 7 ab=kas_st κ (pairsOf vs) (jD (bD vs.length)):=by
  have e:=kas_range (pairsOf vs);rw[pairsOf_size] at e;unfold kas_st;rw[e]
  rfl
 have run:=kas_runs (E:=E) (Q:=λ_ jh s'=>s'={ s with heap:=oH s.heap a vs }/\∃ p:Array Nat,p.Perm (jD (bD vs.length))/\hX lt p vs.length/\arrOf jh=p.map (kas_item (pairsOf vs))/\failedOf jh=ab)
  (G:=λp s'=>s'={ s with heap:=oH s.heap a vs }/\p.Perm (jD (bD vs.length))/\hX lt p vs.length) h2 oy (λp' jh s' a1 a2 a3 ⟨b1,b2,b3⟩=>⟨b1,p',b2,b3,a2,a3⟩)
  (Uw O () (λi j C hi hj q=>by
   unfold kas_cmp;rw[kas_item_eq,kas_item_eq];exact hc i j C hi hj q) λp b1 b2=>⟨rfl,b1,b2⟩)
 rw[<-eS] at run;refine aI (lP run ?_ λ_ _ e=>e)
 rintro⟨⟨⟩,jh⟩ s' ⟨rfl,p,b1,b2,K3,hf⟩;dsimp only;have qt:(arrOf jh).map (·.2)=jD (p.toList.map λi=>vs.getD i gS):=by
  apply Dl.1;rw[K3,Array.map_map,Array.toList_map];exact kZ λi _=>congrArg Prod.snd (kas_item_eq vs i)
 have B7:p.size=vs.length:=by
  have:=b1.size_eq;simpa using this
 have hsz:(jD (p.toList.map λi=>vs.getD i gS)).size<=sizeLine:=by
  grind
 rw[qt];refine aI (seqEpoch_at uk rfl (aI (zQ uk rfl ?_ (fY _) (Nat.le_succ_of_le hsz))));rw[hf];simp only[bne_self_eq_false,qA,if_false];exact aZ (h p b1 b2)
theorem Pq{κ:SortKind}{lt:Nat->Nat->Bool}(O:Ord lt)(hl:s.heap.IsList l vs.toArray)(h2:2<=vs.length)(oy:vs.length<64)
  (hk:∀ h',(∀ b o,s.heap.get? b=aa o->h'.get? b=aa o)->∀ (A':cP) (E':aF->aK->Prop) (R:SortKind->aK->Prop),R κ { s with heap:=h' }->aP (aW prog w) A' (keyKind' vs.toArray) R E' { s with heap:=h' })
  (hc:∀ h',(∀ b o,s.heap.get? b=aa o->h'.get? b=aa o)->∀ (A':cP),A'.units<=A.units+4->∀ i j (C:Bool->aK->Prop),i<vs.length->j<vs.length->C (lt i j) { s with heap:=h' }->aP (aW prog w) A' (keyLt' κ (vs.getD i gS) (vs.getD j gS)) C (λ_ _=>False) { s with heap:=h' })
  (h:∀ p:Array Nat,p.Perm (jD (bD vs.length))->hX lt p vs.length->Q (.ref (s.heap.objs.size+1)) { s with heap:=sortedAll s.heap vs (jD (p.toList.map λi=>vs.getD i gS)) }) :
  aP (aW prog w) A (call (.builtin "sorted") [.ref l]) Q E s:=by
 refine De kind_sorted plain_sorted entry_sorted (args_sorted1 _) ?_;unfold Builtin.«sorted»;refine aI (aZ (aI (collect_list hl (aI (zN ?_)))));have z:((s.heap.push (gM "list" #[] 0)).update s.heap.objs.size (jL (· ++ vs.toArray))).objs.size=s.heap.objs.size+1:=by rw[Cy,size_push']
 have no:(((s.heap.push (gM "list" #[] 0)).update s.heap.objs.size (jL (· ++ vs.toArray))).push (gM "list" vs.toArray 0)).get? (s.heap.objs.size+1)=aa (gM "list" vs.toArray 0):=z ▸ dZ _ rfl;have kept:∀ b o,s.heap.get? b=aa o->(oH (((s.heap.push (gM "list" #[] 0)).update s.heap.objs.size (jL (· ++ vs.toArray))).push (gM "list" vs.toArray 0)) (s.heap.objs.size+1) vs).get? b=aa o:=λb o e=>by
  have hb:=bX e;refine Nn b o (λq=>?_) (cF _ (((AB _ s.heap.objs.size _).2 b (λq=>?_)).trans (cF _ e)))
  all_goals grind
 rw[z];refine aI (kH (jR slot_list_sort ⟨_,no,rfl⟩ entry_list_sort (Ur O no h2 oy (λR q=>hk _ kept _ _ R q) (λi j C hi hj q=>hc _ kept _ ?_ i j C hi hj q) λp b1 b2=>⟨_,rfl,?_⟩) (args_list_sort _)))
 .grind
 .exact aZ ⟨_,rfl,h p b1 b2⟩
noncomputable def iH:aA->aai
 |.int i=>[0,i]
 |.str x=>1::x.cps.toList.map oV
 |_=>[2]
def dR (ks:aae):bv:=ks.map iH
theorem UL (a b:bv)(h:a<b):¬ b<a:=List.lt_asymm h
theorem UI (a b c:bv)(h1:¬ b<a)(h2:¬ c<b):¬ c<a:=by
 have h1:=h1;have h2:=h2;exact List.le_trans h1 h2
theorem HQ {e:aA}(h1:(∃ i,d=.int i)\/∃ x,d=.str x)(h2:(∃ i,e=.int i)\/∃ x,e=.str x)(h:iH d=iH e):d=e:=by
 rcases h1 with⟨i,rfl⟩|⟨x,rfl⟩<;>rcases h2 with⟨j,rfl⟩|⟨y,rfl⟩
 .simp[iH] at h;rw[h]
 .simp[iH] at h
 .simp[iH] at h
 .have h':x.cps.toList.map oV=y.cps.toList.map oV:=by simpa [iH] using h
  have:=(List.map_inj_right (λa b q=>Int.ofNat.inj q)).1 h'
  have:x=y:=by
   cases x;cases y;simp only at this;rw[Dl.1 this]
  rw[this]
def MY (kss:ld)(i j:Nat):Bool:=decide (dR (kss.getD i [])<dR (kss.getD j []))
theorem Jf (kss:ld):Ord (MY kss):=by
 refine⟨λa b h=>?_,λa b c h1 h2=>?_⟩
 .have:=UL _ _ (of_decide_eq_true h);exact decide_eq_false this
 .exact decide_eq_false (UI _ _ _ (of_decide_eq_false h1) (of_decide_eq_false h2))
mutual
theorem Ah2.rep:∀ (d:aA) {v:V},bU d=af->Ah2 H d v->Abx K H d v
 |.int i,v,_,h=>Aak.2 (by simpa [Ah2] using h)
 |.str i,v,k,h=>Aba.2 ⟨by simpa [Ah2] using h,by simpa [bU] using k⟩
 |.tuple ds,v,k,h=>by
  simp only[Ah2] at h;obtain⟨a,xs,e,s,r⟩:=h;exact Aan.2 ⟨a,xs,e,s,Aej.reps ds (by simpa [bU] using k) r⟩
 |.none,v,k,_=>by simp[bU] at k
 |.bool _,v,k,_=>by simp[bU] at k
 |.list _,v,k,_=>by simp[bU] at k
 |.dict _,v,k,_=>by simp[bU] at k
theorem Aej.reps:∀ (ds:aae) {vs:aag},cW ds=af->Aej H ds vs->Aap K H ds vs
 |[],vs,_,h=>Aal.2 (by simpa [Aej] using h)
 |d::ds,vs,k,h=>by
  have k':bU d=af/\cW ds=af:=by simpa [cW] using k
  simp only[Aej] at h;obtain⟨x,r,e,h1,h2⟩:=h;exact Aag.2 ⟨x,r,e,Ah2.rep d k'.1 h1,Aej.reps ds k'.2 h2⟩
end
theorem Apc.rep{ks:aae}(h:Apc H ks a):Abx K H (.tuple ks) (.ref a):=by
 obtain⟨k,_,xs,e,r⟩:=h;exact Aan.2 ⟨a,xs,rfl,e,Aej.reps ks k r⟩
theorem Abx.tupK{ks:aae}(r:Abx K H (.tuple ks) v)(h1:cW ks=af)(h2:cI ks<=6):∃ a,v=.ref a/\Apc H ks a:=by
 obtain⟨a,xs,e,s,r⟩:=Aan.1 r;exact⟨a,e,h1,h2,xs,s,Aap.keys ks h1 r⟩
theorem XB{H1 G:Hp}(x:∀ c ys,H1 c=aa (.tup ys)->G c=aa (.tup ys)):∀ {kvs:ce} {as:aaj},gJ (λ(p:List aA×V) (b:aC)=>Apc H1 p.1 b) kvs as->Aap K G ((kvs.map (·.1)).map fO) (as.map V.ref)
 |_,_,.nil=>Aal.2 rfl
 |_,_,.cons h t=>Aag.2 ⟨_,_,rfl,(h.keep x).rep,XB x t⟩
noncomputable def lU:aae->Option ld
 |[]=>aa []
 |.tuple ks::r=>if cW ks=af/\cI ks<=6 then(lU r).bind λkss=>aa (ks::kss) else ab
 |_::_=>ab
def uC (aq:ld)(k:aae):ld:=if k∈aq then aq else aq++[k]
def qH (kss:ld):ld:=kss.foldl uC []
def FU:aae->aaf
 |[.tuple ds]=>(lU ds).bind λkss=>if ds.length<sizeLine then aa (.tuple ((qH kss).map fO)) else ab
 |_=>ab
theorem HR:∀ {ds:aae} {kss:ld},lU ds=aa kss->ds=kss.map fO/\∀ ks∈kss,cW ks=af/\cI ks<=6
 |[],kss,h=>by cases h;exact⟨rfl,λ_ m=>by simp at m⟩
 |.tuple ks::r,kss,h=>by
  by_cases c:cW ks=af/\cI ks<=6
  .have h':((lU r).bind λkss=>aa (ks::kss))=aa kss:=by
    have:(if cW ks=af/\cI ks<=6 then(lU r).bind λkss=>aa (ks::kss) else ab)=aa kss:=h
    grind
   obtain⟨k2,e1,e2⟩:=ao h';cases e2;obtain⟨q1,q2⟩:=HR e1
   grind
  .have:(if cW ks=af/\cI ks<=6 then(lU r).bind λkss=>aa (ks::kss) else ab)=aa kss:=h
   grind
 |.none::_,_,h=>by cases h
 |.bool _::_,_,h=>by cases h
 |.int _::_,_,h=>by cases h
 |.str _::_,_,h=>by cases h
 |.list _::_,_,h=>by cases h
 |.dict _::_,_,h=>by cases h
def oF (kss:ld):ce:=kss.foldl (λaq k=>putK aq k (.bl af)) []
theorem Pg {kvs:ce}{k:aae}:(putK kvs k v).map (·.1)=uC (kvs.map (·.1)) k:=by
 unfold putK uC;by_cases h:(kvs.any λkv=>decide (kv.1=k))=af
 .rw[if_pos h];have hm:k∈kvs.map (·.1):=by
   grind
  rw[if_pos hm,eN];apply kZ
  grind
 all_goals grind
theorem Ra (kss:ld):(oF kss).map (·.1)=qH kss:=by
 unfold oF qH;have go:∀ (kss:ld) (aq:ce),(kss.foldl (λaq k=>putK aq k (.bl af)) aq).map (·.1)=kss.foldl uC (aq.map (·.1)):=by
  intro kss;induction kss with
  |nil=>intro aq;rfl
  |cons k r ih=>
   intro aq;rw[wD,wD,ih,Pg]
 exact go kss []
theorem Qk (kss:ld)(k:aae):oF (kss++[k])=putK (oF kss) k (.bl af):=by
 unfold oF;rw[EN]
 rfl
theorem Yg (kss:ld):(oF kss).length<=kss.length:=by
 have go:∀ (kss:ld) (aq:ce),(kss.foldl (λaq k=>putK aq k (V.bl af)) aq).length<=aq.length+kss.length:=by
  intro kss;induction kss with
  |nil=>intro aq;simp
  |cons k r ih=>
   intro aq;have h1:=ih (putK aq k (.bl af));have h2:=yT aq k (V.bl af)
   grind
 have:=go kss [];unfold oF;simpa using this
open PySem PySem.Spec PySem.W PyProof.Rows
noncomputable def iX:aae->aae->Bool
 |[],[]=>af
 |.int _::r,.int _::r'=>iX r r'
 |.str _::r,.str _::r'=>iX r r'
 |_,_=>ag
theorem Bb (i j:Int)(r r':aae):(dR (.int i::r)<dR (.int j::r'))↔i<j\/i=j/\dR r<dR r':=by
 show(iH (.int i)::dR r<iH (.int j)::dR r')↔_;rw[zZ];simp[iH,zZ]
theorem map_lt (xs ys:aam):(xs.map oV<ys.map oV)↔xs<ys:=by
 induction xs generalizing ys with
 |nil=>cases ys<;>simp
 |cons x r ih=>
  cases ys with
  |nil=>simp
  |cons y r'=>
   rw[dF,dF,zZ,zZ,ih];have h1:(oV x<oV y)↔x<y:=Int.ofNat_lt;have h2:(oV x=oV y)↔x=y:=⟨λe=>Int.ofNat.inj e,λe=>by rw[e]⟩
   rw[h1,h2]
theorem PH (x y:aD)(r r':aae):(dR (.str x::r)<dR (.str y::r'))↔x.cps.toList<y.cps.toList\/x=y/\dR r<dR r':=by
 show(iH (.str x)::dR r<iH (.str y)::dR r')↔_;rw[zZ];have h1:(iH (.str x)<iH (.str y))↔x.cps.toList<y.cps.toList:=by
  show((1:Int)::x.cps.toList.map oV<(1:Int)::y.cps.toList.map oV)↔_;rw[zZ,map_lt];simp
 have h2:(iH (.str x)=iH (.str y))↔x=y:=⟨λe=>by
  have:=HQ (.inr ⟨x,rfl⟩) (.inr ⟨y,rfl⟩) e;injection this,λe=>by rw[e]⟩
 rw[h1,h2]
section
variable {Q:Bool->aK->Prop}
theorem GJ:∀ (ks jy:aae) {vs ul:aal} {as um:aaj} (i:Nat),iX ks jy=af->pP s.heap vs ks as->pP s.heap ul jy um->Q (decide (dR ks<dR jy)) s->KatLex prog w A b ag Q (vs.zip ul) i s
 |[],[],vs,ul,as,um,i,_,r,r',h=>by
  cases r;cases r';exact kat_nil h
 |.int x::ks,.int y::jy,vs,ul,as,um,i,hs,r,r',h=>by
  cases r with
  |cons r1 r2=>
   cases r' with
   |cons yj yk=>
    cases r1 with
    |int _ t=>
     cases yj with
     |int _ u=>
      rw[vZ];refine kat_cons ((fD prog w).eqBool (JV _ _ x t) (JV _ _ y u) ?_);refine kat_go (λe=>kat_yes ?_) λe=>kat_no ?_
      .have e':x=y:=by simpa using e
       subst e';refine GJ ks jy (i+1) (by simpa [iX] using hs) r2 yk ?_
       have:decide (dR (.int x::ks)<dR (.int x::jy))=decide (dR ks<dR jy):=decide_eq_decide.2 (by rw[Bb];simp)
       rw[<-this];exact h
      .have e':x≠y:=by simpa using e
       have:decide (dR (.int x::ks)<dR (.int y::jy))=decide (x<y):=decide_eq_decide.2 (by rw[Bb];simp[e'])
       rw[this] at h;cases(b&&i==0) with
       |true=>exact oneLt_int h
       |false=>exact kat_one _ _ (lt_int h)
 |.str x::ks,.str y::jy,vs,ul,as,um,i,hs,r,r',h=>by
  cases r with
  |cons r1 r2=>
   cases r' with
   |cons yj yk=>
    cases r1 with
    |str _ t=>
     cases yj with
     |str _ u=>
      rw[vZ];refine kat_cons ((fD prog w).eqBool (JP _ _ x t) (JP _ _ y u) ?_);refine kat_go (λe=>kat_yes ?_) λe=>kat_no ?_
      .have e':x=y:=by simpa using e
       subst e';refine GJ ks jy (i+1) (by simpa [iX] using hs) r2 yk ?_
       have:decide (dR (.str x::ks)<dR (.str x::jy))=decide (dR ks<dR jy):=decide_eq_decide.2 (by rw[PH];simp[List.lt_irrefl])
       rw[<-this];exact h
      .have e':x≠y:=by simpa using e
       have:decide (dR (.str x::ks)<dR (.str y::jy))=decide (x.cps.toList<y.cps.toList):=decide_eq_decide.2 (by rw[PH];simp[e'])
       rw[this] at h;cases(b&&i==0) with
       |true=>exact oneLt_str h
       |false=>exact kat_one _ _ (lt_str h)
end
def nK:aae->Option String
 |.int _::_=>aa "int"
 |.str _::_=>aa "str"
 |_=>ab
theorem Wi {M:Model}{k:aae}{b:aC}(hd:Alc h k b)(hk:nK k=aa T) :
  ∃ o xs n f,h.get? b=aa o/\o.cls=.type "tuple" /\ o.data=.seq xs n/\xs[0]?=aa f/\Looks M h (typeOf f) (.type T):=by
 obtain⟨_,_,as,r⟩:=hd;obtain⟨a,o,xs,n,e,ho,hc,hd,hi⟩:=vF r;cases e
 match k,hk,hi with
 |.int i::r,hk,hi=>
  cases hk;generalize hx:xs.toList=l at hi;cases hi with
  |cons h1 _=>
   cases h1 with
   |int _ t=>exact⟨o,xs,n,.int i t,ho,hc,hd,by rw[<-Dm,hx];rfl,Looks.of_pure rfl⟩
 |.str x::r,hk,hi=>
  cases hk;generalize hx:xs.toList=l at hi;cases hi with
  |cons h1 _=>
   cases h1 with
   |str _ t=>exact⟨o,xs,n,.str x t,ho,hc,hd,by rw[<-Dm,hx];rfl,Looks.of_pure rfl⟩
abbrev Ag1 (h:aY)(vs:aal)(kss:ld):Prop:=gJ (λv k=>∃ b,v=gN b/\Alc h k b) vs kss
theorem UD {M:Model}{h:aY}{T:String}:∀ {vs:aal} {kss:ld},Ag1 h vs kss->(∀ k∈kss,nK k=aa T)->∃ fs,KatTups h vs fs/\fs.length=vs.length/\∀ f∈fs,Looks M h (typeOf f) (.type T)
 |_,_,.nil,_=>⟨[],KatTups.nil,rfl,λ_ m=>by simp at m⟩
 |_,_,.cons ⟨b,e,hd⟩ t,hk=>by
  obtain⟨fs,h1,h2,h3⟩:=UD (M:=M) t λk m=>hk k (cL _ m)
  obtain⟨o,xs,n,f,q1,q2,q3,q4,q5⟩:=Wi (M:=M) hd (hk _ bT);subst e;refine⟨f::fs,KatTups.cons q1 q2 q3 q4 h1,by rw[fZ,fZ,h2],λg m=>?_⟩
  rcases dJ.1 m with rfl|m
  .exact q5
  .exact h3 g m
theorem Ag1.get:∀ {vs:aal} {kss:ld},Ag1 h vs kss->∀ i,i<vs.length->∃ b,vs.getD i gS=.ref b/\Alc h (kss.getD i []) b/\kss.getD i []∈kss
 |_,_,.nil,i,hi=>absurd hi (by simp)
 |_,_,.cons ⟨b,e,hd⟩ t,0,_=>⟨b,e,hd,bT⟩
 |_,_,.cons _ t,i+1,hi=>by
  obtain⟨b,q1,q2,q3⟩:=Ag1.get t i (by simpa using hi)
  exact⟨b,by simpa using q1,by simpa using q2,by simpa using cL _ q3⟩
theorem Ag1.keep(k:∀ b o,h.get? b=aa o->h'.get? b=aa o):∀ {vs:aal} {kss:ld},Ag1 h vs kss->Ag1 h' vs kss
 |_,_,.nil=>.nil
 |_,_,.cons ⟨b,e,hd⟩ t=>.cons ⟨b,e,hd.keep λb o _ _ q _ _=>k b o q⟩ (Ag1.keep k t)
theorem IT:∀ {k k':aae},iX k k'=af->k.length=k'.length
 |[],[],_=>rfl
 |.int _::r,.int _::r',h=>by rw[fZ,fZ,IT (by simpa [iX] using h)]
 |.str _::r,.str _::r',h=>by rw[fZ,fZ,IT (by simpa [iX] using h)]
theorem IV:∀ {vs:aal} {ks:aae} {as:aaj},pP h vs ks as->vs.length=ks.length
 |_,_,_,.nil=>rfl
 |_,_,_,.cons _ t=>by rw[fZ,fZ,IV t]
theorem Si(hl:s.heap.IsList l vs.toArray)(ht:Ag1 s.heap vs kss)(hT:T = "int" \/ T = "str")(hk:∀ k∈kss,nK k=aa T)(hs:∀ k∈kss,∀ k'∈kss,iX k k'=af)(h2:2<=vs.length)(oy:vs.length<64)
  (h:∀ p:Array Nat,p.Perm (jD (bD vs.length))->hX (MY kss) p vs.length->Q (.ref (s.heap.objs.size+1)) { s with heap:=sortedAll s.heap vs (jD (p.toList.map λi=>vs.getD i gS)) }) :
  aP (aW prog w) A (call (.builtin "sorted") [.ref l]) Q E s:=by
 refine Pq (κ:=tuples' (kX T != kX "tuple")) (Jf kss) hl h2 oy (λh' kp A' E' R q=>?_) (λh' kp A' _ i j C hi hj q=>?_) h
 .obtain⟨fs,f1,f2,f3⟩:=UD (M:=aW prog w) (ht.keep kp) hk;exact kat_kind (s:={ s with heap:=h' }) f1 () f3 (by rcases hT with rfl|rfl<;>decide) q
 .have v7:=ht.keep kp;obtain⟨b,e1,⟨_,_,as,r1⟩,m1⟩:=v7.get i hi;obtain⟨b',e2,⟨_,_,um,r2⟩,m2⟩:=v7.get j hj;rw[e1,e2];obtain⟨_,o,xs,n,z,ho,_,hd,hr⟩:=vF r1;cases z;obtain⟨_,o',ju,n',z,j2,_,gn,pw⟩:=vF r2;cases z;have B8:=hs _ m1 _ m2;have l1:=IV hr;have l2:=IV pw;have ll:=IT B8;have:decide (xs.size<ju.size)=ag:=decide_eq_false (by simp only[Array.length_toList] at l1 l2;lia)
  refine kat_lt (s:={ s with heap:=h' }) ho hd j2 gn ?_;rw[this];exact GJ _ _ 0 B8 hr pw q
theorem Wm{P:PySem.Fin->aK->Prop}(ho:s.heap.get? a=aa (gM "list" vs.toArray n))(h2:vs.length<2)(h:P (.done (.ret .none)) { s with heap:=sortedHeap s.heap a vs vs.toArray }) :
  aP (aW prog w) A (Builtin.«list.sort» ⟨[.ref a],[]⟩) P E s:=by
 have lz:vs.length<=sizeLine:=by rw[pL];lia
 obtain⟨e1,uj⟩:∃ e,(s.heap.update a (jL λ_=>(#[]:Array aF))).get? a=aa (gM "list" #[] e):=⟨_,get?_update_seq ho λ_=>#[]⟩
 have uk:(oH s.heap a vs).get? a=aa (gM "list" #[] e1):=cF _ (cF _ uj);rw[list_sort_plain];refine aI (zR ho rfl (aI (zQ ho rfl (aI (seqEpoch_at uj rfl (aI (DX (aI (zN (kH ?_) (fY _))) (by simpa using lz))))) (by rw[fR];exact lz) (fY _))))
 dsimp only;have few:vs.toArray.size<2:=by rw[fR];exact h2
 rw[if_pos few,if_pos few];refine aI (aZ ?_);rw[StateT.run_pure];refine aI (aZ ?_);dsimp only;have qt:(arrOf (SortSt.mk' general' (vs.toArray.zip vs.toArray) #[] 7 ab)).map (·.2)=vs.toArray:=by
  apply Dl.1;have:∀ l:aal,EJ (λx=>x.snd) (l.zip l)=l:=λl=>by
   induction l with
   |nil=>rfl
   |cons a l ih=>rw[vZ,dF,ih]
  simpa using this vs
 rw[qt];refine aI (seqEpoch_at uk rfl (aI (zQ uk rfl ?_ (fY _) (Nat.le_succ_of_le (by rw[fR];exact lz)))))
 simp only[bne_self_eq_false,qA,if_false];exact aZ h
theorem Rm(hl:s.heap.IsList l vs.toArray)(h2:vs.length<2)(h:Q (.ref (s.heap.objs.size+1)) { s with heap:=sortedAll s.heap vs vs.toArray }) :
  aP (aW prog w) A (call (.builtin "sorted") [.ref l]) Q E s:=by
 refine De kind_sorted plain_sorted entry_sorted (args_sorted1 _) ?_;unfold Builtin.«sorted»;refine aI (aZ (aI (collect_list hl (aI (zN ?_)))));have z:((s.heap.push (gM "list" #[] 0)).update s.heap.objs.size (jL (· ++ vs.toArray))).objs.size=s.heap.objs.size+1:=by rw[Cy,size_push']
 have no:(((s.heap.push (gM "list" #[] 0)).update s.heap.objs.size (jL (· ++ vs.toArray))).push (gM "list" vs.toArray 0)).get? (s.heap.objs.size+1)=aa (gM "list" vs.toArray 0):=z ▸ dZ _ rfl;rw[z];refine aI (kH (jR slot_list_sort ⟨_,no,rfl⟩ entry_list_sort (Wm no h2 ⟨_,rfl,?_⟩) (args_list_sort _)));exact aZ ⟨_,rfl,h⟩
theorem HF:∀ {a b:aae},iX a b=af->dR a=dR b->a=b
 |[],[],_,_=>rfl
 |.int i::r,.int j::r',h,e=>by
  have h':iX r r'=af:=by simpa [iX] using h
  have e':iH (.int i)=iH (.int j)/\dR r=dR r':=by simpa [dR] using e
  rw[HQ (.inl ⟨i,rfl⟩) (.inl ⟨j,rfl⟩) e'.1,HF h' e'.2]
 |.str x::r,.str y::r',h,e=>by
  have h':iX r r'=af:=by simpa [iX] using h
  have e':iH (.str x)=iH (.str y)/\dR r=dR r':=by simpa [dR] using e
  rw[HQ (.inr ⟨x,rfl⟩) (.inr ⟨y,rfl⟩) e'.1,HF h' e'.2]
def leT (a b:aae):Bool:=!decide (dR b<dR a)
theorem Ajg {a b:aae}:leT a b=af ↔ ¬ dR b<dR a:=by simp[leT]
theorem Pz (a b c:aae)(h1:leT a b=af)(h2:leT b c=af):leT a c=af:=Ajg.2 (UI _ _ _ (Ajg.1 h1) (Ajg.1 h2))
theorem Qr (a b:aae):(leT a b||leT b a)=af:=by
 by_cases h:dR b<dR a
 .have:=UL _ _ h;simp[leT,h,this]
 .simp[leT,h]
theorem Xy {a b:aae}(hs:iX a b=af)(h1:leT a b=af)(h2:leT b a=af):a=b:=by
 have h1:=Ajg.1 h1;have h2:=Ajg.1 h2;exact HF hs (List.le_antisymm h1 h2)
def pB (kss:ld):ld:=kss.mergeSort leT
def sameAll (kss:ld):Bool:=kss.all λk=>kss.all λk'=>iX k k'
def oa (kss:ld):Bool:=decide (kss.length<2)||(sameAll kss&&kss.all λk=>(nK k).isSome)
theorem CS (kss:ld):(pB kss).Perm kss:=Cm kss leT
theorem So (kss:ld):(pB kss).Pairwise λa b=>leT a b=af:=c8 Pz Qr kss
theorem UQ {qs:ld}(hs:oa kss=af)(hp:qs.Perm kss)(hr:qs.Pairwise λa b=>leT a b=af):qs=pB kss:=by
 have ip:=hp.trans (CS kss).symm;by_cases h2:kss.length<2
 .have l1:qs.length<2:=by rw[hp.length_eq];exact h2
  match qs,l1,ip with
  |[],_,ip=>exact(List.nil_perm.1 ip).symm
  |[q],_,ip=>exact List.singleton_perm.1 ip
 .have t6:sameAll kss=af:=by
   have:(sameAll kss&&kss.all λk=>(nK k).isSome)=af:=by simpa [oa,h2] using hs
   exact(iG.1 this).1
  refine d7 (λa b ma mb h1 h2=>Xy ?_ h1 h2) hr (So kss) ip
  have K4:=hp.mem_iff.1 ma;have K5:=(CS kss).mem_iff.1 mb;exact iV.1 (iV.1 t6 a K4) b K5
theorem same_kind:∀ {k k':aae},iX k k'=af->nK k=nK k'
 |[],[],_=>rfl
 |.int _::_,.int _::_,_=>rfl
 |.str _::_,.str _::_,_=>rfl
theorem Lq {k:aae}(h:nK k=aa T):T = "int" \/ T = "str":=by
 unfold nK at h;split at h
 .cases h;exact .inl rfl
 .cases h;exact .inr rfl
 .cases h
theorem Rj(hl:s.heap.IsList l vs.toArray)(ht:Ag1 s.heap vs kss)(ok:oa kss=af)(oy:vs.length<64)
  (h:∀ p:aam,p.Perm (bD vs.length)->p.map (λi=>kss.getD i [])=pB kss->Q (.ref (s.heap.objs.size+1)) { s with heap:=sortedAll s.heap vs (jD (p.map λi=>vs.getD i gS)) }) :
  aP (aW prog w) A (call (.builtin "sorted") [.ref l]) Q E s:=by
 have ln:=oC ht;have yl:∀ {α:Type} (xs:List α) (d:α),(bD xs.length).map (λi=>xs.getD i d)=xs:=λxs d=>by
  apply List.ext_getElem
  .simp
  .intro i h1 h2;simp at h1;simp[h1]
 by_cases h2:vs.length<2
 .refine Rm hl h2 ?_;have:=h (bD vs.length) (List.Perm.refl _) (by
   rw[ln,yl kss];refine UQ ok (List.Perm.refl _) ?_
   match kss,ln with
   |[],_=>exact .nil
   |[k],_=>simp
   | _::_::_,ln=>simp at ln;lia)
  rw[yl vs] at this;exact this
 .have hs:sameAll kss=af/\(kss.all λk=>(nK k).isSome)=af:=by
   have qd:¬ kss.length<2:=()
   have:(sameAll kss&&kss.all λk=>(nK k).isSome)=af:=by simpa [oa,qd] using ok
   exact iG.1 this
  obtain⟨k0,m0⟩:∃ k0,k0∈kss:=by
   cases hk:kss with
   |nil=>rw[hk] at ln;exact absurd ln (by simp;intro e;rw[e] at h2;simp at h2)
   |cons k r=>exact⟨k,bT⟩
  obtain⟨T,hT⟩:=pS.1 (iV.1 hs.2 k0 m0);have sm:∀ k∈kss,∀ k'∈kss,iX k k'=af:=λk m k' m'=>iV.1 (iV.1 hs.1 k m) k' m'
  refine Si hl ht (Lq hT) (λk m=>(same_kind (sm k m k0 m0)).trans hT) sm () oy λp hp ha=>?_
  have ip:p.toList.Perm (bD vs.length):=by simpa using Array.perm_iff_toList_perm.1 hp
  have pl:p.toList.length=vs.length:=by rw[ip.length_eq,List.length_range]
  refine h p.toList ip (UQ ok ?_ ?_)
  .have:=ip.map (λi=>kss.getD i [])
   rw[ln,yl kss] at this;exact this
  .rw[Ck,List.pairwise_iff_getElem];intro i j hi hj gp;refine Ajg.2 ?_;have:=ha i j (EG gp) ()
   have e1:at' p i=p.toList[i]:=by simp at hi;simp[at',hi]
   have e2:at' p j=p.toList[j]:=by simp at hj;simp[at',hj]
   rw[e1,e2] at this;exact of_decide_eq_false this
abbrev uG (H:Hp)(ys:aag)(kss:ld):Prop:=gJ (λy k=>∃ b,y=V.ref b/\Apc H k b) ys kss
theorem PZ:∀ {kss:ld} {ys:aag},(∀ ks∈kss,cW ks=af/\cI ks<=6)->Aap K H (kss.map fO) ys->uG H ys kss
 |[],ys,_,r=>by rw[Aal.1 r];exact .nil
 |k::kss,ys,hk,r=>by
  obtain⟨v,t,rfl,r1,r2⟩:=Aag.1 r;obtain⟨b,rfl,tk⟩:=r1.tupK (hk k bT).1 (hk k bT).2;exact .cons ⟨b,rfl,tk⟩ (PZ (λx m=>hk x (cL _ m)) r2)
theorem QB(x:∀ c zs,H c=aa (.tup zs)->H' c=aa (.tup zs)):∀ {ys:aag} {kss:ld},uG H ys kss->uG H' ys kss
 |_,_,.nil=>.nil
 |_,_,.cons ⟨b,e,tk⟩ t=>.cons ⟨b,e,tk.keep x⟩ (QB x t)
theorem OS(ok:HOk P w H h):∀ {ys:aag} {kss:ld} {vs:aal},uG H ys kss->Vals ys vs->Ag1 h vs kss
 |_,_,_,.nil,.nil=>.nil
 |_,_,_,.cons ⟨b,e,tk⟩ t,.cons r rr=>by
  subst e;cases r;exact .cons ⟨b,rfl,sR ok tk⟩ (OS ok t rr)
def sL (p:aam)(ys:aag):aag:=p.map λi=>ys.getD i .non
theorem UR:∀ {ys:aag} {vs:aal} (i:Nat),Vals ys vs->i<ys.length->RelV (ys.getD i .non) (vs.getD i gS)
 |_,_,0,.cons r _,_=>r
 |_,_,i+1,.cons _ t,h=>UR i t (by simpa using h)
theorem TF(r:Vals ys vs):∀ p:aam,(∀ i∈p,i<ys.length)->Vals (sL p ys) (p.map λi=>vs.getD i gS)
 |[],_=>.nil
 |i::p,h=>.cons (UR i r (h i bT)) (TF r p λj m=>h j (cL _ m))
theorem Sw:Adn X (.builtin "sorted") (λxs H Q=>∃ p ys kss,xs=[.ref p]/\SqL X.K H p ys/\uG H ys kss/\oa kss=af/\kss.length<64 /\
  ∀ l q,H l=ab->q.Perm (bD ys.length)->q.map (λi=>kss.getD i [])=pB kss->Q (.ref l) (upd H l (.lst (sL q ys)))):=by
 rw[3];obtain⟨p,ys,kss,rfl,hp,rf,ok,hl,q⟩:=h;obtain⟨u,rfl,ru⟩:=vals1 r;cases ru;obtain⟨its,rv,pl,hz⟩:=I.list hp;have e1:=rv.length;have e2:=oC rf;refine Rj pl.isList (OS I.hok rf rv) ok () λq' ip hs=>?_
 have hq:∀ i∈q',i<ys.length:=λi m=>by
  have:=hE.1 (ip.mem_iff.1 m)
  lia
 obtain⟨e,he⟩:=sortedAll_at s.heap its (jD (q'.map λi=>its.getD i gS))
 have hn:=I.hok.fresh (zV _);have lz:(sL q' ys).length<=sizeLine:=by
  unfold sL;rw[fA,ip.length_eq,List.length_range]
  lia
 exact⟨.ref (s.heap.objs.size+1),_,I.laid (t':=s.toks) (o:=.lst (sL q' ys)) (λb ob g=>sortedAll_old g) (zV _) ⟨lz,_,e,TF rv q' hq,he⟩,rfl,q _ q' hn (by rw[e1];exact ip) hs⟩
def wZ:aae->aaf
 |[.list ds]=>(lU ds).bind λkss=>if oa kss=af/\kss.length<64 then aa (.list ((pB kss).map fO)) else ab
 |_=>ab
theorem TK:∀ {kss:ld} {ys:aag} (i:Nat),Aap K H (kss.map fO) ys->i<ys.length->Abx K H (.tuple (kss.getD i [])) (ys.getD i .non)
 |[],ys,i,r,h=>by rw[Aal.1 r] at h;simp at h
 |k::kss,ys,0,r,h=>by
  obtain⟨v,t,rfl,r1,r2⟩:=Aag.1 r;exact r1
 |k::kss,ys,i+1,r,h=>by
  obtain⟨v,t,rfl,r1,r2⟩:=Aag.1 r;exact TK i r2 (by simpa using h)
theorem TR(r:Aap K H (kss.map fO) ys):∀ p:aam,(∀ i∈p,i<ys.length)->Aap K H ((p.map λi=>kss.getD i []).map fO) (sL p ys)
 |[],_=>Aal.2 rfl
 |i::p,h=>Aag.2 ⟨_,_,rfl,TK i r (h i bT),TR r p λj m=>h j (cL _ m)⟩
theorem Rt:CallD K 1 (λxs H Q=>∃ p ys kss,xs=[.ref p]/\SqL K H p ys/\uG H ys kss/\oa kss=af/\kss.length<64 /\
  ∀ l q,H l=ab->q.Perm (bD ys.length)->q.map (λi=>kss.getD i [])=pB kss->Q (.ref l) (upd H l (.lst (sL q ys)))) wZ:=λP H xs ds d Q hP r e k=>by
 unfold wZ at e;split at e
 .obtain⟨kss,e1,e2⟩:=ao e;obtain⟨⟨ok,hl⟩,rfl⟩:=cX e2;obtain⟨rfl,hk⟩:=HR e1;rw[6];obtain⟨q,ys,rfl,hq,rr⟩:=Abp.1 r';refine⟨q,ys,kss,rfl,Aau.sqL hq,?_,ok,hl,λl p hn hp hs=>?_⟩
  .exact QB (λc zs g=>Aau _ _ g) (PZ hk rr)
  .have hi:∀ i∈p,i<ys.length:=λi m=>hE.1 (hp.mem_iff.1 m)
   have:=TR rr p hi;rw[hs] at this;exact k.lst hP hn this
 .cases e
theorem OD:∀ {ns:aai} {vs:aal},Vals (ns.map V.int) vs->rR vs ns
 |[],_,.nil=>.nil
 |n::ns,_,.cons ⟨t,e⟩ r=>by
  subst e;exact .cons n t (OD r)
theorem OA:∀ {ns:aai} {vs:aal},rR vs ns->Vals (ns.map V.int) vs
 |_,_,.nil=>.nil
 |_,_,.cons n t h=>.cons ⟨t,rfl⟩ (OA h)
noncomputable def rW:aae->Option aai
 |[]=>aa []
 |.int i::r=>(rW r).bind λis=>aa (i::is)
 |_::_=>ab
theorem Aq:∀ {ds:aae} {is:aai},rW ds=aa is->ds=is.map bC
 |[],is,e=>by cases e;rfl
 |.int i::ds,is,e=>by
  obtain⟨is',e1,e2⟩:=ao (show((rW ds).bind λis=>aa (i::is))=aa is from e)
  cases e2;rw[Aq e1]
  rfl
 |.none::_,_,e=>by cases e
 |.bool _::_,_,e=>by cases e
 |.str _::_,_,e=>by cases e
 |.list _::_,_,e=>by cases e
 |.tuple _::_,_,e=>by cases e
 |.dict _::_,_,e=>by cases e
theorem XA:∀ {is:aai} {ys:aag},Aap K H (is.map bC) ys->ys=is.map V.int
 |[],ys,r=>Aal.1 r
 |i::is,ys,r=>by
  obtain⟨v,t,rfl,r1,r2⟩:=Aag.1 r;rw[Aak.1 r1,XA r2]
  rfl
def sortI (is:aai):aai:=is.mergeSort λa b=>decide (a<=b)
theorem Zj {is js:aai}(hp:js.Perm is)(hr:js.Pairwise (· <= ·)):js=sortI is:=by
 refine d7 (le:=(· <= ·)) (λa b _ _ h1 h2=>Int.le_antisymm h1 h2) hr ?_ (hp.trans (Cm is _).symm)
 have:=c8 (le:=λa b:Int=>decide (a<=b)) (λa b c h1 h2=>decide_eq_true (Int.le_trans (of_decide_eq_true h1) (of_decide_eq_true h2))) (λa b=>by
  rcases Int.le_total a b with h|h<;>simp[h]) is
 exact this.imp λh=>of_decide_eq_true h
def S6:SF:=λ_=>ab
theorem Fj{s:fU}:DS X H0 P0 n0 s S6:=λac st σ H D I q=>by
 obtain⟨B0,Y,fp,o,S,ef,k⟩:=q;cases ef
section
variable {k:aS}{fo fk:EF}
theorem WC:∀ {ds:aae} {xs:aag} (n:Nat),Aap K H ds xs->Aap K H (ds.eraseIdx n) (xs.eraseIdx n)
 |[],xs,n,r=>by
  rw[Aal.1 r];exact Aal.2 rfl
 |d::ds,xs,0,r=>by
  obtain⟨v,t,rfl,h1,h2⟩:=Aag.1 r;exact h2
 |d::ds,xs,n+1,r=>by
  obtain⟨v,t,rfl,h1,h2⟩:=Aag.1 r;exact Aag.2 ⟨v,_,rfl,h1,WC n h2⟩
theorem Yb {j pos}:DF 1 X (.Constant .none j pos) (eC .none):=PE.imp ZL λσ H Q gh=>by
 rw[2];cases ef;exact k .non H [] Ext.refl .nil (λa m=>by simp at m) ⟨rfl,Abw.2 rfl⟩
end
def anyB (xs:aag):Bool:=xs.any λv=>decide (v=.bl af)
theorem Pp (hc:X.calm=af):Adn X (.builtin "any") (λxs H Q=>∃ p ys,xs=[.ref p]/\SqL X.K H p ys/\(∀ y∈ys,∃ b,y=.bl b)/\Q (.bl (anyB ys)) H):=by
 rw[3];obtain⟨p,ys,rfl,hs,hb,q⟩:=h;obtain⟨u,rfl,ru⟩:=vals1 r;cases ru;obtain⟨its,rv,pl,hz⟩:=I.list hs;have hl:=pl.isList;have bu:p<s.heap.objs.size:=by obtain⟨o,n,e,_⟩:=pl;exact bX e
 have len:=rv.length;refine call_any_walk (DV hl ⟨s.heap.objs.size,_,_,_,_,_,λi=>decide (ys[i]?=aa (.bl af)),rfl,Walks.list (A:=X.A.in1) (I.ok.hd hc) s.heap.objs.size p (fH bu) its.toArray,
  ⟨⟨_,dZ _ rfl,rfl,rfl⟩,hl.at λo e=>cF _ e⟩,?_,?_⟩)
 .intro i v s' Q' E' hv hq;have ub:its[i]?=aa v:=by simpa using hv
  have hi:i<ys.length:=by rw[len];exact(eW.1 ub).1
  obtain⟨b,hy⟩:=hb ys[i] (MH hi);have qj:ys[i]?=aa (.bl b):=by rw[jU hi,hy]
  obtain⟨u',h1,h2⟩:=rv.get qj;rw[ub] at h1;cases h1;cases h2;refine rJ ?_;have:decide (ys[i]?=aa (V.bl af))=b:=by rw[qj];cases b<;>simp
  have hq:Q' (decide (ys[i]?=aa (V.bl af))) s':=hq;rw[this] at hq;exact hq
 .intro h' tk hk;have e:((bD its.toArray.size).any λi=>decide (ys[i]?=aa (V.bl af)))=anyB ys:=by
   have hn:its.toArray.size=ys.length:=by simp[len]
   rw[hn];unfold anyB;rw[iW];simp only[nE,hE,decide_eq_true_eq];constructor
   .rintro⟨i,hi,h⟩;exact⟨_,jE h,rfl⟩
   .rintro⟨v,hv,rfl⟩;obtain⟨i,hi,e⟩:=List.getElem_of_mem hv;exact⟨i,hi,by rw[jU hi,e]⟩
  rw[e];refine⟨.bl (anyB ys),H,?_,rfl,q⟩;exact I.kept λb o eb=>hk b o (by simp;exact fH (bX eb)) (cF _ eb)
theorem boot_any:nA "any" = aa (.builtin "any"):=by rw[0]
def FG:aae->aaf
 |[.list ds]=>(nH ds).bind λbs=>aa (.bool (bs.any id))
 |_=>ab
theorem Yh:CallD K 0 (λxs H Q=>∃ p ys,xs=[.ref p]/\SqL K H p ys/\(∀ y∈ys,∃ b,y=.bl b)/\Q (.bl (anyB ys)) H) FG:=λP H xs ds d Q hP r e k=>by
 unfold FG at e;split at e
 .obtain⟨bs,e1,e2⟩:=ao e;cases e2;rw[6];obtain⟨q,ys,rfl,hq,rr⟩:=Abp.1 r';obtain rfl:=IB e1 rr;refine⟨q,_,rfl,Aau.sqL hq,λy m=>?_,k.zero Ext.refl (Aao.2 ?_)⟩
  .obtain⟨b,_,rfl⟩:=cG.1 m;exact⟨b,rfl⟩
  .unfold anyB;rw[tV]
   congr 2
   funext b;cases b<;>simp
 .cases e
section
variable {ie fz:bH}
theorem RD:∀ {ds:aae} {xs:aag} {n:Nat} {d:aA} {v:V},Aap K H ds xs->ds[n]?=aa d->xs[n]?=aa v->Abx K H d v
 |[],xs,n,d,v,r,e,_=>by simp at e
 |a::ds,xs,0,d,v,r,e,e'=>by
  obtain⟨u,t,rfl,h1,h2⟩:=Aag.1 r;cases e;cases e';exact h1
 |a::ds,xs,n+1,d,v,r,e,e'=>by
  obtain⟨u,t,rfl,h1,h2⟩:=Aag.1 r;exact RD h2 (by simpa using e) (by simpa using e')
def BL (i j:Nat)(m:Md)(f:EF):SF:=λY=>(eV 0 m f Y).bind λd=>(getL j Y).bind λds=>(getL i Y).bind λ_=>match d with
 |.int a=>(k9 ds.length a).bind λn=>(ds[n]?).bind λdv=>(getL i (Y.set j (aa (1,.list (ds.eraseIdx n))))).bind λes=>if ds.length<=sizeLine/\es.length<sizeLine then aa (.nx ((Y.set j (aa (1,.list (ds.eraseIdx n)))).set i (aa (1,.list (es++[dv]))))) else ab
 |_=>ab
theorem Pe (i j:Nat)(m:Md)(he:DE X e f)(hN:Nm X i x:=by exact kN)(K6:Nm X j y:=by exact kN)
  (uo:LO (.Name x px) "append" X.env (cA (.Name x px) X.env)=cA (.Name x px) X.env:=by rfl)
  (ym:((iT ax (bM ((.Call (.Attribute (.Name y py) "pop" ie) [e] [] fz)::[]) X.env)).all (λx=>!x.1)&&(backToKw ax (LJ [] X.env)).all (λx=>x.1.isSome)
   && decide (((.Call (.Attribute (.Name y py) "pop" ie) [e] [] fz:aS)::[]).length+([]:List tW).length+(if ([]:List tW).isEmpty then 0 else 1)<30))=af:=by rfl)
  (uq:(br.endLine==ax.line)=af:=by rfl) (hs:bM ((.Call (.Attribute (.Name y py) "pop" ie) [e] [] fz)::[]) X.env=(ag,cA (.Call (.Attribute (.Name y py) "pop" ie) [e] [] fz) X.env)::bM [] X.env:=by rfl) (qu:(iT ax (bM [] X.env)).any (·.1)=ag:=by rfl)
  (qv:LO (.Name y py) "pop" X.env (cA (.Name y py) X.env)=cA (.Name y py) X.env:=by rfl)
  (ur:((iT fz (bM (e::[]) X.env)).all (λx=>!x.1)&&(backToKw fz (LJ [] X.env)).all (λx=>x.1.isSome)
   && decide ((e::[]).length+([]:List tW).length+(if ([]:List tW).isEmpty then 0 else 1)<30))=af:=by rfl)
  (qw:(ie.endLine==fz.line)=af:=by rfl) (gw:bM (e::[]) X.env=(ag,cA e X.env)::bM [] X.env:=by rfl) (oz:(iT fz (bM [] X.env)).any (·.1)=ag:=by rfl)
  (jt:kI (.Call (.Attribute (.Name x px) "append" br) [.Call (.Attribute (.Name y py) "pop" ie) [e] [] fz] [] ax) ab pos.line X.env=pure ag:=by rfl):DS X H0 P0 n0 (.Expr (.Call (.Attribute (.Name x px) "append" br) [.Call (.Attribute (.Name y py) "pop" ie) [e] [] fz] [] ax) pos) (BL i j m f):=
 PS.imp (qR (qJ EC By Bw CJ (hN.pe) (gX (qJ EC PySem.F.slot_list_pop PySem.F.type_list_pop Vx (K6.pe) (gX (ev m he) kQ gw) ⟨qv,ur,qw,gw,oz⟩) kQ hs) ⟨uo,ym,uq,hs,qu⟩) jt) λD σ H gh=>by
  rw[4];obtain⟨d,e1,cm⟩:=ao ef;obtain⟨ds,e2,cv⟩:=ao cm;obtain⟨es0,e0,cv⟩:=ao cv;cases d with
  |int a=>
   obtain⟨n,e4,gs⟩:=ao (show((k9 ds.length a).bind λn=>(ds[n]?).bind λdv=>(getL i (Y.set j (aa (1,.list (ds.eraseIdx n))))).bind λes=>if ds.length<=sizeLine/\es.length<sizeLine then aa (Out.nx ((Y.set j (aa (1,.list (ds.eraseIdx n)))).set i (aa (1,.list (es++[dv]))))) else ab)=aa o from cv)
   obtain⟨dv,e5,l6⟩:=ao gs;obtain⟨es,e6,K7⟩:=ao l6;obtain⟨⟨lz,K8⟩,rfl⟩:=cX K7;obtain⟨p,xs,h1,h2,_,_⟩:=S.lst1 (oJ e0);obtain⟨p',ju,sv,qd,_,_⟩:=S.lst1 (oJ e2);refine⟨.ref p,h1,.inl ⟨rfl,xs,SqL.of h2⟩,.ref p',sv,.inl ⟨rfl,ju,SqL.of qd⟩,B0,Y,fp,.int a,S,e1,λv H2 gh=>?_⟩
   obtain⟨f9,S2,r2⟩:=gh;obtain⟨p2,jz,q1,q2,q3,q4⟩:=S2.lst1 (oJ e2);have:p2=p':=by rw[sv] at q1;cases q1;rfl
   subst this;obtain⟨s1,s2,s3,s4⟩:=OZ e4;have hl:=q3.length;have hz:jz.length<=sizeLine:=by rw[hl];exact lz
   have hn:=uM;have hy:jz[n]?=aa jz[n]:=jU ()
   have S3:=q4 _ _ (WC n q3);obtain⟨p3,nu,w1,w2,w3,w4⟩:=S3.lst1 (oJ e6);have:p3=p:=by rw[h1] at w1;cases w1;rfl
   subst this;have rv:Abx X.K (L2.hid (upd H2 p2 (.lst (jz.eraseIdx n))) (Hd P0 f9)) dv jz[n]:=by
    have hp:p2∈f9 j:=by
     obtain⟨v',g1,g2⟩:=S2.slot j 1 _ (oJ e2);obtain⟨pp,xx,Fs,rfl,_,hF,_⟩:=g2;rw[q1] at g1;cases g1;rw[hF];exact bT
    have hb:L2.hid (upd H2 p2 (.lst (jz.eraseIdx n))) (Hd P0 f9)=L2.hid H2 (Hd P0 f9):=by
     funext b;unfold L2.hid;by_cases q:Hd P0 f9 b
     .rw[if_pos q,if_pos q]
     .rw[if_neg q,if_neg q];exact dY λz=>q (.inr ⟨j,by rw[z];exact hp⟩)
    rw[hb];exact RD q3 e5 hy
   exact⟨p2,jz,a,n,jz[n],rfl,by rw[Aak.1 r2.2],q2,(),(),by rw[hl];exact s1,hy,p3,nu,jz[n],rfl,rfl,w2,by rw[w3.length];exact K8,k _ _ f9 (w4 _ _ (w3.snoc rv))⟩
  |_=>cases cv
end
theorem Sr{Q:aal->aK->Prop}(hl:IsTup s.heap l vs.toArray)
  (h:Q vs { s with heap:=(s.heap.push (gM "list" #[] 0)).update s.heap.objs.size (jL (· ++ vs.toArray)) }) (hsz:vs.length<=sizeLine) :
  aP (aW prog w) A (collect (.ref l)) Q E s:=by
 obtain⟨o,ho,hc,n,hd⟩:=id hl;unfold collect;refine aI (wpAny_runValue (tQ entry_proto_collect' ?_));refine aI (zN (aZ ⟨Code.quiet_builtin _ (by rw[0]),tQ entry_list_iadd' ?_⟩))
 show aP _ _ (EU (.ref s.heap.objs.size) (.ref l) (.ref s.heap.objs.size)) _ _ { s with heap:=s.heap.push (gM "list" #[] 0) };unfold EU;have j2:(s.heap.push (gM "list" #[] 0)).get? l=aa o:=cF _ ho;refine aI (nW ⟨o,j2,hc⟩ ?_);have ue:(kX "tuple" == kX "tuple")=af:=by rfl
 rw[if_pos (by rw[ue];simp)]
 refine aI (zR j2 hd (aI (zR (dZ _ rfl) rfl ?_)));rw[if_neg (by simp)]
 refine aI (zQ (dZ _ rfl) rfl (aZ ?_) (fY _) (by show(#[]++vs.toArray).size<=sizeLine+1;simp only[Array.size_append,fR,List.length_nil];lia))
 show aP (aW prog w) A (do
   let o <-load s.heap.objs.size
   match o.data with
   |.seq xs _=>pure xs.toList
   | _=>unsupported "internal:collect") Q E { s with heap:=(s.heap.push (gM "list" #[] 0)).update s.heap.objs.size (jL (· ++ vs.toArray)) }
 refine aI (wpAny_load (get?_update_seq (dZ _ rfl) _) ?_);show aP _ _ (pure ((#[]:Array aF)++vs.toArray).toList) Q E _;have same:((#[]:Array aF)++vs.toArray).toList=vs:=by simp
 rw[same];exact aZ h
theorem Ta{ns:aai}(hl:IsTup s.heap l vs.toArray)(hI:rR vs ns)(oy:vs.length<64)
  (h:∀ (out:Array aF) (jk:aai),rR out.toList jk->jk.Perm ns->jk.Pairwise (· <= ·)->Q (.ref (s.heap.objs.size+1)) { s with heap:=sortedAll s.heap vs out }) :
  aP (aW prog w) A (call (.builtin "sorted") [.ref l]) Q E s:=by
 refine De kind_sorted plain_sorted entry_sorted (args_sorted1 _) ?_;unfold Builtin.«sorted»;refine aI (aZ (aI (Sr hl (aI (zN ?_)) (by rw[pL];lia))))
 have z:((s.heap.push (gM "list" #[] 0)).update s.heap.objs.size (jL (· ++ vs.toArray))).objs.size=s.heap.objs.size+1:=by rw[Cy,size_push']
 have no:(((s.heap.push (gM "list" #[] 0)).update s.heap.objs.size (jL (· ++ vs.toArray))).push (gM "list" vs.toArray 0)).get? (s.heap.objs.size+1)=aa (gM "list" vs.toArray 0):=z ▸ dZ _ rfl;rw[z];refine aI (kH (jR slot_list_sort ⟨_,no,rfl⟩ entry_list_sort (list_sort_tree no hI oy λout jk a1 a2 a3=>⟨_,rfl,?_⟩) (args_list_sort _)))
 exact aZ ⟨_,rfl,h out jk a1 a2 a3⟩
theorem Tt:Adn X (.builtin "sorted") (λxs H Q=>∃ p,∃ ns:aai,xs=[.ref p]/\SqT X.K H p (ns.map V.int)/\ns.length<64/\∀ (l:aC) (jk:aai),H l=ab->jk.Perm ns->jk.Pairwise (· <= ·)->Q (.ref l) (upd H l (.lst (jk.map V.int)))):=by
 rw[3];obtain⟨p,ns,rfl,hp,hl,q⟩:=h;obtain⟨u,rfl,ru⟩:=vals1 r;cases ru;obtain⟨its,rv,pl,hz⟩:=I.tuple hp;have e1:ns.length=its.length:=by simpa using rv.length
 refine Ta pl (OD rv) () λout jk h1 h2 h3=>?_
 obtain⟨e,he⟩:=sortedAll_at s.heap its out;have hn:=I.hok.fresh (zV _);have lz:(jk.map V.int).length<=sizeLine:=by
  rw[fA,h2.length_eq];simpa using hz
 exact⟨.ref (s.heap.objs.size+1),_,I.laid (o:=.lst (jk.map V.int)) (λb ob g=>sortedAll_old g) (zV _) ⟨lz,out.toList,e,OA h1,he⟩,rfl,q _ jk hn h2 h3⟩
def BJ:aae->aaf
 |[.tuple ds]=>(rW ds).bind λis=>if is.length<64 then aa (.list ((sortI is).map bC)) else ab
 |_=>ab
theorem Tn:CallD K 1 (λxs H Q=>∃ p,∃ ns:aai,xs=[.ref p]/\SqT K H p (ns.map V.int)/\ns.length<64/\∀ (l:aC) (jk:aai),H l=ab->jk.Perm ns->jk.Pairwise (· <= ·)->Q (.ref l) (upd H l (.lst (jk.map V.int)))) BJ:=λP H xs ds d Q hP r e k=>by
 unfold BJ at e;split at e
 .obtain⟨is,e1,e2⟩:=ao e;obtain⟨hl,rfl⟩:=cX e2;obtain rfl:=Aq e1;rw[6];obtain⟨q,ys,rfl,hq,rr⟩:=Aan.1 r';obtain rfl:=XA rr;refine⟨q,is,rfl,SqT.of (Aau _ _ hq),hl,λl jk hn hp hr=>?_⟩
  obtain rfl:=Zj hp hr;exact k.lst hP hn (IQ _)
 .cases e
def Gi (K:aM):V->aag->Hp->VK->Prop:=λx vs H Q=>∃ l b xs zs,x=.ref l/\vs=[.ref b]/\H l=aa (.lst xs)/\(SqL K H b zs\/SqT K H b zs)/\xs.length+zs.length<=sizeLine/\Q .non (upd H l (.lst (xs++zs)))
theorem Ri:so X "list.extend" (Gi X.K):=by
 intro ac s σ H x vs v us Q I rx rv h;obtain⟨l,b,xs,zs,rfl,rfl,hH,hB,hz,q⟩:=h;cases rx;obtain⟨u,rfl,ru⟩:=rv.one;cases ru;obtain⟨z,its,n,r,hl,e⟩:=I.lstM hH;obtain⟨gi,r2,T,o2,n2,g1,g2,g3,hT⟩:∃ (gi:aal),Vals zs gi/\∃ (T:String) (o2:bJ) (n2:Nat),s.heap.get? b=aa o2/\o2.cls=.type T/\o2.data=.seq gi.toArray n2/\(T = "list" \/ T = "tuple"):=by
  rcases hB with hB|hB
  .obtain⟨gi,r2,pl,_⟩:=I.list hB;obtain⟨o2,g1,g2,n2,g3⟩:=pl.isList
   grind
  .obtain⟨gi,r2,pl,_⟩:=I.tuple hB;obtain⟨o2,g1,g2,n2,g3⟩:=pl
   grind
 have ql:=r2.length;have hsz:its.toArray.size+gi.toArray.size<=sizeLine:=by rw[fR,fR];lia
 have ut:¬ (!its.toArray.isEmpty&&Di (its.toArray.size+gi.toArray.size))=af:=by
  rw[Ye hsz,Bool.and_false];exact oW
 refine jR F.slot_list_extend ⟨_,e,rfl⟩ F.entry_list_extend ?_ (F.args_list_extend_2 _ _);unfold Builtin.«list.extend»;refine aI (aZ ?_);unfold EU;refine aI (nW ⟨o2,g1,g2⟩ ?_);have ue:(Dj (.ref l) (.ref b)||kX T==kX "list" || kX T==kX "tuple")=af:=by
  grind
 rw[if_pos ue];refine aI (zR g1 g3 (aI (zR e rfl ?_)));rw[if_neg ut];refine aI (zQ e rfl (aZ ⟨.none,rfl,?_⟩) (by rw[fR];lia) (by show(its.toArray++gi.toArray).size<=sizeLine+1;rw[Array.size_append];lia))
 refine⟨.non,_,I.lset hH e (by simp) (r.append r2) (by rw[wC];lia),rfl,q⟩
def Dt:aA->aac
 |.list es=>aa es
 |.tuple es=>aa es
 |_=>ab
def sN (i:Nat)(m:Md)(f:EF):SF:=λY=>(eV 0 m f Y).bind λd=>(getL i Y).bind λds=>(Dt d).bind λes=>if ds.length+es.length<=sizeLine then aa (.nx (Y.set i (aa (1,.list (ds++es))))) else ab
theorem RZ{ds es:aae}(h1:Aap K H ds xs)(h2:Aap K H es ys):Aap K H (ds++es) (xs++ys):=h1.append h2
theorem WE (i:Nat)(m:Md)(he:DE X e f)(hN:Nm X i x:=by exact kN)(q5:Bm X (.Name x px) e [] "extend" br ax:=by exact⟨rfl,rfl,rfl,rfl,rfl⟩)
  (jt:kI (.Call (.Attribute (.Name x px) "extend" br) [e] [] ax) ab pos.line X.env=pure ag:=by rfl):DS X H0 P0 n0 (.Expr (.Call (.Attribute (.Name x px) "extend" br) [e] [] ax) pos) (sN i m f):=
 PS.imp (qR (qJ EC PySem.F.slot_list_extend PySem.F.type_list_extend Ri (hN.pe) (gX (ev m he) kQ q5.s) q5) jt) λD σ H gh=>by
  rw[4];obtain⟨d,e1,cm⟩:=ao ef;obtain⟨ds,e2,cv⟩:=ao cm;obtain⟨es,e3,gs⟩:=ao cv;obtain⟨hl,rfl⟩:=cX gs;obtain⟨p,xs,h1,h2,_,_⟩:=S.lst1 (oJ e2);refine⟨.ref p,h1,.inl ⟨rfl,xs,SqL.of h2⟩,B0,Y,fp,d,S,e1,λv H2 gh=>?_⟩
  obtain⟨f9,S2,r2⟩:=gh;obtain⟨p2,jz,q1,q2,q3,q4⟩:=S2.lst1 (oJ e2);have:p2=p:=by rw[h1] at q1;cases q1;rfl
  subst this;cases d with
  |list k5=>
   cases e3;obtain⟨b,ys,rfl,hb,rr⟩:=Abp.1 r2.2;exact⟨p2,b,jz,ys,rfl,rfl,q2,.inl (Aau.sqL hb),by rw[q3.length,rr.length];exact hl,k _ _ f9 (q4 _ _ (RZ q3 rr))⟩
  |tuple k5=>
   cases e3;obtain⟨b,ys,rfl,hb,rr⟩:=Aan.1 r2.2;exact⟨p2,b,jz,ys,rfl,rfl,q2,.inr (SqT.of (Aau _ _ hb)),by rw[q3.length,rr.length];exact hl,k _ _ f9 (q4 _ _ (RZ q3 rr))⟩
  |_=>cases e3
open PySem PySem.W PySem.Calls PyProof.Rows Att
def qN (ns:aai):Prop:=∀ x∈ns,jM x<=1048576
theorem weigh:∀ {ns:aai} {x:Int},x∈ns->jM x<=WData.weightAll (ns.map WData.int)
 |n::ns,x,m=>by
  rw[dF,WData.weightAll];have e:WData.weight (.int n)=jM n:=by
   rw[WData.weight]
   rfl
  rcases dJ.1 m with rfl|m
  .rw[e];lia
  .have:=weigh m
   lia
theorem Vb {ns:aai}(h:WData.layableAll [WData.list (ns.map WData.int)]=af):qN ns:=λx m=>by
 have h1:WData.layable (.list (ns.map .int))=af:=by simpa [WData.layableAll] using h
 have h2:=of_decide_eq_true (iG.1 h1).2;rw[WData.weight] at h2;have:=weigh m
 lia
theorem Ti {l:OpenLaw}{q:bW}{jc:aan}{XP:(aD->aao)->aY->Prop}{YP:bG->aY->Prop}{d:DefRec}
  (hn:l.most=aa n) (uu:d.params.defaults=[])
  (call:∀ (w:bG) (s₀ s₁:aK) (mg mb:aD->aao) (fa:aC) (o:bJ) (pm cd ji:aF) (a:aC) (vs:aal) (ns:aai),
   qN ns->Ground q jc [] XP w s₀ mg mb s₁.heap->YP w s₁.heap ->
   s₁.heap.get? fa=aa o->o.data=.func (docDef d.name d.params d.body d.scope pm cd ji)->s₁.heap.CodeRec cd d.name->mg d.name=aa (.ref fa) ->
   s₁.heap.get? a=aa { cls:=.type "list",data:=.seq vs.toArray }->rR vs ns->ns.length<=n->s₁.gens = #[] ->
   oR (aW l.prog w) vT (.call (.ref fa) ⟨[.ref a],[]⟩) (λr s'=>r=.ok (.ret (.bool af))/\OldK s₁.heap s'.heap/\s'.os=s₁.os/\rS s'.gens) s₁) :
  WalkO q jc XP YP l.row.toRowW d [] (λf vs=>PySem.call f vs):=by
 intro w s₀ s₁ mg mb G ad fa o pm cd ji dV kV ho hd lr hD uv hg args qi as kr qx hrd xg B9;obtain rfl:dV=.none:=Dflts.none hD uu;obtain rfl:kV=.none:=Dflts.noKw hD;obtain⟨a,vs,ns,rfl,rfl,qy,mo,au⟩:=Zm hn kr xg;refine enter_call (LM (call w s₀ s₁ mg mb fa o pm cd ji a vs ns (Vb qx) G ad ho (fd_plain hd) lr uv qy mo au hg) λr s' hq=>?_)
 obtain⟨rfl,h2,h3,h4⟩:=hq;exact⟨.inl ⟨.bool af,.bool af,[],rfl,λ_=>rfl,.bool af,Qc l _,λ_=>⟨List.Pairwise.nil,λ_ hm=>(nomatch hm)⟩⟩,h2,h3,h4⟩
theorem A5n {l:PySem.W.OpenLaw}{q:bW}{jc:aan}{XP:(aD->aao)->aY->Prop}{YP:bG->aY->Prop}{d:DefRec}{K:Params->aM}{CX:bG->m8}{sp:bG->Sp}
  (hn:l.most=aa n) (K9:n<=sizeLine) (uu:d.params.defaults=[]) (hr:Room k vT)
  (hY:∀ (w:bG) (h:aY),YP w h->(K w.params).In h)
  (F:∀ (w:bG) (mg:aD->aao) (fa:aC) (h:aY),(K w.params).In h->h.Ns iS mg->mg d.name=aa (.ref fa) ->
   ∃ fd:lA,(∀ (s:aK) (u:aF),BindsTo s fd ⟨[u],[]⟩ [(x,u)]) /\
    ∀ base:aY,(K w.params).In base->base.Ns iS mg->FnOk l.prog w (K w.params) mg base (CX w) k fa fd [x] (sp w))
  (pd:∀ (w:bG) (H:Hp) (a:aC) (ns:aai),qN ns->ns.length<=n->Only H->SqL (K w.params) H a (ns.map V.int)->sp w [.ref a] H (λv _=>v=.bl af) λ_ _ _=>False)
  (xi:∀ (w:bG) (H:Hp) (s:aK) (e:aF) (s':aK),CX w [] H s (λ_ _ _=>False) e s'->False) :
  PySem.W.WalkO q jc XP YP l.row.toRowW d [] (λf vs=>PySem.call f vs):=by
 refine Ti hn uu λw s₀ s₁ mg mb fa o pm cd ji a vs ns hB G ad ho hd lr uv qy mo au hg=>?_
 have KX:=hY w _ ad;obtain⟨fd,hb,hF⟩:=F w mg fa _ KX G.T.g uv;exact Xk KX G.T.g G.T.b G.T.builtins G.T.nolimit hg qy mo (kK au K9) hr hF hb (λH hO hS=>pd w H a ns hB au hO hS) λH e s'=>xi w H s₁ e s'
noncomputable def mM:aA->aA->aaf:=dq (λi j=>(i.natAbs<2^64\/j.natAbs<2^64)\/jM i+jM j<=134217728) λi j=>.int (i*j)
section
variable {a b:aS}{fa fb:EF}
theorem Kl:OpR X (kW .Mult) (rI (λi j=>(i.natAbs<2^64\/j.natAbs<2^64)\/jM i+jM j<=134217728) λi j=>.int (i*j)):=by
 intro ac s σ H x y v u Q I rx ry ⟨i,j,ex,ey,hc,q⟩;rcases hc with hc|hc
 .exact SQ ac s σ H x y v u Q I rx ry ⟨i,j,ex,ey,.inl hc,q⟩
 .exact sr (λi j _ _ _ _ _ hc q=>mul_int q (c6 (bS _) (bS _) hc)) ac s σ H x y v u Q I rx ry ⟨i,j,ex,ey,hc,q⟩
theorem Nt (ha:DE X a fa)(hb:DE X b fb):DE X (.BinOp a .Mult b pos) (ah mM fa fb):=pA Kl (wX (λ_ _ h=>h) λ_ _ _=>Aak.2 rfl) ha hb
end
section
variable {k v:aS}
def S8 (tk tv:TE):TE:=λσ H Q=>∀ p,H p=ab->tk σ (upd H p (.dK 0 [])) λx H1=>tv σ H1 λy H2=>H2 p=aa (.dK 0 [])/\∃ key,x=kV key/\∀ n,Q (.ref p) (upd H2 p (.dK n [(key,y)]))
theorem Vd {tk tv:TE}(hk:PE X k tk)(hv:PE X v tv):PE X (.Dict [aa k] [v] pos) (S8 tk tv):=λac s σ H Q I h=>by
 have I':Inv X ac σ (upd H s.heap.objs.size (.dK 0 [])) { s with heap:=s.heap.push { cls:=.type "dict",data:=.dict #[] } }:=I.laid (λ_ _ q=>cF _ q) (bS _) (SD s.heap I.big)
 have h':=h s.heap.objs.size (I.hok.fresh (bS _));refine wpAny_Dict_walk (knd:=fD X.prog X.w) rfl rfl (by simp) (by simp) ?_
 refine bb (Vq hk hv Kj ac _ σ _ (λps H2=>∃ x y,ps=[(x,y)]/\H2 s.heap.objs.size=aa (.dK 0 [])/\∃ key,x=kV key/\∀ n,Q (.ref s.heap.objs.size) (upd H2 s.heap.objs.size (.dK n [(key,y)]))) I' ?_) λvs s1 ⟨ps,H2,I2,cr,x,y,LE,e2,key,ex,q⟩=>?_
 .have mono:(tk σ (upd H s.heap.objs.size (.dK 0 [])) λx H1=>tv σ H1 λy H2=>∃ x1 y1,[(x,y)]=[(x1,y1)]/\H2 s.heap.objs.size=aa (.dK 0 [])/\∃ key,x1=kV key/\∀ n,Q (.ref s.heap.objs.size) (upd H2 s.heap.objs.size (.dK n [(key,y1)]))):=by
   have e:(λ(x:V) (H1:Hp)=>tv σ H1 λy H2=>∃ x1 y1,[(x,y)]=[(x1,y1)]/\H2 s.heap.objs.size=aa (.dK 0 [])/\∃ key,x1=kV key/\∀ n,Q (.ref s.heap.objs.size) (upd H2 s.heap.objs.size (.dK n [(key,y1)])))=λx H1=>tv σ H1 λy H2=>H2 s.heap.objs.size=aa (.dK 0 [])/\∃ key,x=kV key/\∀ n,Q (.ref s.heap.objs.size) (upd H2 s.heap.objs.size (.dK n [(key,y)])):=by
    funext x H1
    congr 1
    funext y H2;refine propext ⟨λ⟨x1,y1,e,r⟩=>?_,λr=>⟨x,y,rfl,r⟩⟩
    cases e;exact r
   rw[e];exact h'
  exact mono
 .subst LE ex;have yn:VV (([(key,y)]:bm).map λkv=>(kV kv.1,kv.2)) vs:=cr
  obtain⟨rs,c,kv⟩:=VT (P:=X.prog) yn;obtain⟨_,hd,ws,r0,dd⟩:=uJ I2.hok e2;have ew:ws=[]:=by cases r0;rfl
  subst ew;refine⟨rs,c,dd,λh2 d2 sb=>?_⟩
  have he:∃ o,h2.get? s.heap.objs.size=aa o:=let ⟨o,_,_,ho,_⟩:=d2;⟨o,ho⟩;obtain⟨n,da⟩:=d2.dictAt;have km:KV [(key,y)] (jB [] rs):=KV.merge kv .nil;exact⟨.ref s.heap.objs.size,_,vB I2 (by rw[e2];exact mD) sb he (qL (by simp[pL]) hd km da),rfl,q n⟩
def FZ:aA->Option V
 |.int i=>aa (.int i)
 |.str z=>aa (.str z)
 |_=>ab
theorem Wy{v y:V}(e:FZ d=aa y)(r:Abx K H d v):v=y/\Abx K H' d y:=by
 cases d with
 |int i=>cases e;exact⟨Aak.1 r,Aak.2 rfl⟩
 |str z=>cases e;obtain⟨e1,e2⟩:=Aba.1 r;exact⟨e1,Aba.2 ⟨rfl,e2⟩⟩
 |_=>cases e
def rj (fk fv:EF):EF:=λY=>(fk Y).bind λdk=>(bO dk).bind λkey=>(fv Y).bind λd=>(FZ d).bind λ_=>aa (.dict [(kD key,d)])
theorem RO {fk fv:EF}(hk:DE X k fk)(hv:DE X v fv):DF 1 X (.Dict [aa k] [v] pos) (rj fk fv):=PE.imp (Vd hk hv) λσ H Q ⟨P,Y,d,hP,rs,ef,kk⟩ p hp=>by
 obtain⟨dk,e1,ef⟩:=ao ef;obtain⟨key,e2,ef⟩:=ao ef;obtain⟨dv,e3,ef⟩:=ao ef;obtain⟨y0,e4,ef⟩:=ao ef;cases ef;have x0:Ext H (upd H p (.dK 0 [])):=Ext.new hp;refine⟨P,Y,dk,hP.ext x0,rs.ext (dD x0),e1,eI λx H1 x1 r1=>⟨P,Y,dv,(hP.ext x0).ext x1,(rs.ext (dD x0)).ext (dD x1),e3,eI λy H2 x2 r2=>?_⟩⟩
 have ep:=x2 _ _ (x1 _ _ fT);obtain⟨rfl,rz⟩:=Wy e4 r2;refine⟨ep,key,mX e2 r1,λn=>?_⟩
 have xE:Ext H (λa=>if a=p then ab else H2 a):=λa o e=>by
  grind
 have eu:upd H2 p (.dK n [(key,y)])=upd (λa=>if a=p then ab else H2 a) p (.dK n [(key,y)]):=by
  funext a;unfold upd
  grind
 rw[eu];exact(kk.mono xE).dic (hP.ext xE) (by simp) (Abf.2 ⟨key,y,[],rfl,rfl,rz,Abt.2 rfl⟩)
end
def GD (P:bW)(w:bG)(K:aM)(a:aC)(kvs:bm):Prop:=(a==iD)=ag/\∀ h,K.In h->∃ vs,KV kvs vs/\h.DictOf (fD P w) a vs
abbrev qa (i5:aad):bm:=i5.map λp=>(p.1,V.int p.2)
abbrev jx (i5:aad):am:=i5.map λp=>(kD p.1,.int p.2)
section
variable {kvs:bm}{i5:aad}
theorem Qa (g:GD X.prog X.w X.K a kvs):OpR X (gR .NotIn) (λx y H Q=>y=.ref a/\∃ k,x=kV k/\Q (.bl (af != (eX kvs k).isSome)) H):=by
 rw[1];obtain⟨rfl,k,rfl,q⟩:=h;cases ry;obtain⟨hd,gg⟩:=g;obtain⟨vs,cr,dd⟩:=gg s.heap I.kIn;refine wpAny_notIn_of (lW rx) hd dd.mapOf ?_;rw[<-(cr.val k).isSome_eq];exact⟨.bl _,H,I.tok _,rfl,by simpa using q⟩
theorem YU (i5:aad)(k:aG):∃ o:aap,bL (jx i5) k=o.map bC/\eX (qa i5) k=o.map V.int:=by
 induction i5 with
 |nil=>exact⟨ab,rfl,rfl⟩
 |cons p r ih=>
  obtain⟨o,h1,h2⟩:=ih;have ek:bO (kD p.1)=aa p.1:=by cases p.1<;>rfl
  unfold bL at h1 ⊢;unfold eX at h2 ⊢;show ∃ o:aap,(((kD p.1,bC p.2)::jx r).find? λkd=>decide (bO kd.1=aa k)).map (·.2)=o.map bC/\(((p.1,V.int p.2)::qa r).find? λkv=>decide (kv.1=k)).map (·.2)=o.map V.int
  rw[gF,gF];by_cases h:p.1=k
  .have c1:decide (bO (kD p.1)=aa k)=af:=by rw[ek,h];simp
   have c2:decide (p.1=k)=af:=by simp[h]
   exact⟨aa p.2,by simp only[c1];rfl,by simp only[c2];rfl⟩
  .have c1:decide (bO (kD p.1)=aa k)=ag:=by rw[ek];simpa using h
   have c2:decide (p.1=k)=ag:=by simp[h]
   refine⟨o,?_,?_⟩
   .simp only[c1];exact h1
   .simp only[c2];exact h2
theorem F6 (i5:aad):f6 (jx i5)=af:=by
 cases i5 with
 |nil=>rfl
 |cons p r=>obtain⟨k,v⟩:=p;cases k<;>rfl
theorem yD (neg:Bool)(d:aA)(kds:am):fu neg d (.dict kds)=if f6 kds=af then(bO d).bind λk=>aa (.bool (neg != (bL kds k).isSome)) else FI neg d kds:=by cases d<;>rfl
theorem Gg {neg:Bool}(σ:St)(H:Hp)(Q:VK)(h:tF X.K 0 (ah (fu neg) f (eC (.dict (jx i5)))) σ H Q) :
  rp (λx y H Q=>y=.ref a/\∃ k,x=kV k/\Q (.bl (neg != (eX (qa i5) k).isSome)) H) (tF X.K 0 f) (tC (.ref a)) σ H Q:=by
 obtain⟨P,Y,d,hP,rs,ef,k⟩:=h;obtain⟨d1,e1,ef⟩:=ao ef;obtain⟨d2,e2,ef⟩:=ao ef;cases e2;refine⟨P,Y,d1,hP,rs,e1,eI λv H1 x1 r1=>?_⟩
 have ef:((bO d1).bind λk=>aa (eZ (neg != (bL (jx i5) k).isSome)))=aa d:=by
  rw[yD,if_pos (F6 i5)] at ef;exact ef
 obtain⟨k0,e3,ef⟩:=ao ef;cases ef;obtain⟨o,h1,h2⟩:=YU i5 k0;refine⟨rfl,k0,mX e3 r1,?_⟩;rw[h1] at k;rw[h2];have:(o.map V.int).isSome=(o.map bC).isSome:=by cases o<;>rfl
 rw[this];exact(k.mono x1).zero Ext.refl (Aao.2 rfl)
theorem Pw (g:GD X.prog X.w X.K a (qa i5))(hg:Gl X x)(hm:X.mg x=aa (.ref a))(he:DE X e f)(hb:vU .NotIn (.Name x px)=ag:=by rfl)(hd:(x==("__debug__" : aD))=ag:=by decide):DT X (.Compare e [.NotIn] [.Name x px] pos) (aj (ah (fu af) f (eC (.dict (jx i5))))):=
 PT.imp (OT (Qa g) he (GR (v:=.ref a) hg hm rfl hd) hb) λσ H Q gh=>by
  obtain⟨P,Y,c,hP,rs,ef,k⟩:=gh;obtain⟨d,e1,ef⟩:=ao ef;cases qZ ef;exact Gg σ H _ ⟨P,Y,_,hP,rs,e1,eI λv H1 x1 r1=>⟨c,Aao.1 r1,k H1 x1⟩⟩
theorem Ie (g:GD X.prog X.w X.K a (qa i5))(hg:Gl X x)(hm:X.mg x=aa (.ref a))(he:DE X e f)(hs:FC e)(hd:(x==("__debug__" : aD))=ag:=by decide):DE X (.Subscript (.Name x px) e pos) (ah ai (eC (.dict (jx i5))) f):=by
 rw[5];obtain⟨P,Y,d,hP,rs,ef,k⟩:=h;obtain⟨d2,e2,ef⟩:=ao ef;cases e2;obtain⟨d1,e1,ef⟩:=ao ef;have ef:=ef;obtain⟨k0,e3,ef⟩:=ao ef;obtain⟨o,h1,h2⟩:=YU i5 k0;rw[h1] at ef;obtain⟨i,rfl,rfl⟩:=iE.1 ef;obtain⟨hsy,gg⟩:=g;refine PD b8.lookup hs (bb (GR hg hm (v:=.ref a) rfl hd ac s σ H (λy H'=>y=.ref a/\H'=H) I ⟨rfl,rfl⟩) λu s1 gh=>?_)
 obtain⟨y,H1,I1,ry,e4,e5⟩:=gh;subst e4 e5;obtain rfl:u=gN a:=ry;refine bb (he ac s1 σ H1 _ I1 ⟨P,Y,d1,hP,rs,e1,eI (Q:=λv H2=>∃ x1:Ext H1 H2,v=kV k0) λv H2 x2 r2=>⟨x2,mX e3 r2⟩⟩) λiv s2 gh=>?_
 obtain⟨y,H2,I2,ry,x2,ey⟩:=gh;subst ey;obtain⟨vs,cr,dd⟩:=gg s2.heap I2.kIn;obtain⟨w',hw,i3⟩:=Asf.some_of (by have:=cr.val k0;rw[h2] at this;exact this)
 refine⟨dd.typeIs,wpAny_getItem_of (lW ry) dd.mapOf hw ⟨.int i,H2,I2.tok _,i3,?_⟩⟩;exact(k.mono x2).zero Ext.refl (Aak.2 rfl)
end
def GO (P:bW)(w:bG)(o:bJ)(kvs:bm):Prop:=∃ vs es ep,KV kvs vs/\o.ExactDict/\o.data=.dict es ep/\KeysOf (fD P w) es/\Pairs (fD P w) es.toList vs/\(vs.map (·.1)).Nodup
theorem GD.of{o:bJ}{kvs:bm}(hs:(a==iD)=ag)(hl:K.lookup a=aa o)(g:GO P w o kvs):GD P w K a kvs:=⟨hs,λh hk=>by
 obtain⟨vs,es,ep,r,h1,h2,h3,h4,h5⟩:=g;exact⟨vs,r,o,es,ep,hk a o hl,h1,h2,h3,h4,h5⟩⟩
theorem strSelf (x:aD)(t:Tok):LP x (.str x t)=af:=by simp[LP]
theorem Bh0(es:List (aD×Int×Tok×Tok))(ep:Nat)(nd:(es.map (·.1)).Nodup):GO P w { cls:=.type "dict",data:=.dict (es.map λe=>⟨PyData.keyHash w.params e.1,.str e.1 e.2.2.1,.int e.2.1 e.2.2.2⟩).toArray ep } (qa (es.map λe=>(.inr e.1,e.2.1))):=by
 refine⟨es.map λe=>(.inr e.1,.int e.2.1 e.2.2.2),_,ep,?_,⟨rfl,rfl,rfl⟩,rfl,?_,?_,?_⟩
 .clear nd;induction es with
  |nil=>exact .nil
  |cons e r ih=>exact .cons ⟨rfl,_,rfl⟩ ih
 .intro e m;have m:e∈es.map λe=>(⟨PyData.keyHash w.params e.1,.str e.1 e.2.2.1,.int e.2.1 e.2.2.2⟩:pZ):=by simpa using m
  obtain⟨x,_,rfl⟩:=cG.1 m;exact⟨.inr x.1,strSelf x.1 x.2.2.1,rfl⟩
 .clear nd;induction es with
  |nil=>exact .nil
  |cons e r ih=>exact .cons (strSelf e.1 e.2.2.1) rfl ih
 .rw[eN];have:∀ l:List (aD×Int×Tok×Tok),(l.map (·.1)).Nodup->(l.map ((λkv:aG×aF=>kv.1)∘λe=>((.inr e.1:aG),DZ e.2.1 e.2.2.2))).Nodup:=λl=>by
   induction l with
   |nil=>intro _;simp
   |cons e r ih=>
    intro h;rw[dF,gZ] at h ⊢;refine⟨λm=>h.1 ?_,ih h.2⟩
    obtain⟨y,my,q⟩:=cG.1 m;have q:=q;exact cG.2 ⟨y,my,zS q⟩
  exact this es nd
theorem CT:entryFor table "dict.update.loop" = aa Builtin.«dict.update.loop»:=entryFor_of_tree (by kernel_rfl)
theorem rD:plainId "dict.update.loop" = af:=by rw[0]
theorem Tf:vP (.type "list") "keys" = pure ab:=by rw[LF,LN];kernel_rfl
set_option maxHeartbeats 4000000 in
theorem La{xs:Array aF}{Q:aao->aK->Prop}(hx:s.heap.get? a=aa { cls:=.type "list",dict:=ab,data:=.seq xs k,slots:=sl })(hA:A.handled=ab)
  (h:∀ h' tk,(∀ b o,s.heap.get? b=aa o->h'.get? b=aa o)->Q ab { s with heap:=h',toks:=tk }):aP (aW prog w) A (getAttr? (.ref a) "keys") Q E s:=by
 obtain⟨hp,g,d,tk,os⟩:=s;have hT:∀ l8,(⟨hp,g,d,l8,os⟩:aK).TypeIs (.ref a) "list":=λ_=>⟨_,hx,rfl⟩
 have f1:=sub_AttributeError;have f3:=Dc.lookup;have f4:=Dc.bind (.ref a);have f5:=am_list_getattr_none;unfold getAttr? getAttrBy? getAttrBy
 repeat (any_goals (first|assumption|exact hT _|((with_reducible show aP _ _ (call (Value.builtin "list.__getattribute__") _ _) _ _ _);refine call_meets Dc (hT _) am_entry_list_getattribute (F.args_list_getattribute_2 _ _) (meets_getattribute_miss_list a xs k sl _ _ Tf (by rw[0])) ⟨hx,hA,λh' l8 e uw=>?_⟩)|wp_step))
 obtain⟨t',u',he⟩:=uw.there;unfold getattributeRaised
 repeat (any_goals (first|assumption|wp_step))
 exact h _ _ uw.keeps
def Aol (h:aY)(D:aC)(wr:aaj)(ak:Array aF)(kvs:aab):Prop:=
 ∀ (j:Nat) v,ak[j]?=aa v->∃ b kv p,v=.ref b/\kvs[j]?=aa p/\h.IsTuple b #[kv,p.2]/\(fD prog w).is p.1 kv=af/\b≠D/\b∉wr
theorem Aol.keep{D:aC}{wr:aaj}(q:Aol (prog:=prog) (w:=w) h D wr ak kvs)(k:∀ b o,b≠D->b∉wr->h.get? b=aa o->h'.get? b=aa o):Aol (prog:=prog) (w:=w) h' D wr ak kvs:=λj v e=>by
 obtain⟨b,kv,p,rfl,e1,⟨o,e2,e3⟩,e4,e5,e6⟩:=q j v e;exact⟨b,kv,p,rfl,e1,⟨o,k b o e5 e6 e2,e3⟩,e4,e5,e6⟩
theorem JD:∀ (more kvs:aab),(jB kvs more).length<=kvs.length+more.length
 |[],kvs=>bS _
 |p::r,kvs=>by
  have h1:=JD r (rL kvs p.1 p.2);have h2:(rL kvs p.1 p.2).length<=kvs.length+1:=by
   unfold rL;split<;>simp
  show(jB (rL kvs p.1 p.2) r).length<=_;rw[fZ]
  lia
theorem Qs{I:aC}{fp wr:aaj}{G:Array GenState->Array GenState->Prop}{St:Nat->aK->Prop}
  (W:WalksS prog w A.in1 I fp wr G n (λi v=>ak[i]?=aa v) St) (D:aC) (Ch:D∉fp) (kvs:aab) (hn:n<=sizeLine) (v8:kvs.length=n) :
  ∀ (k i:Nat) (s:aK),n-i=k->i<=n->St i s->s.heap.DictOf (fD prog w) D (jB [] (kvs.take i))->Aol (prog:=prog) (w:=w) s.heap D wr ak kvs ->
   (∀ s',Moved (D::wr) G s s'->s'.heap.DictOf (fD prog w) D (jB [] kvs)->R (.ok (.ret .none)) s') ->
   oR (aW prog w) A (.builtin "dict.update.loop" ⟨[.ref D,.ref I,jA (i:Int),.none],[]⟩) R s:=by
 have Cl:D∉wr:=λz=>Ch (W.sub _ z)
 have more:∀ b∈wr,b∈D::wr:=λb z=>cL _ z
 intro k;induction k with
 |zero=>
  intro i s hk hi j3 hS hT hR;obtain rfl:i=n:=()
  refine tQ CT ?_;rw[AJ rD _];refine aI (W.done s _ _ j3 λs' hm=>?_)
  refine aI (aZ (aZ (hR s' (hm.mono more) ?_)));obtain⟨o,es,ep,ho,r⟩:=hS;rw[<-v8,wA] at r;exact⟨o,es,ep,hm.heap D o Cl ho,r⟩
 |succ k ih=>
  intro i s hk hi j3 hS hT hR;have bu:i<n:=()
  refine tQ CT ?_;rw[AJ rD _];refine aI (W.item i s _ _ bu j3 λv s' LT yo hm=>?_)
  have C0:=hT.keep λb o _ h2 e=>hm.heap b o h2 e
  obtain⟨b,kv,p,rfl,e1,tb,e4,e5,e6⟩:=C0 i v LT;have ou:s'.heap.DictOf (fD prog w) D (jB [] (kvs.take i)):=by
   obtain⟨o,es,ep,ho,r⟩:=hS;exact⟨o,es,ep,hm.heap D o Cl ho,r⟩
  have mw:jB [] (kvs.take (i+1))=rL (jB [] (kvs.take i)) p.1 p.2:=by
   rw[tU,e1];simp[jB,EN]
  have au:(jB [] (kvs.take i)).length<=sizeLine:=by
   have:=JD (kvs.take i) []
   grind
  refine aI (kH (aI (wpAny_tryCatch ?_)));unfold Builtin.Dict.pairItems;refine aI (nW tb.typeIs ?_);obtain⟨ob,g1,g2,nb,g3⟩:=tb;refine aI (mZ g1 g3 (aZ ?_));refine kH (wpAny_dictSet_pairs e4 ou (λh' d' sb=>?_) au)
  refine aZ ⟨zP rD _,?_⟩;refine ih (i+1) _ () bu (W.frame _ s' _ _ yo (zV _) λc hc o e=>?_) (by rw[mw];exact d') (C0.keep λb o h1 _ e=>(sb.2 b h1).trans e) λti yp S4=>?_
  .exact(sb.2 c (λz=>Ch (z ▸ hc))).trans e
  .exact hR ti (Moved.trans W.gtrans ((hm.mono more).then_heap (zV _) λc o hc e=>(sb.2 c (λz=>hc (z ▸ bT))).trans e) yp) S4
theorem Rh{nl:Nat}{N:aY->Prop}(hh:A.handled=ab)(hl:s.heap.get? l=aa { cls:=.type "list",dict:=ab,data:=.seq ak nl,slots:=sl })
  (hp:∀ (A':cP) (R:tR->aK->Prop) (I:aC) (s1:aK),A'.units<=A.units+50->WalksS prog w A'.in1 I [I,l] [I] (λa b=>b=a) ak.size (λi v=>ak[i]?=aa v) (λi s=>s.heap.IsListIter I l i/\s.heap.IsList l ak)->s.heap.objs.size∉[I,l]->s.heap.objs.size<I->s1.heap.IsListIter I l 0/\s1.heap.IsList l ak ->
   (∀ b o,(s.heap.push { cls:=.type "dict",data:=.dict #[] }).get? b=aa o->s1.heap.get? b=aa o)->(∀ s',Moved [s.heap.objs.size,I] (λa b=>b=a) s1 s'->N s'.heap->R (.ok (.ret .none)) s')->oR (aW prog w) A' (.builtin "dict.update.loop" ⟨[.ref s.heap.objs.size,.ref I,jA ((0:Nat):Int),.none],[]⟩) R s1)
  (h:∀ h' tk,N h'->(∀ b o,s.heap.get? b=aa o->h'.get? b=aa o)->Q (.ref s.heap.objs.size) { s with heap:=h',toks:=tk }) :
  aP (aW prog w) A (call (.type "dict") [.ref l]) Q E s:=by
 refine callType_codes (Q₁:=λobj s₁=>obj=.ref s.heap.objs.size/\s₁={ s with heap:=s.heap.push { cls:=.type "dict",data:=.dict #[] } }) F.kt_called_dict (F.kt_typeCall_dict_1 _) F.entry_dict_init (kt_code_dict_new _ ⟨rfl,rfl⟩) ?_
 rintro obj s₁ ⟨rfl,rfl⟩;have ds:(s.heap.push { cls:=.type "dict",data:=.dict #[] }).get? s.heap.objs.size=aa { cls:=.type "dict",data:=.dict #[] }:=dZ _ rfl;have dn:Shared.TypeIs { s with heap:=(s.heap.push { cls:=.type "dict",data:=.dict #[] }) } (.ref s.heap.objs.size) "dict":=⟨_,ds,rfl⟩;have l1:(s.heap.push { cls:=.type "dict",data:=.dict #[] }).get? l=aa { cls:=.type "list",dict:=ab,data:=.seq ak nl,slots:=sl }:=cF _ hl;refine⟨dn,F.args_dict_init_2 _ _,?_⟩;unfold Builtin.«dict.__init__»;refine aI ?_;unfold Builtin.Dict.selfAndRest;refine aI (Bl dn (aZ ?_));show aP _ _ (MU "dict.__init__" s.heap.objs.size (.ref l) [] .none) _ _ _;unfold MU;refine aI (nW (T:="list") ⟨_,l1,rfl⟩ ?_);rw[if_pos nofun]
 refine aI (La l1 (by simp[hh]) λh1 tk k1=>?_)
 show aP _ _ (rule _>>=λ_=>pyIter (.ref l)>>=_) _ _ _
 have l2:h1.get? l=aa { cls:=.type "list",dict:=ab,data:=.seq ak nl,slots:=sl }:=k1 _ _ l1;have L2:h1.IsList l ak:=⟨_,l2,rfl,nl,rfl⟩;refine aI (rK (aI (DV L2 (aZ ⟨zP rD _,?_⟩))));have lS:l<s.heap.objs.size:=bX hl;have sD:s.heap.objs.size<h1.objs.size:=bX (k1 _ _ ds);have nI:l≠h1.objs.size:=fH (Nat.lt_trans lS sD);have nS:s.heap.objs.size∉[h1.objs.size,l]:=λz=>by
  grind
 refine hp _ _ _ _ (by simp<;>lia) ((Walks.list (by simp[hh]) _ l nI ak).toS) nS sD ⟨⟨_,dZ _ rfl,rfl,rfl⟩,L2.push _⟩ (λb o e=>cF _ (k1 _ _ e)) λs' hm S'=>?_
 obtain⟨h',g',d',l8,vt⟩:=s';obtain rfl:g'=s.gens:=hm.gens;obtain rfl:d'=s.drawn:=hm.drawn;obtain rfl:vt=s.os:=hm.os;refine⟨rfl,h h' l8 S' λb o e=>?_⟩
 have lb:b<s.heap.objs.size:=bX e;refine hm.heap b o (λz=>?_) (cF _ (k1 _ _ (cF _ e)))
 rcases dJ.1 z with z|z
 .exact absurd z (fH lb)
 .grind
theorem Rk{nl:Nat}(hh:A.handled=ab)(hl:s.heap.get? l=aa { cls:=.type "list",dict:=ab,data:=.seq ak nl,slots:=sl })
  (v8:kvs.length=ak.size) (hz:ak.size<=sizeLine) (hp:∀ (j:Nat) v,ak[j]?=aa v->∃ b kv p,v=.ref b/\kvs[j]?=aa p/\s.heap.IsTuple b #[kv,p.2]/\(fD prog w).is p.1 kv=af)
  (h:∀ h' tk,h'.DictOf (fD prog w) s.heap.objs.size (jB [] kvs)->(∀ b o,s.heap.get? b=aa o->h'.get? b=aa o)->Q (.ref s.heap.objs.size) { s with heap:=h',toks:=tk }) :
  aP (aW prog w) A (call (.type "dict") [.ref l]) Q E s:=by
 refine Rh hh hl (λA' R I s1 _ W nS sD st kp q=>Qs W s.heap.objs.size nS kvs hz v8 (ak.size-0) 0 _ rfl (fY _) st ?_ (λj v e=>?_) q) h
 .obtain⟨o,es,ep,ho,r⟩:=(Heap.DictOf.new s.heap:(s.heap.push { cls:=.type "dict",data:=.dict #[] }).DictOf (fD prog w) s.heap.objs.size []);exact⟨o,es,ep,kp _ _ ho,r⟩
 .obtain⟨b,kv,p,rfl,e1,⟨o,e2,e3⟩,e4⟩:=hp j v e;have lb:=bX e2;exact⟨b,kv,p,rfl,e1,⟨o,kp b o (cF _ e2),e3⟩,e4,fH lb,λz=>absurd (fN.1 z) (fH (Nat.lt_trans lb sD))⟩
theorem Ih {α β:Type}{R R':α->β->Prop}(f:∀ a b,R a b->R' a b):∀ {as:List α} {bs:List β},gJ R as bs->gJ R' as bs:=by
 intro as bs h;induction h with
 |nil=>exact .nil
 |cons h _ ih=>exact .cons (f _ _ h) ih
abbrev FV (K:aM)(H:Hp)(ys:aag)(ps:bm):Prop:=gJ (λy (p:aG×V)=>∃ b,y=V.ref b/\SqT K H b [kV p.1,p.2]) ys ps
theorem Vi{σ:St}(I:Inv X ac σ H s):∀ {ys:aag} {ps:bm} {its:aal},FV X.K H ys ps->Vals ys its ->
  ∃ kvs:aab,KV ps kvs/\kvs.length=its.length/\∀ (j:Nat) v,its[j]?=aa v->∃ b kv p,v=.ref b/\kvs[j]?=aa p/\s.heap.IsTuple b #[kv,p.2]/\(fD X.prog X.w).is p.1 kv=af:=by
 intro ys ps its hp;induction hp generalizing its with
 |nil=>
  intro r;cases r;exact⟨[],.nil,rfl,λj v e=>by simp at e⟩
 |@cons y p ys ps hq t ih=>
  intro r;obtain⟨b,e,q⟩:=hq;subst e;cases r with
  |cons r rr=>
   cases r;obtain⟨kvs,h1,h2,h3⟩:=ih rr;obtain⟨us,rv,tb,_⟩:=I.tuple q;cases rv with
   |cons ra rb=>
    cases rb with
    |cons rb rc=>
     cases rc;refine⟨(p.1,_)::kvs,.cons ⟨rfl,rb⟩ h1,by simp[h2],λj v e=>?_⟩
     cases j with
     |zero=>
      cases e;exact⟨b,_,(p.1,_),rfl,rfl,tb,lW ra⟩
     |succ j=>exact h3 j v (by simpa using e)
theorem WL (hc:X.calm=af):Adn X (.type "dict") (λxs H Q=>∃ p ys ps,xs=[.ref p]/\SqL X.K H p ys/\FV X.K H ys ps/\∀ q n,H q=ab->Q (.ref q) (upd H q (.dK n (mO [] ps)))):=by
 rw[3];obtain⟨p,ys,ps,rfl,hp,hv,q⟩:=h;obtain⟨u,rfl,ru⟩:=vals1 r;cases ru;obtain⟨its,rv,⟨o,n,ho,pj,j8,C3⟩,hz⟩:=I.list hp;obtain⟨kvs,h1,h2,h3⟩:=Vi I hv rv;have e1:=rv.length;obtain⟨c,dct,dat,sl⟩:=o;simp only at pj j8 C3;subst pj j8 C3;refine Rk (I.ok.hd hc) ho (by rw[fR];exact h2) (by rw[fR];lia) (λj v e=>h3 j v (by simpa using e)) λh' tk dd hk=>?_
 obtain⟨m,da⟩:=dd.dictAt;have lz:(mO [] ps).length<=sizeLine:=by
  have l1:=CW ps [];have l2:=oC h1;simp at l1
  lia
 exact⟨.ref s.heap.objs.size,_,I.laid hk (bS _) (qL lz (beq_eq_false_iff_ne.2 (kY (fH I.big))) (h1.merge .nil) da),rfl,q _ m I.fresh⟩
def rZ:aae->Option aaa
 |[]=>aa []
 |.tuple [k,d]::r=>(bO k).bind λk=>(rZ r).bind λps=>aa ((k,d)::ps)
 |_::_=>ab
def gE (ps:aaa)(kds:am):am:=ps.foldl (λaq p=>putD aq p.1 p.2) kds
def xA:aae->aaf
 |[.list ds]=>(rZ ds).bind λps=>aa (.dict (gE ps []))
 |_=>ab
theorem IY:∀ {ps:aaa} {qs:bm},gJ (λ(p:aG×aA) (q:aG×V)=>p.1=q.1/\Abx K H p.2 q.2) ps qs->∀ {kds:am} {kvs:bm},Ab3 K H kds kvs->Ab3 K H (gE ps kds) (mO kvs qs):=by
 intro ps qs hp;induction hp with
 |nil=>exact λr=>r
 |@cons p q ps qs hq t ih=>
  intro kds kvs r;have:=ih (PK (k:=p.1) r hq.2);show Ab3 K H (gE _ (putD kds p.1 p.2)) (mO (putK kvs q.1 q.2) _);rw[<-hq.1];exact this
theorem Xn:∀ {ds:aae} {ps:aaa} {ys:aag},rZ ds=aa ps->Aap K H ds ys->∃ qs:bm,gJ (λ(y:V) (q:aG×V)=>∃ b,y=V.ref b/\H b=aa (.tup [kV q.1,q.2])) ys qs/\gJ (λ(p:aG×aA) (q:aG×V)=>p.1=q.1/\Abx K H p.2 q.2) ps qs:=by
 intro ds;induction ds with
 |nil=>
  intro ps ys e r;cases e;rw[Aal.1 r];exact⟨[],.nil,.nil⟩
 |cons z ds ih=>
  intro ps ys e r;cases z with
  |tuple zs=>
   cases zs with
   |nil=>cases e
   |cons k zs=>
    cases zs with
    |nil=>cases e
    |cons d zs=>
     cases zs with
     |cons _ _=>cases e
     |nil=>
      obtain⟨key,e1,e⟩:=ao (show((bO k).bind λk=>(rZ ds).bind λps=>aa ((k,d)::ps))=aa ps from e)
      obtain⟨L3,e2,e⟩:=ao e;cases e;obtain⟨v,t,rfl,r1,r2⟩:=Aag.1 r;obtain⟨qs,h1,h2⟩:=ih e2 r2;obtain⟨b,xs,rfl,hb,rx⟩:=Aan.1 r1;obtain⟨u1,t1,rfl,a1,a2⟩:=Aag.1 rx;obtain⟨u2,rfl,a3⟩:=gQ a2;rw[mX e1 a1] at hb;exact⟨(key,u2)::qs,.cons ⟨b,rfl,hb⟩ h1,.cons ⟨rfl,a3⟩ h2⟩
  |_=>cases e
theorem WR:CallD K 1 (λxs H Q=>∃ p ys ps,xs=[.ref p]/\SqL K H p ys/\FV K H ys ps/\∀ q n,H q=ab->Q (.ref q) (upd H q (.dK n (mO [] ps)))) xA:=λP H xs ds d Q hP r e k=>by
 unfold xA at e;split at e
 .obtain⟨ps,e1,e2⟩:=ao e;cases e2;rw[6];obtain⟨q,ys,rfl,hq,rr⟩:=Abp.1 r';obtain⟨qs,h1,h2⟩:=Xn e1 rr;refine⟨q,ys,qs,rfl,Aau.sqL hq,?_,λl n hn=>k.dic hP hn (IY h2 (Abt.2 rfl))⟩
  exact Ih (λy p ⟨b,e,hb⟩=>⟨b,e,SqT.of (Aau _ _ hb)⟩) h1
 .cases e
section
theorem Vl{o:bJ}{Q:Option bJ->aK->Prop}(ho:s.heap.get? a=aa o)(h:Q (aa o) s):aP (aW P w) A (loadIfAlive a) Q E s:=λΓ p _=>by
 show Q (s.heap.get? a) s;rw[ho];exact h
abbrev FL (h:aY)(z TI TO:aC)(T:Nat)(c:Bool):Prop:=
 h.get? z=aa { cls:=.type "zip",dict:=ab,data:=.fields #[jA T,.bool c,.bool ag,.ref TI,.ref TO],slots:=#[] }
variable {C z TI TO:aC}{xs ys:Array aF}{T:Nat}{c:Bool}
def ri (D z TI TO i1 i2:aC)(S1 S2:Nat->aY->Prop)(k:Nat)(h:aY):Prop:=
 (∃ T c,FL h z TI TO T c/\(∃ o,h.get? T=aa o)/\T≠z/\T≠i1/\T≠i2/\T≠D)/\mJ h TI (.ref i1) (.ref i2)/\S1 k h/\S2 k h
theorem OO {Q:Bool->aK->Prop}(gz:FL s.heap z TI TO T c)(ha:∃ o,s.heap.get? T=aa o)(q:∀ h' c',FL h' z TI TO T c'->wJ z s.heap h'->Q ag { s with heap:=h' }):aP (aW P w) A (AH (.ref z)) Q E s:=by
 obtain⟨o,ha⟩:=ha;unfold AH;refine aI (gG gz rfl rfl ?_);refine aI (Vl (by simpa using ha) ?_)
 refine aI (gG gz rfl rfl ?_);cases c with
 |true=>
  exact aI (aZ (aZ (q _ _ gz (Heap.SameBut.refl _ _))))
 |false=>
  exact aI (nX gz (by simp) λh' g' sb=>aZ (q h' af g' sb))
theorem Xv {x y:aF}(D:ZApart z TI TO i1 i2 o1 o2)(U:Sub P w i1 o1 S1 xs)(V:Sub P w i2 o2 S2 ys)(st:ri C z TI TO i1 i2 S1 S2 k s.heap)(hx:xs[k]?=aa x)(hy:ys[k]?=aa y)
  (q:∀ h' T,ri C z TI TO i1 i2 S1 S2 (k+1) h'->mJ h' T x y->s.heap.objs.size<=T ->
   (∀ c o,c≠z->c≠TO->c≠i1->c≠i2->s.heap.get? c=aa o->h'.get? c=aa o)->Q (.ref T) { s with heap:=h' }) :
  aP (aW P w) A (Builtin.«zip.__next__» ⟨[.ref z],[]⟩) (λfin s'=>∃ v,fin=.done (.ret v)/\Q v s') E s:=by
 obtain⟨⟨T,c,gz,⟨oT,gT⟩,T1,T2,T3,T4⟩,gI,jr,j4⟩:=st;have z1:i1≠z:=λe=>D.z1 (e ▸ U.mem)
 have z2:i2≠z:=λe=>D.z2 (e ▸ V.mem)
 show aP _ _ (pO (.ref z) 2>>=_) _ E s;refine aI (gG gz rfl rfl ?_);refine aI (gG gz rfl rfl (aI (mZ gI rfl ?_)));refine aI (OO gz ⟨oT,gT⟩ λha c' l9 sa=>?_)
 simp only[qA,if_false,pure_bind];refine aI ?_;rw[<-MW];simp only[EM,MI];refine aI (aI (kH ?_));refine aI (U.item _ _ _ _ k x (U.but jr D.z1 sa.extBut) hx λhb me sb=>aZ ?_)
 refine aZ (aI (aI (kH ?_)));refine aI (V.item _ _ _ _ k y (V.but (V.but j4 D.z2 sa.extBut) D.x12 sb.extBut) hy λhd qp sd=>aZ ?_)
 refine aZ (aZ ?_);refine aI (DX (hsz:=by show 2<=sizeLine;decide) ?_)
 have up:∀ c o,c≠z->c≠i1->c≠i2->s.heap.get? c=aa o->hd.get? c=aa o:=λc o n1 n3 n4 g=>sd.extBut _ _ n4 (sb.extBut _ _ n3 (sa.extBut _ _ n1 g))
 have size:hd.objs.size=s.heap.objs.size:=by rw[sd.1,sb.1,sa.1]
 have v4:=sd.extBut _ _ z2.symm (sb.extBut _ _ z1.symm l9);have yq:=U.but me D.x21 sd.extBut;have pu:∀ (c:aC) o,hd.get? c=aa o->(hd.push { cls:=.type "tuple",data:=.seq #[x,y] }).get? c=aa o:=λc o g=>cF _ g
 refine aZ ⟨_,rfl,q _ hd.objs.size ⟨⟨T,c',pu _ _ v4,⟨oT,pu _ _ (up _ _ T1 T2 T3 gT)⟩,T1,T2,T3,T4⟩,pu _ _ (up _ _ D.TIz D.TI1 D.TI2 gI),U.keep _ _ _ yq λc _ o g=>pu _ _ g,V.keep _ _ _ qp λc _ o g=>pu _ _ g⟩ (dZ _ rfl) (EH size.symm) λc o n1 n2 n3 n4 g=>pu _ _ (up c o n1 n3 n4 g)⟩
theorem Xe {Q:Fin->aK->Prop}(hh:A.handled=ab)(D:ZApart z TI TO i1 i2 o1 o2)(U:Sub P w i1 o1 S1 xs)(V:Sub P w i2 o2 S2 ys)(st:ri C z TI TO i1 i2 S1 S2 k s.heap)(g7:xs[k]?=ab\/ys[k]?=ab)
  (q:∀ h' e,(∀ c o,c≠z->c≠TO->c≠i1->c≠i2->s.heap.get? c=aa o->h'.get? c=aa o)->(∃ o,h'.get? e=aa o/\o.cls=.type "StopIteration")->E (.ref e) { s with heap:=h' }) :
  aP (aW P w) A (Builtin.«zip.__next__» ⟨[.ref z],[]⟩) Q E s:=by
 obtain⟨⟨T,c,gz,⟨oT,gT⟩,T1,T2,T3,T4⟩,gI,jr,j4⟩:=st;show aP _ _ (pO (.ref z) 2>>=_) _ E s;refine aI (gG gz rfl rfl ?_);refine aI (gG gz rfl rfl (aI (mZ gI rfl ?_)));refine aI (OO gz ⟨oT,gT⟩ λha c' l9 sa=>?_)
 simp only[qA,if_false,pure_bind];refine aI ?_;rw[<-MW];simp only[EM,MI];refine aI (aI (kH ?_));cases hx:xs[k]? with
 |none=>
  refine aI (U.done _ _ _ _ k hh (U.but jr D.z1 sa.extBut) hx λhb e sb he=>?_)
  exact q hb e (λc o n1 _ n3 _ g=>sb _ _ n3 (sa.extBut _ _ n1 g)) he
 |some x=>
  have hy:=g7.resolve_left λh=>by rw[hx] at h;cases h
  refine aI (U.item _ _ _ _ k x (U.but jr D.z1 sa.extBut) hx λhb me sb=>aZ ?_)
  refine aZ (aI (aI (kH ?_)));refine aI (V.done _ _ _ _ k hh (V.but (V.but j4 D.z2 sa.extBut) D.x12 sb.extBut) hy λhd e sd he=>?_)
  exact q hd e (λc o n1 _ n3 n4 g=>sd _ _ n4 (sb.extBut _ _ n3 (sa.extBut _ _ n1 g))) he
def Bfu (C z TI TO i1 i2:aC)(S1 S2:Nat->aY->Prop)(k:Nat)(h:aY):Prop:=k7 z TI TO i1 i2 S1 S2 .none k h\/ri C z TI TO i1 i2 S1 S2 k h
theorem Oz {x y:aF}{Q:aao->aK->Prop}(D:ZApart z TI TO i1 i2 o1 o2)(U:Sub P w i1 o1 S1 xs)(V:Sub P w i2 o2 S2 ys)(st:Bfu C z TI TO i1 i2 S1 S2 k s.heap)(hx:xs[k]?=aa x)(hy:ys[k]?=aa y)(lC:C<s.heap.objs.size)
  (q:∀ h' T,ri C z TI TO i1 i2 S1 S2 (k+1) h'->mJ h' T x y->s.heap.objs.size<=T ->
   (∀ c o,c≠z->c≠TO->c≠i1->c≠i2->s.heap.get? c=aa o->h'.get? c=aa o)->Q (aa (.ref T)) { s with heap:=h' }):aP (aW P w) A (jJ (.ref z)) Q E s:=by
 rcases st with st|st
 .have lz:=bX st.1;have l1:i1<s.heap.objs.size:=by obtain⟨o,e⟩:=U.obj _ _ st.2.2.2.1 _ U.mem;exact bX e
  have l2:i2<s.heap.objs.size:=by obtain⟨o,e⟩:=V.obj _ _ st.2.2.2.2 _ V.mem;exact bX e
  refine QI D U V st hx hy λh' ⟨g1,g2,g3,g4,g5⟩ pr sz dL=>q h' _ ⟨⟨_,ag,g1,⟨_,pr⟩,lQ lz,lQ l1,lQ l2,lQ lC⟩,g2,g4,g5⟩ pr (bS _) dL
 .have ty:s.TypeIs (.ref z) "zip":=by
   obtain⟨⟨T,c,gz,_⟩,_⟩:=st;exact⟨_,gz,rfl⟩
  unfold jJ;exact aI (tP (nZ ty tX (jR tX ty MP (Xv D U V st hx hy λh' T a1 a2 a3 a4=>aZ (q h' T a1 a2 a3 a4)) (MQ _))))
theorem Pn {Q:aao->aK->Prop}(hh:A.handled=ab)(D:ZApart z TI TO i1 i2 o1 o2)(U:Sub P w i1 o1 S1 xs)(V:Sub P w i2 o2 S2 ys)(st:Bfu C z TI TO i1 i2 S1 S2 k s.heap)(g7:xs[k]?=ab\/ys[k]?=ab)
  (q:∀ h',(∀ c o,c≠z->c≠TO->c≠i1->c≠i2->s.heap.get? c=aa o->h'.get? c=aa o)->Q ab { s with heap:=h' }):aP (aW P w) A (jJ (.ref z)) Q E s:=by
 rcases st with st|st
 .exact RE hh D U V st g7 q
 .have ty:s.TypeIs (.ref z) "zip":=by
   obtain⟨⟨T,c,gz,_⟩,_⟩:=st;exact⟨_,gz,rfl⟩
  unfold jJ;refine aI (tP (nZ ty tX (jR tX ty MP (Xe hh D U V st g7 λh' e kp ⟨o,g1,g2⟩=>?_) (MQ _))))
  exact aI (zO ⟨o,g1,g2⟩ LK (aZ (q _ kp)))
end
theorem Ss:vP (.type "zip") "keys" = pure ab:=by rw[LF,LN];kernel_rfl
section
variable {z TI TO:aC}{xs ys:Array aF}
theorem Bfu.keep{D:aC}(U:Sub P w i1 o1 S1 xs)(V:Sub P w i2 o2 S2 ys)(nz:D≠z)(nI:D≠TI)(n1:D∉o1)(n2:D∉o2)(st:ri D z TI TO i1 i2 S1 S2 k h)(kp:∀ c o,c≠D->h.get? c=aa o->h'.get? c=aa o):ri D z TI TO i1 i2 S1 S2 k h':=by
 obtain⟨⟨T,c,gz,⟨oT,gT⟩,T1,T2,T3,T4⟩,gI,jr,j4⟩:=st;exact⟨⟨T,c,kp _ _ nz.symm gz,⟨oT,kp _ _ T4 gT⟩,T1,T2,T3,T4⟩,kp _ _ nI.symm gI,U.keep _ _ _ jr λc hc o g=>kp _ _ (λe=>n1 (e ▸ hc)) g,V.keep _ _ _ j4 λc hc o g=>kp _ _ (λe=>n2 (e ▸ hc)) g⟩
theorem Yt(hh:A.handled=ab)(Z:ZApart z TI TO i1 i2 o1 o2)(U:Sub prog w i1 o1 S1 xs)(V:Sub prog w i2 o2 S2 ys)(D:aC)(nz:D≠z)(nI:D≠TI)(nO:D≠TO)(n1:D∉o1)(n2:D∉o2)(kvs:aab)(hn:kvs.length<=sizeLine)
  (g7:xs[kvs.length]?=ab\/ys[kvs.length]?=ab) (yr:∀ (j:Nat) p,kvs[j]?=aa p->∃ kv,xs[j]?=aa kv/\ys[j]?=aa p.2/\(fD prog w).is p.1 kv=af) :
  ∀ (k i:Nat) (s:aK),kvs.length-i=k->i<=kvs.length->Bfu D z TI TO i1 i2 S1 S2 i s.heap->s.heap.DictOf (fD prog w) D (jB [] (kvs.take i)) ->
   (∀ h' tk,(∀ c o,c≠D->c≠z->c≠TO->c≠i1->c≠i2->s.heap.get? c=aa o->h'.get? c=aa o)->h'.DictOf (fD prog w) D (jB [] kvs)->R (.ok (.ret .none)) { s with heap:=h',toks:=tk }) ->
   oR (aW prog w) A (.builtin "dict.update.loop" ⟨[.ref D,.ref z,jA (i:Int),.none],[]⟩) R s:=by
 have e1:D≠i1:=λe=>n1 (e ▸ U.mem)
 have e2:D≠i2:=λe=>n2 (e ▸ V.mem)
 intro k;induction k with
 |zero=>
  intro i s hk hi j3 hS hR;obtain rfl:i=kvs.length:=()
  refine tQ CT ?_;rw[AJ rD _];refine aI (Pn (by simp[hh]) Z U V j3 g7 λh' kp=>?_)
  refine aI (aZ (aZ (hR h' _ (λc o _ a b c' d g=>kp c o a b c' d g) ?_)))
  obtain⟨o,es,ep,ho,r⟩:=hS;rw[wA] at r;exact⟨o,es,ep,kp D o nz nO e1 e2 ho,r⟩
 |succ k ih=>
  intro i s hk hi j3 hS hR;have bu:i<kvs.length:=()
  obtain⟨p,hp⟩:∃ p,kvs[i]?=aa p:=⟨_,jU bu⟩;obtain⟨kv,hx,hy,ux⟩:=yr i p hp;have lD:D<s.heap.objs.size:=by
   obtain⟨o,es,ep,ho,r⟩:=hS;exact bX ho
  refine tQ CT ?_;rw[AJ rD _];refine aI (Oz Z U V j3 hx hy lD λh' T jh pr hT1 dL=>?_)
  have ou:h'.DictOf (fD prog w) D (jB [] (kvs.take i)):=by
   obtain⟨o,es,ep,ho,r⟩:=hS;exact⟨o,es,ep,dL D o nz nO e1 e2 ho,r⟩
  have mw:jB [] (kvs.take (i+1))=rL (jB [] (kvs.take i)) p.1 p.2:=by
   rw[tU,hp];simp[jB,EN]
  have au:(jB [] (kvs.take i)).length<=sizeLine:=by
   have:=JD (kvs.take i) [];rw[EK] at this;simp at this
   lia
  refine aI (kH (aI (wpAny_tryCatch ?_)));unfold Builtin.Dict.pairItems;have tb:(Shared.heap { s with heap:=h' }).IsTuple T #[kv,p.2]:=⟨_,pr,rfl,0,rfl⟩;refine aI (nW tb.typeIs ?_);refine aI (mZ pr rfl (aZ ?_));refine kH (wpAny_dictSet_pairs ux ou (λh2 d' sb=>?_) au)
  refine aZ ⟨zP rD _,?_⟩;have t8:∀ c o,c≠D->h'.get? c=aa o->h2.get? c=aa o:=λc o n g=>(sb.2 c n).trans g
  refine ih (i+1) _ () bu (.inr (Bfu.keep U V nz nI n1 n2 jh t8)) (by rw[mw];exact d') λh3 tk L5 S4=>?_
  exact hR h3 tk (λc o a b c' d e g=>L5 c o a b c' d e (t8 c o a (dL c o b c' d e g))) S4
theorem Ug:vP (.type "zip") "__getattr__" = pure ab:=by rw[LF,LN];kernel_rfl
theorem Td:entryFor table "zip.__getattribute__" = aa Builtin.«object.__getattribute__»:=
 entryFor_alias (id':="object.__getattribute__") (by kernel_rfl) (by rw[0]) (by rw[0]) (by kernel_rfl)
theorem Wk (a:aC)(fs:Array aF)(name:aD)(u:Tok)(C4:vP (.type "zip") name=pure ab)(uy:(["__module__","__name__","__qualname__","__doc__","__annotations__"]:aan).contains name=ag)(hsz:name.length+100<=sizeLine:=by size_fits) :
  Meets (Builtin.«object.__getattribute__» ⟨[.ref a,.str name u],[]⟩) (λA R s=>s.heap.get? a=aa { cls:=.type "zip",dict:=ab,data:=.fields fs,slots:=#[] }/\raisesAttr (.ref a) name A R s):=
 Meets.of_wp λprog w A R s hs=>by
  obtain⟨hp,g,d,tk,os⟩:=s;obtain⟨hx,hs⟩:=hs;have hT:(⟨hp,g,d,tk,os⟩:aK).TypeIs (.ref a) "zip":=⟨_,hx,rfl⟩;unfold Builtin.«object.__getattribute__»
  repeat (any_goals (first|assumption|wp_step))
  simp only[uy,qA,if_false]
  repeat (any_goals (first|assumption|wp_step))
  exact wpAny_raiseAttrError hs.1 hs.2 (attrMsg_fits (by rw[0]) hsz)
set_option maxHeartbeats 4000000 in
theorem Rv{fs:Array aF}{Q:aao->aK->Prop}(hx:s.heap.get? a=aa { cls:=.type "zip",dict:=ab,data:=.fields fs,slots:=#[] })(hA:A.handled=ab)
  (h:∀ h' tk,(∀ b o,s.heap.get? b=aa o->h'.get? b=aa o)->Q ab { s with heap:=h',toks:=tk }):aP (aW prog w) A (getAttr? (.ref a) "keys") Q E s:=by
 obtain⟨hp,g,d,tk,os⟩:=s;have hT:∀ l8,(⟨hp,g,d,l8,os⟩:aK).TypeIs (.ref a) "zip":=λ_=>⟨_,hx,rfl⟩
 have f1:=sub_AttributeError;have f3:=Da.lookup;have f4:=Da.bind (.ref a);have f5:=Ug;unfold getAttr? getAttrBy? getAttrBy
 repeat (any_goals (first|assumption|exact hT _|((with_reducible show aP _ _ (call (Value.builtin "zip.__getattribute__") _ _) _ _ _);refine call_meets Da (hT _) Td (F.args_zip_getattribute_2 _ _) (Wk a fs _ _ Ss (by rw[0])) ⟨hx,hA,λh' l8 e uw=>?_⟩)|wp_step))
 obtain⟨t',u',he⟩:=uw.there;unfold getattributeRaised
 repeat (any_goals (first|assumption|wp_step))
 exact h _ _ uw.keeps
theorem Rp{l1 l2:aC}(hh:A.handled=ab)(ap:ZApart z TI TO i1 i2 [i1,l1] [i2,l2])(L6:l1≠i1)(L7:l2≠i2)(st:k7 z TI TO i1 i2 (StB b1 i1 l1 xs) (StB b2 i2 l2 ys) .none 0 s.heap)
  (hn:kvs.length<=sizeLine) (g7:xs[kvs.length]?=ab\/ys[kvs.length]?=ab) (yr:∀ (j:Nat) p,kvs[j]?=aa p->∃ kv,xs[j]?=aa kv/\ys[j]?=aa p.2/\(fD prog w).is p.1 kv=af)
  (h:∀ h' tk,h'.DictOf (fD prog w) s.heap.objs.size (jB [] kvs)->(∀ b o,b≠z->b≠TO->b≠i1->b≠i2->s.heap.get? b=aa o->h'.get? b=aa o)->Q (.ref s.heap.objs.size) { s with heap:=h',toks:=tk }) :
  aP (aW prog w) A (call (.type "dict") [.ref z]) Q E s:=by
 have U:Sub prog w i1 [i1,l1] (StB b1 i1 l1 xs) xs:=qK b1 i1 l1 xs L6;have V:Sub prog w i2 [i2,l2] (StB b2 i2 l2 ys) ys:=qK b2 i2 l2 ys L7;refine callType_codes (Q₁:=λobj s₁=>obj=.ref s.heap.objs.size/\s₁={ s with heap:=s.heap.push { cls:=.type "dict",data:=.dict #[] } }) F.kt_called_dict (F.kt_typeCall_dict_1 _) F.entry_dict_init (kt_code_dict_new _ ⟨rfl,rfl⟩) ?_
 rintro obj s₁ ⟨rfl,rfl⟩;have dn:(s.heap.push { cls:=.type "dict",data:=.dict #[] }).DictOf (fD prog w) s.heap.objs.size []:=Heap.DictOf.new s.heap;refine⟨dn.typeIs,F.args_dict_init_2 _ _,?_⟩;unfold Builtin.«dict.__init__»;refine aI ?_;unfold Builtin.Dict.selfAndRest;refine aI (Bl dn.typeIs (aZ ?_));show aP _ _ (MU "dict.__init__" s.heap.objs.size (.ref z) [] .none) _ _ _;unfold MU;have pz:(s.heap.push { cls:=.type "dict",data:=.dict #[] }).get? z=aa _:=cF _ st.1;refine aI (nW ⟨_,pz,rfl⟩ ?_);rw[if_pos nofun]
 refine aI (Rv pz (by simp[hh]) λh1 tk k1=>?_)
 have dL:∀ b o,s.heap.get? b=aa o->h1.get? b=aa o:=λb o e=>k1 _ _ (cF _ e)
 have jr:k7 z TI TO i1 i2 (StB b1 i1 l1 xs) (StB b2 i2 l2 ys) .none 0 h1:=by
  obtain⟨g1,g2,⟨a,b,g3⟩,g4,g5⟩:=st;exact⟨dL _ _ g1,dL _ _ g2,⟨a,b,dL _ _ g3⟩,U.keep _ _ _ g4 λc _ o g=>dL _ _ g,V.keep _ _ _ g5 λc _ o g=>dL _ _ g⟩
 refine aI (rK (aI (Bj jr.1 (aZ ⟨zP rD _,?_⟩))));have d1:h1.DictOf (fD prog w) s.heap.objs.size []:=by
  obtain⟨o,es,ep,ho,r⟩:=dn;exact⟨o,es,ep,k1 _ _ ho,r⟩
 have ne:∀ {b:aC},(∃ o,s.heap.get? b=aa o)->s.heap.objs.size≠b:=λ⟨o,e⟩=>lQ (bX e)
 obtain⟨g1,g2,⟨a,b,g3⟩,g4,g5⟩:=st;have m1:=U.obj _ _ g4;have m2:=V.obj _ _ g5;refine Yt (by simp[hh]) ap U V s.heap.objs.size (ne ⟨_,g1⟩) (ne ⟨_,g2⟩) (ne ⟨_,g3⟩) (λq=>ne (m1 _ q) rfl) (λq=>ne (m2 _ q) rfl) kvs hn g7 yr (kvs.length-0) 0 _ rfl (fY _) (.inl jr) d1 λh' l8 kp S'=>⟨rfl,h h' l8 S' λb o n1 n2 n3 n4 e=>kp b o (fH (bX e)) n1 n2 n3 n4 (dL b o e)⟩
end
section
variable {a b:aS}{p:bH}
abbrev zw (xs:aag)(ks:aah):Prop:=gJ (λx k=>x=kV k) xs ks
def S9 (K:aM)(ta:TA):TE:=λσ H Q=>ta σ H λvs H1=>∃ a1 a2 b1 b2 xs ys ks,vs=[.ref a1,.ref a2]/\i6 b1 K H1 a1 xs/\i6 b2 K H1 a2 ys/\zw xs ks/\xs.length<=sizeLine/\∀ q n,H1 q=ab->Q (.ref q) (upd H1 q (.dK n (mO [] (ks.zip ys))))
theorem Iv {X:Cx}:∀ {xs:aag} {ks:aah} {ys:aag} {us vs:aal},zw xs ks->Vals xs us->Vals ys vs->∃ kvs:aab,KV (ks.zip ys) kvs/\(us[kvs.length]?=ab\/vs[kvs.length]?=ab)/\kvs.length<=xs.length/\∀ (j:Nat) p,kvs[j]?=aa p->∃ kv,us[j]?=aa kv/\vs[j]?=aa p.2/\(fD X.prog X.w).is p.1 kv=af:=by
 intro xs ks ys us vs h;induction h generalizing ys us vs with
 |nil=>
  intro r q;cases r;exact⟨[],.nil,.inl rfl,bS _,λj p e=>by simp at e⟩
 |@cons x k xs ks e t ih=>
  intro r q;cases r with
  |cons r rr=>
   cases q with
   |nil=>exact⟨[],.nil,.inr rfl,fY _,λj p e=>by simp at e⟩
   |@cons y v ys vs q qq=>
    obtain⟨kvs,h1,h2,h3,h4⟩:=ih rr qq;subst e;refine⟨(k,v)::kvs,.cons ⟨rfl,q⟩ h1,by simpa using h2,by simpa using h3,λj p e=>?_⟩
    cases j with
    |zero=>
     cases e;exact⟨_,rfl,rfl,lW r⟩
    |succ j=>exact h4 j p (by simpa using e)
theorem Vn(hc:X.calm=af)(g1:Gl X "dict")(m1:X.mg "dict" = ab)(g2:Gl X "zip")(m2:X.mg "zip" = ab)(ha:PA X [a,b] ta)
  (ja:bM [AD (.Name "zip" p2) [a,b] [] gx] X.env=[(ag,cA (AD (.Name "zip" p2) [a,b] [] gx) X.env)]:=by rfl) (gw:bM [a,b] X.env=[(ag,cA a X.env),(ag,cA b X.env)]:=by rfl) (v9:bM [b] X.env=[(ag,cA b X.env)]:=by rfl) :
  PE X (.Call (.Name "dict" p) [.Call (.Name "zip" p2) [a,b] [] gx] [] pos) (S9 X.K ta):=by
 rw[5];refine Call_ (pE I g1 m1 boot_dict (vX ?_ ja rfl));rw[ja];refine MR ?_;refine Call_ (pE I g2 m2 boot_zip (vX (bb (ha gx ac s σ H _ I h) λus s1 ⟨vs,H1,I1,r1,q1⟩=>?_) (by rw[gw,v9]) (by rw[v9];rfl)))
 obtain⟨a1,a2,b1,b2,xs,ys,ks,rfl,k1,k2,kk,hz,q⟩:=q1;cases r1 with
 |cons r rr=>
  cases rr with
  |cons r' rr=>
   cases rr;cases r;cases r';obtain⟨u1,v1,w1⟩:=I1.sqB k1;obtain⟨u2,v2,w2⟩:=I1.sqB k2;have mm:∀ {b:Bool} {l:aC} {us:Array aF},SqB b s1.heap l us->l<s1.heap.objs.size:=λ{b l us} w=>by
    cases b with
    |true=>obtain⟨o,e,_⟩:=w;exact bX e
    |false=>obtain⟨o,e,_⟩:=w;exact bX e
   refine SG w1 w2 λz TI TO i1 i2 h' y0 y1 y2 y3 y4 D kw all=>Dd ?_
   obtain⟨kvs,e1,e2,e3,e4⟩:=Iv kk v1 v2;refine Rp (kvs:=kvs) (I1.ok.hd hc) D (λe=>?_) (λe=>?_) kw () (by simpa using e2) (λj p e=>by simpa using e4 j p e) λh2 tk dd hk=>?_
   .exact mE _ (iF (mm w1) (e ▸ y3))
   .exact mE _ (iF (mm w2) (e ▸ y4))
   obtain⟨m,da⟩:=dd.dictAt;have lz:(mO [] (ks.zip ys)).length<=sizeLine:=by
    have l1:=CW (ks.zip ys) [];have l2:=oC e1;simp at l1 l2
    lia
   have le:s1.heap.objs.size<=h'.objs.size:=by
    rcases Nat.lt_or_ge z h'.objs.size with hl|hl
    .lia
    .exact absurd (bX kw.1) (Nat.not_lt.2 hl)
   have kp:∀ c o,s1.heap.get? c=aa o->h2.get? c=aa o:=λc o e=>by
    have lc:=bX e;exact hk c o (fH (iF lc y0)) (fH (iF lc y2)) (fH (iF lc y3)) (fH (iF lc y4)) (all c o e)
   exact⟨.ref h'.objs.size,_,I1.laid kp le (qL lz (beq_eq_false_iff_ne.2 (kY (fH (iF I1.big le)))) (e1.merge .nil) da),rfl,q _ m (I1.hok.fresh le)⟩
def rX:aae->Option aah
 |[]=>aa []
 |k::r=>(bO k).bind λk=>(rX r).bind λks=>aa (k::ks)
def sU:aae->aaf
 |[x,y]=>(mC x).bind λxs=>(mC y).bind λys=>(rX xs).bind λks=>if xs.length<=sizeLine then aa (.dict (gE (ks.zip ys) [])) else ab
 |_=>ab
theorem QW:∀ {ds:aae} {ks:aah} {xs:aag},rX ds=aa ks->Aap K H ds xs->zw xs ks
 |[],ks,xs,e,r=>by
  cases e;rw[Aal.1 r];exact .nil
 |d::ds,ks,xs,e,r=>by
  obtain⟨k,e1,e⟩:=ao (show((bO d).bind λk=>(rX ds).bind λks=>aa (k::ks))=aa ks from e)
  obtain⟨jy,e2,e⟩:=ao e;cases e;obtain⟨v,t,rfl,r1,r2⟩:=Aag.1 r;exact .cons (mX e1 r1) (QW e2 r2)
theorem RB:∀ {ks:aah} {es:aae} {ys:aag},Aap K H es ys->gJ (λ(p:aG×aA) (q:aG×V)=>p.1=q.1/\Abx K H p.2 q.2) (ks.zip es) (ks.zip ys)
 |[],_,_,_=>.nil
 |_::_,[],ys,r=>by
  rw[Aal.1 r];exact .nil
 |k::ks,e::es,ys,r=>by
  obtain⟨v,t,rfl,r1,r2⟩:=Aag.1 r;exact .cons ⟨rfl,r1⟩ (RB r2)
theorem QA(hc:X.calm=af)(g1:Gl X "dict")(m1:X.mg "dict" = ab)(g2:Gl X "zip")(m2:X.mg "zip" = ab)(ha:DA X [a,b] fa)
  (ja:bM [AD (.Name "zip" p2) [a,b] [] gx] X.env=[(ag,cA (AD (.Name "zip" p2) [a,b] [] gx) X.env)]:=by rfl) (gw:bM [a,b] X.env=[(ag,cA a X.env),(ag,cA b X.env)]:=by rfl) (v9:bM [b] X.env=[(ag,cA b X.env)]:=by rfl) :
  DF 1 X (.Call (.Name "dict" p) [.Call (.Name "zip" p2) [a,b] [] gx] [] pos) (aL sU fa):=PE.imp (Vn hc g1 m1 g2 m2 ha ja gw v9) λσ H Q gh=>by
 rw[2];obtain⟨as,e1,cm⟩:=ao ef;clear ef;unfold sU at cm;split at cm
 .obtain⟨xs,e2,cv⟩:=ao cm;obtain⟨ys,e3,gs⟩:=ao cv;obtain⟨ks,e4,l6⟩:=ao gs;obtain⟨hz,rfl⟩:=cX l6;refine⟨P,Y,_,hP,rs,e1,λvs H1 x1 r1=>?_⟩
  obtain⟨v,t,rfl,q1,q2⟩:=Aag.1 r1;obtain⟨v',rfl,q3⟩:=gQ q2;obtain⟨a1,b1,us,rfl,k1,w1⟩:=yO e2 q1;obtain⟨a2,b2,yb,rfl,k2,w2⟩:=yO e3 q3;exact⟨a1,a2,b1,b2,us,yb,ks,rfl,k1 _ Aau,k2 _ Aau,QW e4 w1,by rw[w1.length];exact hz,λl n hn=>(k.mono x1).dic (hP.ext x1) hn (IY (RB w2) (Abt.2 rfl))⟩
 .cases cm
end
def Eh:V->aag->Hp->VK->Prop:=λx vs H Q=>∃ d b ep wc kvs more,x=.ref d/\vs=[.ref b]/\H d=aa (.dK ep kvs)/\H b=aa (.dK wc more)/\d≠b/\kvs.length+more.length<=sizeLine/\∀ n,Q .non (upd H d (.dK n (mO kvs more)))
theorem Zl:so X "dict.update" Eh:=by
 intro ac s σ H x vs v us Q I rx rv h;obtain⟨d,b,ep,wc,kvs,more,rfl,rfl,e,e2,ne,l,q⟩:=h;cases rx;obtain⟨u,rfl,ru⟩:=rv.one;cases ru;obtain⟨z,hd,ws,cr,dd⟩:=uJ I.hok e;obtain⟨z2,f7,L8,uz,ph⟩:=uJ I.hok e2;have l1:=oC cr;have l2:=oC uz;refine DY b6 dd.typeIs PySem.F.entry_dict_update (PySem.F.args_dict_update_2 _ _) (meets_dict_update (fD X.prog X.w) d b ne f7) ⟨ws,L8,dd,ph,(),λh' j6 _ sb=>?_⟩
 have hl:(mO kvs more).length<=sizeLine:=by have:=CW more kvs;lia
 have he:∃ q,h'.get? d=aa q:=let ⟨q,_,_,hq,_⟩:=j6;⟨q,hq⟩;obtain⟨n,da⟩:=j6.dictAt;exact⟨.non,_,vB I (by rw[e];exact mD) sb he (qL hl hd (uz.merge cr) da),rfl,q n⟩
def nR:am->Option aaa
 |[]=>aa []
 |p::r=>(bO p.1).bind λk=>(nR r).bind λps=>aa ((k,p.2)::ps)
theorem Xj:∀ {es:am} {ps:aaa} {qs:bm},nR es=aa ps->Ab3 K H es qs->gJ (λ(p:aG×aA) (q:aG×V)=>p.1=q.1/\Abx K H p.2 q.2) ps qs:=by
 intro es;induction es with
 |nil=>
  intro ps qs e r;cases e;rw[Abt.1 r];exact .nil
 |cons p es ih=>
  intro ps qs e r;obtain⟨k,e1,e⟩:=ao (show((bO p.1).bind λk=>(nR es).bind λps=>aa ((k,p.2)::ps))=aa ps from e)
  obtain⟨L3,e2,e⟩:=ao e;cases e;obtain⟨p1,p2⟩:=p;obtain⟨k',v,t,rfl,r1,r2,r3⟩:=Abf.1 r;refine .cons ⟨?_,r2⟩ (ih e2 r3);have:=CQ e1;simp only at this r1;rw[r1] at this;cases k<;>cases k'<;>simp_all[kD]
def uB (i:Nat)(m:Md)(f:EF):SF:=λY=>(eV 0 m f Y).bind λd=>(dM i Y).bind λkds=>match d with
 |.dict es=>(nR es).bind λps=>if f6 es=af/\kds.length+es.length<=sizeLine then aa (.nx (Y.set i (aa (1,.dict (gE ps kds))))) else ab
 |_=>ab
theorem Sta.dic1_out{σ:St}{p b:aC}{o:HO}(S:Sta K H0 P0 B0 Y σ H fp)(e:Y[i]?=aa (aa (1,.dict ds)))(h:σ[i]?=aa (aa (.ref p)))(hb:L2.hid H (Hd P0 fp) b=aa o):p≠b:=by
 obtain⟨v,h1,h2⟩:=S.slot i 1 _ e;obtain⟨p',xs,Fs,rfl,hp,hF,h3⟩:=h2;have:p'=p:=by rw[h] at h1;cases h1;rfl
 subst this;intro z;subst z;exact(Abz.1 hb).1 (.inr ⟨i,by rw[hF];exact bT⟩)
theorem TJ (i:Nat)(m:Md)(he:DE X e f)(hN:Nm X i x:=by exact kN)(q5:Bm X (.Name x px) e [] "update" br ax:=by exact⟨rfl,rfl,rfl,rfl,rfl⟩)
  (jt:kI (.Call (.Attribute (.Name x px) "update" br) [e] [] ax) ab pos.line X.env=pure ag:=by rfl):DS X H0 P0 n0 (.Expr (.Call (.Attribute (.Name x px) "update" br) [e] [] ax) pos) (uB i m f):=
 PS.imp (qR (qJ LU b6 PySem.F.type_dict_update Zl (hN.pe) (gX (ev m he) kQ q5.s) q5) jt) λD σ H gh=>by
  rw[4];obtain⟨d,e1,cm⟩:=ao ef;obtain⟨kds,e2,cv⟩:=ao cm;clear ef cm;cases d with
  |dict es=>
   obtain⟨ps,e3,gs⟩:=ao (show((nR es).bind λps=>if f6 es=af/\kds.length+es.length<=sizeLine then aa (Out.nx (Y.set i (aa (1,.dict (gE ps kds))))) else ab)=aa o from cv)
   obtain⟨⟨hp,hl⟩,rfl⟩:=cX gs;obtain⟨p,ep,xs,h1,h2,_,_⟩:=S.dic1 (tH e2);refine⟨.ref p,h1,.inr (.inr (.inl ⟨rfl,.inl ⟨ep,xs,h2⟩⟩)),B0,Y,fp,_,S,e1,λv H2 gh=>?_⟩
   obtain⟨f9,S2,r2⟩:=gh;obtain⟨p2,wc,jz,q1,q2,q3,q4⟩:=S2.dic1 (tH e2);have:p2=p:=by rw[h1] at q1;cases q1;rfl
   subst this;obtain⟨b,kvs,rfl,hb,rr⟩:=(yE hp).1 r2.2;exact⟨p2,b,wc,kvs.1,jz,kvs.2,rfl,rfl,q2,(Abz.1 hb).2,S2.dic1_out (tH e2) q1 hb,by rw[q3.length,rr.length];exact hl,λn=>k _ _ f9 (q4 n _ _ (IY (Xj e3 rr) q3))⟩
  |_=>cases cv
def vh (z:aD)(f:EF):EF:=λY=>(f Y).bind λd=>match d with
 |.int i=>if i.natAbs.log2<1920/\(z++(toString i:aD)).length<=1000/\eY (.str (z++(toString i:aD)))=af then aa (.str (z++(toString i:aD))) else ab
 |_=>ab
theorem Zo (z:aD):Str.empty++z=z:=by
 show(⟨#[]++z.cps⟩:aD)=z;simp
theorem Lv{kc:Nat}(he:DE X e f)(hz:z.length<=1000)(hl:eY (.str z)=af)(hc:DE X (.Constant (.str z) kc p1) (eC (.str z))):DE X (.JoinedStr [.Constant (.str z) kc p1,.FormattedValue e (-1) ab p2] pos) (vh z f):=by
 rw[5];obtain⟨P,Y,d,hP,rs,ef,k⟩:=h;obtain⟨d1,e1,ef⟩:=ao ef;cases d1 with
 |int i=>
  obtain⟨⟨hd,hs,qx⟩,rfl⟩:=cX ef;refine JoinedStr_many (joinParts_cons (bb (hc ac s σ H (λx H'=>x=.str z/\Ext H H') I ⟨P,Y,_,hP,rs,rfl,eI λv H' x r=>⟨(Aba.1 r).1,x⟩⟩) λu s1 gh=>?_))
  obtain⟨x,H1,I1,rx,ex,x1⟩:=gh;subst ex;obtain⟨t,rfl⟩:=rx;have big:1000<=sizeLine:=by rw[pL];omega
  show(Str.empty++z).length<=sizeLine/\aP (aW X.prog X.w) X.A (joinParts (Str.empty++z) (cA (e.FormattedValue (-1) ab p2) X.env::evalEach [] X.env)) (EP X ac σ Q) X.xe s1;rw[Zo];refine⟨kK hz big,joinParts_cons (FormattedValue_plain (bb (he ac s1 σ H1 (λx H'=>x=.int i/\Ext H1 H') I1 ⟨P,Y,_,hP.ext x1,rs.ext (dD x1),e1,eI λv H' x r=>⟨Aak.1 r,x⟩⟩) λu s2 gh=>?_))⟩
  obtain⟨x,H2,I2,rx,ex,x2⟩:=gh;subst ex;obtain⟨t2,rfl⟩:=rx;refine formatField_int_small hd ?_;have hsz:=kK hs big;refine⟨hsz,joinParts_nil ?_ hsz⟩;exact⟨.str _,H2,(I2.tok _).tok _,⟨_,rfl⟩,(k.mono (x1.trans x2)).zero Ext.refl (Aba.2 ⟨rfl,qx⟩)⟩
 |_=>cases ef
section
variable {σ:St}
theorem own1 {B:Hp}{ds:aae}(h:Afg K B H 1 (.list ds) v F):∃ p xs,v=.ref p/\H p=aa (.lst xs)/\F=[p]/\Aap K B ds xs:=by
 obtain⟨p,xs,Fs,rfl,hp,hF,h3⟩:=h;obtain⟨r,hn⟩:=IJ h3;exact⟨p,xs,rfl,hp,by rw[hF,hn],r⟩
theorem HA {B:Hp}{ds:aae}{p:aC}(hp:H p=aa (.lst xs))(r:Aap K B ds xs):Afg K B H 1 (.list ds) (.ref p) [p]:=by
 obtain⟨q1,q2⟩:=CD r;exact⟨p,xs,_,rfl,hp,by rw[q2],q1⟩
theorem Dp {B:Hp}{a b:aae}(h:Afg K B H 2 (.tuple [.list a,.list b]) v F) :
  ∃ q p p' xs ys,v=.ref q/\B q=aa (.tup [.ref p,.ref p'])/\F=[p,p']/\H p=aa (.lst xs)/\H p'=aa (.lst ys)/\Aap K B a xs/\Aap K B b ys:=by
 rcases h with⟨h0,_⟩|⟨_,q,us,Fs,rfl,hq,rfl,h3⟩
 .cases h0
 .cases h3 with
  |cons h1 t=>
   cases t with
   |cons h2 t=>
    cases t with
    |nil=>
     obtain⟨p,xs,rfl,hp,rfl,r⟩:=own1 h1;obtain⟨p',ys,rfl,ip,rfl,r'⟩:=own1 h2;exact⟨q,p,p',xs,ys,rfl,hq,rfl,hp,ip,r,r'⟩
end
section
variable {B:Hp}{d0 d1:aA}{a:aae}
theorem NY (f:cB d=af):Afm K B H 1 d v F↔F=[]/\Abx K B d v:=by
 cases d with
 |list ds=>cases f
 |dict ds=>cases f
 |tuple ds=>
  constructor
  .rintro(⟨_,h1,h2⟩|⟨h,_⟩)
   .exact⟨h1,h2⟩
   .exact absurd rfl h
  .exact λh=>.inl ⟨rfl,h.1,h.2⟩
 |_=>exact Iff.rfl
theorem An {q p:aC}{v0 v1:V}(f0:cB d0=af)(f1:cB d1=af)(hq:B q=aa (.tup [v0,v1,.ref p]))(hp:H p=aa (.lst xs))(r0:Abx K B d0 v0)(r1:Abx K B d1 v1)(r:Aap K B a xs) :
  Afg K B H 2 (.tuple [d0,d1,.list a]) (.ref q) [p]:=
 .inr ⟨nofun,q,_,[[],[],[p]],rfl,hq,rfl,.cons ((NY f0).2 ⟨rfl,r0⟩) (.cons ((NY f1).2 ⟨rfl,r1⟩) (.cons (HA hp r) .nil))⟩
end
section
variable {e0 e1:aS}{f0 f1:EF}{qz:bH}
def zJ (m0:Md)(f0:EF)(m1:Md)(f1:EF)(i:Nat):SF:=λY=>(eV 0 m0 f0 Y).bind λd0=>(eV 0 m1 f1 Y).bind λd1=>(getL i Y).bind λa=>if (cB d0&&cB d1)=af then aa (.rt (.tuple [d0,d1,.list a])) else ab
theorem Av (m0 m1:Md)(i:Nat){x1}(h0:DE X e0 f0)(h1:DE X e1 f1)(hN:Nm X i x:=by exact kN)(pq:bM (e0::[e1,.Name x px]) X.env=(ag,cA e0 X.env)::bM [e1,.Name x px] X.env:=by rfl)(ja:bM (e1::[.Name x px]) X.env=(ag,cA e1 X.env)::bM [.Name x px] X.env:=by rfl) :
  DS X H0 P0 2 (.Return (aa (.Tuple [e0,e1,.Name x px] x1 j7)) pos) (zJ m0 f0 m1 f1 i):=
 PS.imp (uQ (GB (gX h0 (gX h1 (gX (hN.pe) kQ) ja) pq))) λD σ H gh=>by
  rw[4];obtain⟨d0,g0,ef⟩:=ao ef;obtain⟨d1,g1,ef⟩:=ao ef;obtain⟨a,g2,ef⟩:=ao ef;obtain⟨fl,rfl⟩:=cX ef;have fl:=iG.1 fl;refine sC S g0 fl.1 λv0 H1 x0 r0=>sC (S.grow x0) g1 fl.2 λv1 H2 x1 r1=>?_
  have S2:=(S.grow x0).grow x1;obtain⟨v,h1,r⟩:=S2.slot i 1 _ (oJ g2);obtain⟨p,xs,rfl,hp,hF,q1⟩:=own1 r;have mp:p∈fp i:=by rw[hF];exact bT
  refine⟨_,h1,by show 3<=sizeLine;rw[pL];omega,λq hq=>k _ _ ⟨[p],S2.ext.trans (Ext.new hq),by simp,λc m=>?_,?_⟩⟩
  .rw[fN.1 m];exact⟨(S2.own i _ mp).1,_,Ext.new hq _ _ hp⟩
  .have xb:Ext (L2.hid H2 (Hd P0 fp)) (L2.hid (upd H2 q (.tup [v0,v1,.ref p])) (de P0 [p])):=λc oo ec=>by
    obtain⟨nc,ec⟩:=Abz.1 ec;refine Abz.2 ⟨λz=>?_,Ext.new hq _ _ ec⟩
    rcases z with z|z
    .exact nc (.inl z)
    .rw[fN.1 z] at nc;exact nc (.inr ⟨i,mp⟩)
   refine An fl.1 fl.2 (Abz.2 ⟨λz=>?_,fT⟩) (Ext.new hq _ _ hp) ((r0.ext (dD x1)).ext xb) (r1.ext xb) (q1.ext xb)
   rcases z with z|z
   .exact(S2.hd.ext S2.ext).new hq z
   .rw[fN.1 z,hp] at hq;cases hq
def DP (m0:Md)(f0:EF)(m1:Md)(f1:EF)(m:Md)(f:EF):SF:=λY=>(eV 0 m0 f0 Y).bind λd0=>(eV 0 m1 f1 Y).bind λd1=>(eV 1 m f Y).bind λd=>match d with
 |.list a=>if (cB d0&&cB d1)=af then aa (.rt (.tuple [d0,d1,.list a])) else ab
 |_=>ab
theorem Mq (m0 m1 m:Md){x1}(h0:DE X e0 f0)(h1:DE X e1 f1)(he:DF 1 X e f)(pq:bM (e0::[e1,e]) X.env=(ag,cA e0 X.env)::bM [e1,e] X.env:=by rfl)(ja:bM (e1::[e]) X.env=(ag,cA e1 X.env)::bM [e] X.env:=by rfl)(gw:bM (e::[]) X.env=(ag,cA e X.env)::bM [] X.env:=by rfl) :
  DS X H0 P0 2 (.Return (aa (.Tuple [e0,e1,e] x1 j7)) pos) (DP m0 f0 m1 f1 m f):=
 PS.imp (uQ (GB (gX h0 (gX h1 (gX (ev m he) kQ gw) ja) pq))) λD σ H gh=>by
  rw[4];obtain⟨d0,g0,ef⟩:=ao ef;obtain⟨d1,g1,ef⟩:=ao ef;obtain⟨d,g2,ef⟩:=ao ef;cases d with
  |list a=>
   obtain⟨fl,rfl⟩:=cX ef;have fl:=iG.1 fl;refine sC S g0 fl.1 λv0 H1 x0 r0=>sC (S.grow x0) g1 fl.2 λv1 H2 x1 r1=>?_
   have S2:=(S.grow x0).grow x1;refine⟨L2.hid H2 (Hd P0 fp),Y,fp,_,⟨S2.len,S2.nd,S2.dj,S2.own,S2.ext,S2.hd,Ext.refl,S2.slot⟩,g2,λv H3 gh=>?_⟩
   obtain⟨sh,S3,r⟩:=gh;obtain⟨p,xs,rfl,hp,hF,q1⟩:=own1 r;have mp:p∈sh Y.length:=by rw[hF];exact bT
   refine⟨by show 3<=sizeLine;rw[pL];omega,λq hq=>k _ _ ⟨[p],S3.ext.trans (Ext.new hq),by simp,λc m=>?_,?_⟩⟩
   .rw[fN.1 m];exact⟨(S3.own _ _ mp).1,_,Ext.new hq _ _ hp⟩
   .have xb:Ext (L2.hid H3 (Hd P0 sh)) (L2.hid (upd H3 q (.tup [v0,v1,.ref p])) (de P0 [p])):=λc oo ec=>by
     obtain⟨nc,ec⟩:=Abz.1 ec;refine Abz.2 ⟨λz=>?_,Ext.new hq _ _ ec⟩
     rcases z with z|z
     .exact nc (.inl z)
     .rw[fN.1 z] at nc;exact nc (.inr ⟨_,mp⟩)
    refine An fl.1 fl.2 (Abz.2 ⟨λz=>?_,fT⟩) (Ext.new hq _ _ hp) (((r0.ext (dD x1)).ext S3.base).ext xb) ((r1.ext S3.base).ext xb) (q1.ext xb)
    rcases z with z|z
    .exact(S3.hd.ext S3.ext).new hq z
    .rw[fN.1 z,hp] at hq;cases hq
  |_=>cases ef
end
noncomputable def sq (x:aD)(XN:aan)(cap:lf):aan:=cap.map fun
 |none=>x
 |some j=>XN.getD j x
structure Sx (out:List (aD×jS))(XN:List aD):Prop
theorem YR{io bq:aS}{fi:AF}{g9:List aS}{sc:gY}{cap:lf}{out:wp}{XN:aan}(_:Sx out XN)(hi:DI X (.Name x px) bq fi)(ht:∀ cl C s₀ H₀ ex,rU (hV X (sq x XN cap) sc cl C s₀ H₀ ex) g9 (nh X.K t))(hb:∀ cl C s₀ H₀ ex,DE (hV X (sq x XN cap) sc cl C s₀ H₀ ex) io f)(h1:X.env.scope.names=out:=by rfl)(h2:X.N=XN:=by rfl)(hc:X.calm=af:=by rfl)
  (t7:HJ out XN (sq x XN cap) cap sc.names=af:=by rw[0]) (hk:sc.kind=.function:=by rfl) (nd:(sq x XN cap).Nodup:=by rw[0]) (h0:(sq x XN cap)[0]?=aa x:=by rfl) (hx:∀ cl C s₀ H₀ ex,(hV X (sq x XN cap) sc cl C s₀ H₀ ex).env.scope.names.lookup x=aa .local:=by intros;rfl) (hs:∀ x,rM bq X.env x=pure x:=by intro _;rfl) :
  DF 1 X (.ListComp io [⟨.Name x px,bq,g9,0⟩] sc pos) (du cap fi (gB 0) t f):=
 FO hc (rC h1 h2 t7 hk) qI hi (λcl C s₀ H₀ ex=>⟨vD nd h0 (.inl (hx cl C s₀ H₀ ex)) (.inr (hx cl C s₀ H₀ ex)),ht cl C s₀ H₀ ex,hb cl C s₀ H₀ ex⟩) hs
section
variable {k:aS}
end
section
variable {a b:aS}{qz:bH}
noncomputable def F4 (c:Int):aA->aaf
 |.tuple [.list a,.list b]=>if c=0 then aa (.list a) else if c=1 then aa (.list b) else ab
 |_=>ab
def Ek (c:Int)(f:EF):EF:=λY=>(f Y).bind (F4 c)
theorem Ng {c:Int}{jj}(h:DF 2 X e f)(hs:HG (.Constant (.int c) jj qz):=by exact λ_ _=>rfl):DF 1 X (.Subscript e (.Constant (.int c) jj qz) pos) (Ek c f):=
 PE.imp (NO ZG h ZT hs) λσ H Q gh=>by
  rw[2];obtain⟨d2,e1,ef⟩:=ao ef;unfold F4 at ef;split at ef
  .rename_i la lb;refine⟨P,Y,_,hP,rs,e1,λv H' Fr xx nd fr r=>?_⟩
   obtain⟨q,p,p',xs,ys,rfl,hq,rfl,hp,ip,r1,r2⟩:=Dp r;have C5:=(Abz.1 hq).2;by_cases c0:c=0
   .rw[if_pos c0] at ef;cases ef;subst c0;refine .inr (.inl ⟨q,_,0,.ref p,rfl,rfl,SqT.of C5,rfl,k _ _ [p] xx (by simp) (λz m=>fr z (by rw[fN.1 m];simp)) (HA hp (r1.ext (iP λz hz=>?_)))⟩)
    grind
   .rw[if_neg c0] at ef;obtain⟨c1,rfl⟩:=cX ef;subst c1;refine .inr (.inl ⟨q,_,1,.ref p',rfl,rfl,SqT.of C5,rfl,k _ _ [p'] xx (by simp) (λz m=>fr z (by rw[fN.1 m];simp)) (HA ip (r2.ext (iP λz hz=>?_)))⟩)
    grind
  .cases ef
end
section
variable {σ:St}
theorem Sta.change{cu:Nat->aaj}{d':aA}(S:Sta K H0 P0 B0 Y σ H fp)(hi:i<Y.length)(hv:σ[i]?=aa (aa v))
  (hf:∀ j,j≠i->j<Y.length->cu j=fp j) (hz:∀ j,Y.length<=j->cu j=[]\/cu j=fp j) (nd:(cu i).Nodup) (sub:∀ a∈cu i,∃ j,a∈fp j/\(j=i\/cu j=[]))
  (kp:∀ a,a∉fp i->H' a=H a) (ow:∀ a∈cu i,(∃ xs,H' a=aa (.lst xs))\/∃ q:DQ,H' a=aa (dO q))
  (new:Ext (L2.hid H (Hd P0 fp)) (L2.hid H' (Hd P0 cu))->Afg K (L2.hid H' (Hd P0 cu)) H' n d' v (cu i)):Sta K H0 P0 B0 (Y.set i (aa (n,d'))) σ H' cu:=by
 have same:∀ j,j≠i->∀ a∈cu j,a∈fp j:=λj hj a m=>by
  grind
 have from_:∀ j,∀ a∈cu j,∃ l,a∈fp l:=λj a m=>by
  grind
 have xb:Ext (L2.hid H (Hd P0 fp)) (L2.hid H' (Hd P0 cu)):=λb o e=>by
  obtain⟨nb,e⟩:=Abz.1 e;refine gD (λq=>nb ?_) ?_
  all_goals grind
 have jb:∀ j,j≠i->∀ a∈cu j,H' a=H a:=λj hj a m=>kp a λq=>hj (S.dj j i a (same j hj a m) q)
 refine⟨by simp[S.len],λj=>?_,λj l a h1 h2=>?_,λj a m=>?_,λb u e=>?_,S.hd,S.base.trans xb,λj n' d2 e=>?_⟩
 .by_cases h:j=i
  .rw[h];exact nd
  .by_cases h2:j<Y.length
   .rw[hf j h h2];exact S.nd j
   .rcases hz j () with e|e
    .rw[e];exact .nil
    .rw[e];exact S.nd j
 .by_cases e1:j=i<;>by_cases e2:l=i
  .rw[e1,e2]
  .subst e1;obtain⟨m,hm,C6⟩:=sub a h1;have:=S.dj m l a hm (same l e2 a h2)
   grind
  .subst e2;obtain⟨m,hm,C6⟩:=sub a h2;have:=S.dj m j a hm (same j e1 a h1)
   grind
  .exact S.dj j l a (same j e1 a h1) (same l e2 a h2)
 .obtain⟨l,ml⟩:=from_ j a m;refine⟨(S.own l a ml).1,?_⟩;by_cases h:j=i
  .subst h;exact ow a m
  .rw[jb j h a m];exact(S.own j a (same j h a m)).2
 .rw[kp b λq=>by rw[(S.own i b q).1] at e;cases e]
  exact S.ext b u e
 .by_cases q:j=i
  .grind
  .rw[mI (λz=>q z.symm)] at e
   obtain⟨v2,h1,h2⟩:=S.slot j n' d2 e;have hj:=(eW.1 e).1;refine⟨v2,h1,?_⟩;have:=jb j q;rw[hf j q hj] at this ⊢;exact h2.keep xb this
abbrev R1 (K:aM)(B H:Hp)(m:Nat:=1):aA×aA->aG×V->aaj->Prop:=λkd kv f=>kd.1=kD kv.1/\Afg K B H m kd.2 kv.2 f
def CM (c m:Nat):Prop:=(c=2/\m=1)\/(c=10/\m=9)
theorem Er {B:Hp}(hc:CM c m)(h:∃ p,∃ xs:Nat×bm,∃ Fs,v=.ref p/\H p=aa (.dK xs.1 xs.2)/\F=p::Fs.flatten/\All3 (R1 K B H m) ds xs.2 Fs):Afg K B H c (.dict ds) v F:=by
 obtain⟨p,xs,Fs,e,hp,hF,h3⟩:=h;rcases hc with⟨rfl,rfl⟩|⟨rfl,rfl⟩
 .exact⟨p,xs,Fs,e,hp,hF,h3⟩
 .exact fQ ⟨ds,p,Fs,xs,rfl,e,hp,hF,h3⟩
theorem Sta.dicC(hc:CM c m)(S:Sta K H0 P0 B0 Y σ H fp)(e:Y[i]?=aa (aa (c,.dict ds))):∃ p ep xs Fs,σ[i]?=aa (aa (.ref p))/\H p=aa (.dK ep xs)/\fp i=p::Fs.flatten/\All3 (R1 K (L2.hid H (Hd P0 fp)) H m) ds xs Fs:=by
 obtain⟨v,h1,h2⟩:=S.slot i c _ e;rcases hc with⟨rfl,rfl⟩|⟨rfl,rfl⟩
 .obtain⟨p,xs,Fs,rfl,hp,hF,h3⟩:=h2;exact⟨p,xs.1,xs.2,Fs,h1,hp,hF,h3⟩
 .rcases(show _\/Bhb _ _ _ _ _ _ from h2) with⟨z,_⟩|⟨k6,p,Fs,xs,z,rfl,hp,hF,h3⟩<;>cases z
  exact⟨p,xs.1,xs.2,Fs,h1,hp,hF,h3⟩
theorem Sta.dic2(S:Sta K H0 P0 B0 Y σ H fp)(e:Y[i]?=aa (aa (2,.dict ds))):∃ p ep xs Fs,σ[i]?=aa (aa (.ref p))/\H p=aa (.dK ep xs)/\fp i=p::Fs.flatten/\All3 (R1 K (L2.hid H (Hd P0 fp)) H) ds xs Fs:=S.dicC (.inl ⟨rfl,rfl⟩) e
def kM:am->aG->aA->am
 |[],_,_=>[]
 |(k0,d0)::r,k,d=>if bO k0=aa k then(k0,d)::r else(k0,d0)::kM r k d
theorem CP (k0 d0:aA)(r:am)(k:aG):bL ((k0,d0)::r) k=if bO k0=aa k then aa d0 else bL r k:=by
 unfold bL
 grind
theorem CG {B:Hp}{k:aG}:∀ {ds:am} {xs:bm} {Fs:wv},All3 (R1 K B H m) ds xs Fs->Fs.flatten.Nodup->∀ d,bL ds k=aa d ->
  ∃ v f,f∈Fs/\eX xs k=aa v/\Afg K B H m d v f/\∀ (B' H':Hp) (d':aA),Ext B B'->Afg K B' H' m d' v f->(∀ a,a∉f->H' a=H a)->All3 (R1 K B' H' m) (kM ds k d') xs Fs
 |_,_,_,.nil,_,d,e=>by simp[bL] at e
 |(k0,d0)::ds,(k',v0)::xs,f0::Fs,.cons h t,nd,d,e=>by
  obtain⟨ek,h⟩:=h;have ek:=ek;subst ek;rw[CP,Aa2] at e;rw[rP,rO] at nd;by_cases q:k'=k
  .rw[if_pos (by rw[q])] at e
   cases e;refine⟨v0,f0,bT,lM q,h,λB' H' d' xb r kp=>?_⟩
   show All3 _ (if bO (kD k')=aa k then(kD k',d')::ds else _) _ _
   rw[if_pos (by rw[Aa2,q])]
   refine .cons ⟨rfl,r⟩ (t.imp λa b c mm rr=>⟨rr.1,rr.2.keep xb λz hz=>kp z λz2=>?_⟩)
   exact nd.2.2 z z2 z (jT.2 ⟨c,mm,hz⟩) rfl
  .rw[if_neg (λz=>q (fM z))] at e
   obtain⟨v,f,mm,h1,h2,h3⟩:=CG t nd.2.1 d e;refine⟨v,f,cL _ mm,(kS q).trans h1,h2,λB' H' d' xb r kp=>?_⟩
   show All3 _ (if bO (kD k')=aa k then(kD k',d')::ds else(kD k',d0)::kM ds k d') _ _
   rw[if_neg (by rw[Aa2];exact λz=>q (fM z))]
   refine .cons ⟨rfl,h.keep xb λz hz=>kp z λz2=>?_⟩ (h3 B' H' d' xb r kp)
   exact nd.2.2 z hz z (jT.2 ⟨f,mm,z2⟩) rfl
theorem Sta.inner{k:aG}{es:aae}(S:Sta K H0 P0 B0 Y σ H fp)(e:Y[i]?=aa (aa (2,.dict ds)))(hk:bL ds k=aa (.list es)):∃ p ep xs q ys,σ[i]?=aa (aa (.ref p))/\H p=aa (.dK ep xs)/\eX xs k=aa (.ref q)/\H q=aa (.lst ys)/\Aap K (L2.hid H (Hd P0 fp)) es ys /\
  ∀ k5 ox,Aap K (L2.hid H (Hd P0 fp)) k5 ox->Sta K H0 P0 B0 (Y.set i (aa (2,.dict (kM ds k (.list k5))))) σ (upd H q (.lst ox)) fp:=by
 obtain⟨p,ep,xs,Fs,h1,h2,h3,h4⟩:=S.dic2 e;have nd:=S.nd i;rw[h3,gZ] at nd;obtain⟨v,f,mf,hv,hr,up⟩:=CG h4 nd.2 _ hk;obtain⟨q,ys,Gs,rfl,hq,hF,g3⟩:=hr;obtain⟨r,hn⟩:=IJ g3;rw[hn] at hF;refine⟨p,ep,xs,q,ys,h1,h2,hv,hq,r,λk5 ox r'=>?_⟩
 have mq:q∈fp i:=by
  rw[h3];exact cL _ (jT.2 ⟨f,mf,by rw[hF];exact bT⟩)
 have L9:p≠q:=λz=>nd.1 (jT.2 ⟨f,mf,by rw[hF,z];exact bT⟩)
 refine S.change (eW.1 e).1 h1 (λ_ _ _=>rfl) (λ_ _=>.inr rfl) (S.nd i) (λa m=>⟨i,m,.inl rfl⟩) (λa na=>dY λz=>na (z ▸ mq)) (λa m=>?_) λxb=>?_
 .by_cases z:a=q
  .subst z;exact .inl ⟨ox,fT⟩
  .rw[dY z];exact(S.own i a m).2
 .refine⟨p,(ep,xs),Fs,rfl,by rw[dY L9];exact h2,h3,up _ _ _ xb ?_ λa na=>dY λz=>na (by rw[hF,z];exact bT)⟩
  obtain⟨q1,q2⟩:=CD (r'.ext xb);exact⟨q,ox,_,rfl,fT,by rw[hF,q2],q1⟩
theorem TQ {B:Hp}{kd:aA×aA}{kv:aG×V}{f:aaj}(h:R1 K B H m kd kv f):∀ {ds:am} {xs:bm} {Fs:wv},All3 (R1 K B H m) ds xs Fs->All3 (R1 K B H m) (ds++[kd]) (xs++[kv]) (Fs++[f])
 |_,_,_,.nil=>.cons h .nil
 |_,_,_,.cons h' t=>.cons h' (TQ h t)
theorem JA {B:Hp}{k:aG}:∀ {ds:am} {xs:bm} {Fs:wv},All3 (R1 K B H m) ds xs Fs->bL ds k=ab->eX xs k=ab
 |_,_,_,.nil,_=>rfl
 |(k0,d0)::ds,(k',v0)::xs,f0::Fs,.cons h t,e=>by
  obtain⟨ek,h⟩:=h;have ek:=ek;subst ek;rw[CP,Aa2] at e;by_cases q:k'=k
  .rw[if_pos (by rw[q])] at e;cases e
  .rw[if_neg (λz=>q (fM z))] at e
   exact(kS q).trans (JA t e)
theorem BS {B:Hp}:∀ {ds:am} {xs:bm} {Fs:wv},All3 (R1 K B H m) ds xs Fs->xs.length=ds.length
 |_,_,_,.nil=>rfl
 |_,_,_,.cons _ t=>by rw[fZ,fZ,BS t]
theorem Sta.putG{xs:bm}{p:aC}{A C Fs:wv}(S:Sta K H0 P0 B0 Y σ H fp)(hi:i<Y.length)(h1:σ[i]?=aa (aa (.ref p)))(h3:fp i=p::Fs.flatten)(sub:∀ a,a∈(A++C).flatten->a∈Fs.flatten)(nf:(A++C).flatten.Nodup)(r:Afg K (L2.hid H (Hd P0 fp)) H m d v (fp Y.length))(hc:CM c m)
  (up:∀ B',Ext (L2.hid H (Hd P0 fp)) B'->Afg K B' (upd H p (.dK n xs)) m d v (fp Y.length)->(∀ g∈A++C,∀ a∈g,upd H p (.dK n xs) a=H a)->All3 (R1 K B' (upd H p (.dK n xs)) m) ds xs (A++fp Y.length::C)) :
  ∃ cu,Sta K H0 P0 B0 (Y.set i (aa (c,.dict ds))) σ (upd H p (.dK n xs)) cu:=by
 have nd:=S.nd i;rw[h3,gZ] at nd;have mp:p∈fp i:=by rw[h3];exact bT
 have nl:∀ a∈fp Y.length,a∉fp i:=λa m m2=>by
  have:=S.dj _ _ a m m2
  lia
 have mem:∀ a,a∈p::(A++fp Y.length::C).flatten↔a=p\/a∈(A++C).flatten\/a∈fp Y.length:=λa=>by
  grind
 refine⟨λj=>if j=i then p::(A++fp Y.length::C).flatten else if j=Y.length then [] else fp j,S.change hi h1 (λj a b=>?_) (λj a=>?_) ?_ (λa m=>?_) (λa na=>dY λz=>na (by rw[show a=p from z];exact mp)) (λa m=>?_) λxb=>?_⟩
 .grind
 .grind
 .simp only[if_true];rw[List.flatten_append] at nf;simp only[List.flatten_append,rP];have n1:=rO.1 nf;have pn:∀ a,a∈A.flatten\/a∈C.flatten->a≠p:=λa m z=>nd.1 (by
   rw[<-z];exact sub a (by simpa using m))
  refine gZ.2 ⟨λm=>?_,rO.2 ⟨n1.1,rO.2 ⟨S.nd _,n1.2.1,λa ha b hb z=>?_⟩,λa ha b hb z=>?_⟩⟩
  all_goals grind
 .grind
 .simp only[if_true] at m;by_cases z:a=p
  .subst z;exact .inr ⟨.inl (n,_),fT⟩
  .rw[dY z];rcases(mem a).1 m with m|m|m
   .exact absurd m z
   .exact(S.own i a (by rw[h3];exact cL _ (sub a m))).2
   .exact(S.own _ a m).2
 .simp only[if_true];refine Er hc ⟨p,(n,xs),A++fp Y.length::C,rfl,fT,rfl,up _ xb (Afg.keep xb (λa m=>dY λz=>nl a m (by rw[show a=p from z];exact mp)) r) λg mg a ma=>dY λz=>nd.1 ?_⟩
  have z:=z;rw[<-z];exact sub a (jT.2 ⟨g,mg,ma⟩)
theorem Sta.newKey{k:aG}(S:Sta K H0 P0 B0 Y σ H fp)(e:Y[i]?=aa (aa (c,.dict ds)))(hk:bL ds k=ab)(r:Afg K (L2.hid H (Hd P0 fp)) H m d v (fp Y.length))(hc:CM c m:=by exact .inl ⟨rfl,rfl⟩):∃ p ep xs,σ[i]?=aa (aa (.ref p))/\H p=aa (.dK ep xs)/\xs.length=ds.length /\
  ∀ n,∃ cu,Sta K H0 P0 B0 (Y.set i (aa (c,.dict (ds++[(kD k,d)])))) σ (upd H p (.dK n (putK xs k v))) cu:=by
 obtain⟨p,ep,xs,Fs,h1,h2,h3,h4⟩:=S.dicC hc e;have hi:=(eW.1 e).1;refine⟨p,ep,xs,h1,h2,BS h4,λn=>?_⟩
 have ni:putK xs k v=xs++[(k,v)]:=by
  unfold putK;rw[vE,JA h4 hk]
  rfl
 have nd:=S.nd i;rw[h3,gZ] at nd;rw[ni];exact S.putG (C:=[]) hi h1 h3 (λa m=>by simpa using m) (by simpa using nd.2) r hc λB' xb rk kp=>TQ ⟨rfl,rk⟩ (h4.imp λa b c' mm rr=>⟨rr.1,Afg.keep xb (kp c' (by simpa using mm)) rr.2⟩)
end
noncomputable def lB (i:Nat)(Y:aQ)(c:Nat:=2):Option am:=match Y[i]? with
 |some (aa (n,.dict ds))=>if n=c then aa ds else ab
 |_=>ab
theorem mY(h:lB i Y c=aa ds):Y[i]?=aa (aa (c,.dict ds)):=by
 unfold lB at h
 grind
section
variable {k:aS}
theorem Xa:DF 2 X (.Dict [] [] pos) (eC (.dict [])):=PE.imp RX λσ H Q gh=>by
 rw[2];cases ef;refine λq hq=>k (.ref q) _ [q] (Ext.new hq) (gZ.2 ⟨by simp,.nil⟩) (λa m=>?_) ⟨q,(0,[]),[],rfl,fT,rfl,.nil⟩
 have:a=q:=by simpa using m
 subst this;exact⟨hq,_,fT⟩
end
def HI:V->aag->Hp->VK->Prop:=λx vs H Q=>∃ d ep kvs k y,x=.ref d/\vs=[kV k,y]/\H d=aa (.dK ep kvs)/\kvs.length<sizeLine /\
 ((∃ u,eX kvs k=aa u/\Q u H)\/(eX kvs k=ab/\∀ n,Q y (upd H d (.dK n (putK kvs k y)))))
theorem Zg:so X "dict.setdefault" HI:=by
 intro ac s σ H x vs v us Q I rx rv h;obtain⟨d,ep,kvs,k,y,rfl,rfl,e,l,q⟩:=h;cases rx;cases rv with
 |cons rk rr=>
  cases rr with
  |cons ry rr=>
   cases rr;obtain⟨z,hd,ws,cr,dd⟩:=uJ I.hok e;refine DY b7 dd.typeIs PySem.F.entry_dict_setdefault (PySem.F.args_dict_setdefault_3 _ _ _) (kt_meets_setdefault (fD X.prog X.w) d (lW rk) hd _) ⟨ws,dd,by rw[<-cr.length];exact z,λw hw=>?_,λhn h' j6 sb=>?_⟩
   .have rl:=cr.val k;rcases q with⟨u,hu,q⟩|⟨hu,q⟩
    .rw[hu] at rl;obtain⟨w',e1,e2⟩:=rl.some_of;have e3:w'=w:=by rw[e1] at hw;exact fM hw
     subst e3;exact⟨u,H,I.tok _,e2,q⟩
    .rw[hu] at rl;have:=rl.none_of;rw[this] at hw;cases hw
   .have rl:=cr.val k;rcases q with⟨u,hu,q⟩|⟨hu,q⟩
    .rw[hu] at rl;obtain⟨w',e1,e2⟩:=rl.some_of;rw[e1] at hn;cases hn
    .have hl:(putK kvs k y).length<=sizeLine:=by have:=yT kvs k y;lia
     have he:∃ q,h'.get? d=aa q:=let ⟨q,_,_,hq,_⟩:=j6;⟨q,hq⟩;obtain⟨n,da⟩:=j6.dictAt;exact⟨y,_,vB I (by rw[e];exact mD) sb he (qL hl hd (cr.put k ry) da),ry,q n⟩
section
variable {σ:St}
theorem Sta.unset(S:Sta K H0 P0 B0 Y σ H fp)(j:Nat):Sta K H0 P0 B0 (Y.set j ab) (σ.set j (aa v)) H fp:=by
 refine⟨by simp[S.len],S.nd,S.dj,S.own,S.ext,S.hd,S.base,λk n d e=>?_⟩
 by_cases h:k=j
 .grind
 .rw[mI (λz=>h z.symm)] at e
  obtain⟨v',h1,h2⟩:=S.slot k n d e
  grind
def ng (kds:am)(k:aG):am:=match bL kds k with
 |some _=>kds
 |none=>kds++[(kD k,.list [])]
def AL (σ:St)(H:Hp)(i j:Nat)(k:aG):Prop:=∃ p ep xs q,σ[i]?=aa (aa (.ref p))/\H p=aa (.dK ep xs)/\eX xs k=aa (.ref q)/\σ[j]?=aa (aa (.ref q))
theorem AL.grow{k:aG}(h:AL σ H i j k)(x:Ext H H'):AL σ H' i j k:=by
 obtain⟨p,ep,xs,q,h1,h2,h3,h4⟩:=h;exact⟨p,ep,xs,q,h1,x _ _ h2,h3,h4⟩
theorem set_same {Y:aQ}{i:Nat}{x:Slot}(h:Y[i]?=aa x):Y.set i x=Y:=by
 apply Cs
 grind
theorem AL.inner{k:aG}{es:aae}(a:AL σ H i j k)(S:Sta K H0 P0 B0 Y σ H fp)(e:Y[i]?=aa (aa (2,.dict ds)))(hk:bL ds k=aa (.list es)):∃ q ys,σ[j]?=aa (aa (.ref q))/\H q=aa (.lst ys)/\Aap K (L2.hid H (Hd P0 fp)) es ys/\¬ P0 q /\
  ∀ k5 ox,Aap K (L2.hid H (Hd P0 fp)) k5 ox->Sta K H0 P0 B0 (Y.set i (aa (2,.dict (kM ds k (.list k5))))) σ (upd H q (.lst ox)) fp:=by
 obtain⟨p,ep,xs,q,h1,h2,h3,h4⟩:=a;obtain⟨p3,l7,nu,q3,M0,g1,g2,g3,g4,g5,g6⟩:=S.inner e hk;have ni:p3=p:=by rw[h1] at g1;cases g1;rfl
 subst ni;have ex:=g2.symm.trans h2;injection ex with ex;injection ex with ex1 ex2;subst ex2;have M1:q3=q:=by
  grind
 subst M1;refine⟨q3,M0,h4,g4,g5,?_,g6⟩;obtain⟨p',ni,ju,Fs,a1,a2,a3,a4⟩:=S.dic2 e;have nd:=S.nd i;rw[a3,gZ] at nd;obtain⟨v,f,mf,hv,hr,_⟩:=CG a4 nd.2 _ hk;obtain⟨q0,ys0,Gs,rfl,hq,hF,_⟩:=hr;have e1:p'=p3:=by rw[g1] at a1;cases a1;rfl
 subst e1;have vo:=a2.symm.trans g2;injection vo with vo;injection vo with _ ex2';subst ex2';have:q0=q3:=by
  grind
 subst this;exact S.np (by rw[a3];exact cL _ (jT.2 ⟨f,mf,by rw[hF];exact bT⟩))
end
theorem Wq{σ:St}{mk:Md}{kd:aA}{key:aG}{es:aae}{D:Ends}{cont:St->Hp->Prop}
  (S:Sta K H0 P0 B0 Y σ H fp) (e2:lB i Y=aa kds) (e3:eV 0 mk g Y=aa kd) (e4:bO kd=aa key) (hl:kds.length<sizeLine) (hj:j<Y.length) (gp:i≠j) (he:bL (ng kds key) key=aa (.list es))
  (kk:∀ v H1 nr,Sta K H0 P0 B0 ((Y.set i (aa (2,.dict (ng kds key)))).set j ab) (σ.set j (aa v)) H1 nr->AL (σ.set j (aa v)) H1 i j key->cont (σ.set j (aa v)) H1) :
  wR (vj K "dict" HI (tO i) (sF (tE K H0 P0 0 mk g) (sF (tE K H0 P0 1 .s (cD aH)) wO))) (wV j) { D with nx:=cont } σ H:=by
 obtain⟨p,ep,xs,Fs,h1,h2,_,_⟩:=S.dic2 (mY e2);refine⟨.ref p,h1,.inr (.inr (.inl ⟨rfl,.inl ⟨ep,xs,h2⟩⟩)),B0,Y,fp,kd,S,e3,λv1 H2 gh=>?_⟩
 obtain⟨f9,S2,r2⟩:=gh;have yt:=mX e4 r2.2;subst yt;refine⟨B0,Y,f9,.list [],S2,rfl,λv2 H3 gh=>?_⟩
 obtain⟨sh,S3,r3⟩:=gh;have C7:∀ (σ:St) (v:V),j<σ.length->(σ.set j (aa v))[j]?=aa (aa v):=λσ v h=>oE h
 have lσ:j<σ.length:=by rw[S.len];exact hj
 cases jd:bL kds key with
 |none=>
  have yu:ng kds key=kds++[(kD key,.list [])]:=by unfold ng;rw[jd]
  obtain⟨p3,l7,nu,q1,q2,q3,q4⟩:=S3.newKey (mY e2) jd r3;have:p3=p:=by rw[h1] at q1;cases q1;rfl
  subst this;obtain⟨p4,M3,u0,M4,a1,a2,a3,a4⟩:=S3.dic2 (mY e2);have e1:p4=p3:=by rw[q1] at a1;cases a1;rfl
  subst e1;have ex:=a2.symm.trans q2;injection ex with ex;injection ex with _ ex;subst ex;have vn:=JA a4 jd;refine⟨p4,l7,u0,key,v2,rfl,rfl,q2,by rw[q3];exact hl,.inr ⟨vn,λn=>?_⟩⟩
  obtain⟨cu,S4⟩:=q4 n;rw[<-yu] at S4;obtain⟨q0,_,_,rfl,_⟩:=r3;have S5:=S4.unset (v:=.ref q0) j;refine kk _ _ cu S5 ⟨p4,n,putK u0 key (.ref q0),q0,?_,fT,?_,C7 σ _ lσ⟩
  .grind
  .rw[Wh,if_pos rfl]
 |some d=>
  have yu:ng kds key=kds:=by unfold ng;rw[jd]
  rw[yu] at he kk;obtain⟨p3,l7,nu,q,ys,g1,g2,g3,g4,_,_⟩:=S3.inner (mY e2) he;have:p3=p:=by rw[h1] at g1;cases g1;rfl
  subst this;obtain⟨p4,M3,u0,M4,a1,a2,a3,a4⟩:=S3.dic2 (mY e2);have e1:p4=p3:=by rw[g1] at a1;cases a1;rfl
  subst e1;have ex:=a2.symm.trans g2;injection ex with ex;injection ex with _ ex;subst ex;refine⟨p4,l7,u0,key,v2,rfl,rfl,g2,by rw[BS a4];exact hl,.inl ⟨.ref q,g3,?_⟩⟩
  have S5:=S3.unset (v:=.ref q) j;rw[set_same (mY e2)] at kk;refine kk _ _ sh S5 ⟨p4,l7,u0,q,?_,g2,g3,C7 σ _ lσ⟩
  grind
def DM (i j:Nat)(key:aG)(kds:am)(es:aae)(t:BF)(f:EF)(Y:aQ):Option Out:=(t (vA (Y.set j (aa (1,.list es))))).bind λb=>
 if b=af then(eV 0 .s f Y).bind λd=>if cB d=af/\es.length<sizeLine then aa (.nx (Y.set i (aa (2,.dict (kM kds key (.list (es++[d]))))))) else ab
 else aa (.nx Y)
theorem Mj{σ:St}{key:aG}{es:aae}{D:Ends}{o:Out}
  (S:Sta K H0 P0 B0 Y σ H fp) (a:AL σ H i j key) (e2:Y[i]?=aa (aa (2,.dict kds))) (hj:j<Y.length) (hk:bL kds key=aa (.list es)) (ef:DM i j key kds es t f Y=aa o) (kk:∀ Y' H' cu,o=.nx Y'->Sta K H0 P0 B0 Y' σ H' cu->D.nx σ H') :
  FJ (nh K t) (AM (FS (vj K "list" HL (tO j) (sF (tF K 0 f) wO))) wW) wW D σ H:=by
 obtain⟨b,e1,ef⟩:=ao ef;obtain⟨q,ys,g1,g2,g3,g4,_⟩:=a.inner S e2 hk;have rs:Amf K (hid H P0) (vA (Y.set j (aa (1,.list es)))) σ:=λk d e=>by
  obtain⟨n,e⟩:=ZY e;by_cases h:k=j
  .subst h;rw[oE hj] at e;cases e;exact⟨.ref q,g1,Abp.2 ⟨q,ys,rfl,SqL.of (gD g4 g2),g3.ext (iP λa p=>.inl p)⟩⟩
  .rw[mI (λz=>h z.symm)] at e
   obtain⟨v,h1,h2⟩:=S.slot k n d e;exact⟨v,h1,h2.share (iP λa p=>.inl p) λa m o e=>gD (S.np m) e⟩
 refine⟨P0,_,b,S.hd.ext S.ext,rs,e1,λH1 x1=>?_⟩
 have S1:=S.grow x1;have a1:=a.grow x1;cases b with
 |false=>
  cases ef;exact kk _ _ fp rfl S1
 |true=>
  obtain⟨d,e3,ef⟩:=ao (show((eV 0 .s f Y).bind λd=>if cB d=af/\es.length<sizeLine then aa (Out.nx (Y.set i (aa (2,.dict (kM kds key (.list (es++[d]))))))) else ab)=aa o from ef)
  obtain⟨⟨hf,hz⟩,rfl⟩:=cX ef;obtain⟨q1,M5,b1,b2,b3,b4,b5⟩:=a1.inner S1 e2 hk;refine⟨.ref q1,b1,.inl ⟨rfl,M5,SqL.of b2⟩,sC S1 e3 hf λv H2 x2 r2=>?_⟩
  have S2:=S1.grow x2;obtain⟨q2,M6,c1,c2,c3,c4,c5⟩:=(a1.grow x2).inner S2 e2 hk;have:q2=q1:=by rw[b1] at c1;cases c1;rfl
  subst this;exact⟨q2,M6,v,rfl,rfl,c2,by rw[c3.length];exact hz,kk _ _ fp rfl (c5 _ _ (c3.snoc r2))⟩
section
variable {l:Nat}{k e2 c:aS}{fm:EF}{p3 p5 lp ap cp we wf q8 u3:bH}
def FA (i j:Nat)(mk:Md)(g:EF)(t:BF)(f:EF):SF:=λY=>(lB i Y).bind λkds=>(eV 0 mk g Y).bind λkd=>(bO kd).bind λkey=>
 if kds.length<sizeLine/\j<Y.length then match bL (ng kds key) key with
  |some (.list es)=>DM i j key (ng kds key) es t f ((Y.set i (aa (2,.dict (ng kds key)))).set j ab)
  |_=>ab
 else ab
theorem Dr{s:Slot}(hi:i<Y.length)(gp:i≠j):((Y.set i s).set j ab)[i]?=aa s:=by
 rw[mI gp.symm,oE hi]
theorem Vk(h:lB i Y=aa kds):i<Y.length:=(eW.1 (mY h)).1
end
section
variable {σ:St}
def qF (kds:am):List (Option aG):=kds.map λkd=>bO kd.1
theorem SW {B:Hp}:∀ {ds:am} {xs:bm} {Fs:wv},All3 (R1 K B H m) ds xs Fs->qF ds=xs.map λkv=>aa kv.1
 |_,_,_,.nil=>rfl
 |(k0,d0)::ds,(k',v0)::xs,_,.cons h t=>by
  obtain⟨ek,_⟩:=h;have ek:=ek;subst ek;show bO (kD k')::qF ds=aa k'::xs.map λkv=>aa kv.1
  rw[Aa2,SW t]
theorem SN {k:aG}:∀ {xs:bm},k∉xs.map (·.1)->(xs.map λkv=>if kv.1=k then(kv.1,v) else kv)=xs
 |[],_=>rfl
 |x::xs,h=>by
  rw[dF,dJ] at h;rw[dF,if_neg (λe=>h (.inl e.symm)),SN λm=>h (.inr m)]
theorem UO {B:Hp}{k:aG}:∀ {ds:am} {xs:bm} {Fs:wv},All3 (R1 K B H m) ds xs Fs->(xs.map (·.1)).Nodup->∀ d,bL ds k=aa d ->
  ∃ A f C,Fs=A++f::C/\∀ (B' H':Hp) (d':aA) (v':V) (f':aaj),Ext B B'->Afg K B' H' m d' v' f'->(∀ g∈A++C,∀ a∈g,H' a=H a)->All3 (R1 K B' H' m) (kM ds k d') (xs.map λkv=>if kv.1=k then(kv.1,v') else kv) (A++f'::C)
 |_,_,_,.nil,_,d,e=>by simp[bL] at e
 |(k0,d0)::ds,(k',v0)::xs,f0::Fs,.cons h t,nd,d,e=>by
  obtain⟨ek,h⟩:=h;have ek:=ek;subst ek;rw[dF,gZ] at nd;rw[CP,Aa2] at e;by_cases q:k'=k
  .refine⟨[],f0,Fs,rfl,λB' H' d' v' f' xb r kp=>?_⟩
   show All3 _ (if bO (kD k')=aa k then(kD k',d')::ds else _) ((if k'=k then(k',v') else(k',v0))::xs.map λkv=>if kv.1=k then(kv.1,v') else kv) _
   rw[if_pos (by rw[Aa2,q]),if_pos q,SN (by rw[<-q];exact nd.1)]
   exact .cons ⟨rfl,r⟩ (t.imp λa b c mm rr=>⟨rr.1,rr.2.keep xb (kp c (by simpa using mm))⟩)
  .rw[if_neg (λz=>q (fM z))] at e
   obtain⟨A,f,C,rfl,up⟩:=UO t nd.2 d e;refine⟨f0::A,f,C,rfl,λB' H' d' v' f' xb r kp=>?_⟩
   show All3 _ (if bO (kD k')=aa k then(kD k',d')::ds else(kD k',d0)::kM ds k d') ((if k'=k then(k',v') else(k',v0))::xs.map λkv=>if kv.1=k then(kv.1,v') else kv) _
   rw[if_neg (by rw[Aa2];exact λz=>q (fM z)),if_neg q]
   exact .cons ⟨rfl,h.keep xb (kp f0 (by simp))⟩ (up B' H' d' v' f' xb r λg mm=>kp g (by rw[AA];exact cL _ mm))
theorem Sta.oldKey{k:aG}{d0:aA}(S:Sta K H0 P0 B0 Y σ H fp)(e:Y[i]?=aa (aa (c,.dict ds)))(nv:(qF ds).Nodup)(hk:bL ds k=aa d0)(r:Afg K (L2.hid H (Hd P0 fp)) H m d v (fp Y.length))(hc:CM c m:=by exact .inl ⟨rfl,rfl⟩):∃ p ep xs,σ[i]?=aa (aa (.ref p))/\H p=aa (.dK ep xs)/\xs.length=ds.length /\
  ∀ n,∃ cu,Sta K H0 P0 B0 (Y.set i (aa (c,.dict (kM ds k d)))) σ (upd H p (.dK n (putK xs k v))) cu:=by
 obtain⟨p,ep,xs,Fs,h1,h2,h3,h4⟩:=S.dicC hc e;have hi:=(eW.1 e).1;refine⟨p,ep,xs,h1,h2,BS h4,λn=>?_⟩
 have M7:(xs.map (·.1)).Nodup:=by
  rw[SW h4,show(xs.map λkv=>aa kv.1)=(xs.map (·.1)).map aa by rw[eN];rfl] at nv
  grind
 have nd:=S.nd i;rw[h3,gZ] at nd;obtain⟨v0,f0,_,M8,_⟩:=CG h4 nd.2 _ hk;have ni:putK xs k v=xs.map λkv=>if kv.1=k then(kv.1,v) else kv:=by
  unfold putK;rw[vE,M8]
  rfl
 obtain⟨A,f,C,eF,up⟩:=UO h4 M7 _ hk;have sub:∀ a,a∈(A++C).flatten->a∈Fs.flatten:=λa m=>by
  grind
 have nf:(A++C).flatten.Nodup:=by
  grind
 rw[ni];exact S.putG hi h1 h3 sub nf r hc λB' xb rk kp=>up B' _ d v _ xb rk kp
end
section
variable {k:aS}
def BH (i:Nat)(m:Md)(f:EF)(mk:Md)(g:EF)(c:Nat:=2)(n:Nat:=1):SF:=λY=>(eV n m f Y).bind λd=>(lB i Y c).bind λkds=>(eV 0 mk g Y).bind λk=>(bO k).bind λk=>if ((bL kds k).isSome=af/\(qF kds).Nodup)/\kds.length<sizeLine then aa (.nx (Y.set i (aa (c,.dict (kM kds k d))))) else ab
theorem a0(i:Nat)(m mk:Md)(hu:X.A.units+40<cLine)(he:DF n X e f)(hk:DE X k g)(hN:Nm X i x:=by exact kN)(hs:kI e (aa (.Subscript (.Name x px) k br)) pos.line X.env=pure ag:=by rfl)(hc:CM c n:=by first|exact .inl ⟨rfl,rfl⟩|exact .inr ⟨rfl,rfl⟩):DS X H0 P0 n0 (.Assign [.Subscript (.Name x px) k br] e pos) (BH i m f mk g c n):=
 PS.imp (HK hu (hN.pe) hk (ev (H0:=H0) (P0:=P0) m he) hs) λD σ H gh=>by
  obtain⟨B0,Y,fp,o,S,ef,kk⟩:=gh;obtain⟨d,e1,cm⟩:=ao ef;obtain⟨kds,e2,cv⟩:=ao cm;obtain⟨kd,e3,gs⟩:=ao cv;obtain⟨key,e4,l6⟩:=ao gs;obtain⟨⟨⟨hn,nv⟩,hl⟩,rfl⟩:=cX l6;obtain⟨d0,hn⟩:=pS.1 hn;clear ef cm cv gs;refine⟨B0,Y,fp,d,S,e1,λv H2 gh=>?_⟩
  obtain⟨f9,S2,r2⟩:=gh;obtain⟨p,ep,xs,h1,h2,_,_⟩:=S2.oldKey (mY e2) nv hn r2 hc;have hf:cB kd=af:=by rw[CQ e4];cases key<;>simp[kD,cB]
  refine⟨.ref p,h1,sC S2 e3 hf λu H3 x3 r3=>?_⟩
  have S3:=S2.grow x3;have r4:Afg X.K (hid H3 (Hd P0 f9)) H3 n d v (f9 Y.length):=r2.keep (dD x3) λa m=>by
   rcases(S2.own _ a m).2 with⟨xs,e⟩|⟨xs,e⟩
   all_goals grind
  obtain⟨p3,l7,nu,q1,q2,q3,q4⟩:=S3.oldKey (mY e2) nv hn r4 hc;have:p3=p:=by rw[h1] at q1;cases q1;rfl
  subst this;refine⟨p3,_,rfl,.inl ⟨l7,nu,key,q2,mX e4 r3,by rw[q3];exact hl,rfl⟩,λn'=>?_⟩
  obtain⟨cu,S4⟩:=q4 n';exact kk _ _ cu S4
end
def GH (K:aM)(G:aae->aaf):Sp:=λvs H Q _=>∃ P F0 a us d ds d',vs=.ref a::us/\Hid P H/\(∀ b∈F0,¬ P b)/\F0.Nodup/\Afm K (hid H (de P F0)) H 2 d (.ref a) F0/\Aap K (hid H (de P F0)) ds us/\G (d::ds)=aa d' /\
 ∀ H' F',Ext (hid H (· ∈ F0)) H'->F'.Nodup->(∀ b∈F',(b∈F0\/H b=ab)/\¬ P b)->Afg K (hid H' (de P F')) H' 2 d' (.ref a) F'->Q .non H'
section
variable {mg:aD->aao}{base:aY}
theorem NA{F0:aaj}{ds:aae}{us:aag}(hP:Hid P0 H)(u4:∀ b∈F0,¬ P0 b)(nv:F0.Nodup)(r0:Afm K (hid H (de P0 F0)) H 2 d v F0)(rr:Aap K (hid H (de P0 F0)) ds us)(n:Nat) :
  Sta K (hid H (· ∈ F0)) P0 (hid H (de P0 F0)) (aa (2,d)::(ds.map (λd=>aa (0,d))++oD n ab)) ((v::us).map aa++oD n ab) H (λi=>if i=0 then F0 else []):=by
 have C8:Hd P0 (λi=>if i=0 then F0 else [])=de P0 F0:=by
  funext a;simp only[Hd,de,eq_iff_iff];constructor
  .rintro(h|⟨i,h⟩)
   .exact .inl h
   .by_cases hi:i=0
    .rw[if_pos hi] at h;exact .inr h
    .rw[if_neg hi] at h;simp at h
  .rintro(h|h)
   .exact .inl h
   .exact .inr ⟨0,by rw[if_pos rfl];exact h⟩
 refine⟨by simp[rr.length],λi=>?_,λi j a h1 h2=>?_,λi a h=>?_,Aau,λa h=>?_,by rw[C8];exact Ext.refl,λi n' d' e=>?_⟩
 .by_cases hi:i=0
  .simp only[hi,if_true];exact nv
  .simp only[hi,if_false];exact .nil
 .by_cases hi:i=0
  .by_cases hj:j=0
   .rw[hi,hj]
   .simp only[hj,if_false] at h2;simp at h2
  .simp only[hi,if_false] at h1;simp at h1
 .by_cases hi:i=0
  .simp only[hi,if_true] at h;exact⟨by unfold hid;rw[if_pos h],r0.mut a h⟩
  .simp only[hi,if_false] at h;simp at h
 .have na:a∉F0:=λz=>u4 a z h
  rcases hP a h with⟨xs,e⟩|⟨q,e⟩
  .exact .inl ⟨xs,gD na e⟩
  .exact .inr ⟨q,gD na e⟩
 .rw[C8];cases i with
  |zero=>cases e;exact⟨_,rfl,r0⟩
  |succ i=>
   rw[d4] at e;by_cases hi:i<ds.length
   .rw[zY (by rw[fA];exact hi),eU] at e
    obtain⟨d2,e1,e2⟩:=iE.1 e;cases e2;obtain⟨v,e3,rv⟩:=rr.get e1;refine⟨v,?_,rfl,rv⟩;rw[dF,AA,d4,zY (by rw[fA,rr.length];exact hi),eU,e3]
    rfl
   .rw[Cp (by rw[fA];lia)] at e
    have:=jE e;simp at this
end
section
theorem Sta.lent{σ:St}{F':aaj}{d':aA}(S:Sta K H0 P0 B0 Y σ H fp)(hi:i<Y.length)(hv:σ[i]?=aa (aa v))(x:Ext (L2.hid H (· ∈ fp i)) H')(nd:F'.Nodup)(fr:∀ b∈F',(b∈fp i\/H b=ab)/\¬ (P0 b\/∃ l,l≠i/\b∈fp l))
  (r:Afg K (L2.hid H' (de (λb=>P0 b\/∃ l,l≠i/\b∈fp l) F')) H' n d' v F'):Sta K H0 P0 B0 (Y.set i (aa (n,d'))) σ H' (λl=>if l=i then F' else fp l):=by
 have C9:∀ l,l≠i->∀ a∈fp l,H' a=H a:=λl h a m=>by
  have na:a∉fp i:=λz=>h (S.dj l i a m z)
  rcases(S.own l a m).2 with⟨xs,e⟩|⟨xs,e⟩<;>rw[e,x _ _ (gD na e)]
 have eH:Hd P0 (λl=>if l=i then F' else fp l)=de (λb=>P0 b\/∃ l,l≠i/\b∈fp l) F':=by
  funext b;simp only[Hd,de,eq_iff_iff]
  grind
 have xb:Ext (L2.hid H (Hd P0 fp)) (L2.hid H' (Hd P0 λl=>if l=i then F' else fp l)):=λb o e=>by
  obtain⟨nb,e⟩:=Abz.1 e;rw[eH];refine gD (λq=>?_) (x _ _ (gD (λm=>nb (.inr ⟨i,m⟩)) e))
  rcases q with(q|⟨l,_,q⟩)|q
  .exact nb (.inl q)
  .exact nb (.inr ⟨l,q⟩)
  .rcases(fr b q).1 with m|m
   .exact nb (.inr ⟨i,m⟩)
   .rw[m] at e;cases e
 refine⟨by simp[S.len],λl=>?_,λl k a h1 h2=>?_,λl a m=>?_,λb u e=>x _ _ (gD (λm=>?_) (S.ext _ _ e)),S.hd,S.base.trans xb,λl n' d2 e=>?_⟩
 .by_cases h:l=i
  .simp only[h,if_true];exact nd
  .simp only[h,if_false];exact S.nd l
 .by_cases e1:l=i<;>by_cases e2:k=i
  .rw[e1,e2]
  .simp only[e1,if_true] at h1;simp only[e2,if_false] at h2;exact absurd (.inr ⟨k,e2,h2⟩) (fr a h1).2
  .simp only[e1,if_false] at h1;simp only[e2,if_true] at h2;exact absurd (.inr ⟨l,e1,h1⟩) (fr a h2).2
  .simp only[e1,if_false] at h1;simp only[e2,if_false] at h2;exact S.dj l k a h1 h2
 .by_cases h:l=i
  .simp only[h,if_true] at m;refine⟨?_,r.mut a m⟩;rcases(fr a m).1 with q|q
   .exact(S.own i a q).1
   .exact S.ext.none q
  .simp only[h,if_false] at m;rw[C9 l h a m];exact S.own l a m
 .rw[(S.own i b m).1] at e;cases e
 .by_cases h:l=i
  .subst h;rw[oE hi] at e;cases e;refine⟨v,hv,?_⟩;rw[eH];simp only[if_true];exact r
  .rw[mI (λz=>h z.symm)] at e
   obtain⟨v2,h1,h2⟩:=S.slot l n' d2 e;refine⟨v2,h1,?_⟩;simp only[h,if_false];exact h2.keep xb (C9 l h)
def wY (i:Nat)(G:aae->aaf)(fa:AF):SF:=λY=>(lB i Y).bind λkds=>(fa (vS Y)).bind λds=>(G (.dict kds::ds)).bind λd'=>aa (.nx (Y.set i (aa (2,d'))))
variable {G:aae->aaf}
theorem PC (i:Nat)(D:Def X.prog X.w X.K X.mg X.base x k ps (GH X.K G))(hr:Room k X.A)(hg:Gl X x)(ha:DA X (e::es) fa)(hN:Nm X i y:=by exact kN)(jq:(x==("__debug__" : aD))=ag:=by decide)(ja:bM (.Name y py::e::es) X.env=(ag,cA (.Name y py) X.env)::bM (e::es) X.env:=by rfl)
  (im:(iT ax (bM (e::es) X.env)).any (·.1)=ag:=by rfl) (jt:kI (.Call (.Name x px) (.Name y py::e::es) [] ax) ab pos.line X.env=pure ag:=by rfl) :
  DS X H0 P0 n0 (.Expr (.Call (.Name x px) (.Name y py::e::es) [] ax) pos) (wY i G fa):=
 PS.imp (qR (KO D hr hg (gX hN.pe ha ja) jq ja im) jt) λD σ H gh=>by
  obtain⟨B0,Y,fp,o,S,ef,kk⟩:=gh;obtain⟨kds,e1,ef⟩:=ao ef;obtain⟨ds,e2,ef⟩:=ao ef;obtain⟨d',e3,ef⟩:=ao ef;cases ef;have hk:=mY e1;have hi:=(eW.1 hk).1;obtain⟨v,hv1,_⟩:=S.slot i 2 _ hk;obtain⟨p,ep,xs,Fs,h1,_⟩:=S.dic2 hk;refine⟨.ref p,h1,Hd P0 fp,vS Y,ds,S.hid,S.viewS,e2,λvs H2 x2 r2=>?_⟩
  have S2:=S.grow x2;obtain⟨v,hv,rv⟩:=S2.slot i 2 _ hk;rw[h1] at hv;cases hv;have eP:de (λb=>P0 b\/∃ l,l≠i/\b∈fp l) (fp i)=Hd P0 fp:=by
   funext b;simp only[Hd,de,eq_iff_iff]
   grind
  refine⟨λb=>P0 b\/∃ l,l≠i/\b∈fp l,fp i,p,vs,.dict kds,ds,d',by rw[wG],λb h=>S2.hid b (h.imp id λ⟨l,_,h⟩=>⟨l,h⟩),λb m h=>?_,S.nd i,by rw[eP];exact rv,by rw[eP];exact r2,e3,λH' F' x3 nd fr r3=>kk _ _ _ (S2.lent hi h1 x3 nd fr r3)⟩
  rcases h with h|⟨l,nl,h⟩
  .exact S.np m h
  .exact nl (S.dj l i b h m)
end
def zH (i j l:Nat):aA->aQ->aar:=λd Y=>match d with
 |.tuple [a,b,c]=>(cg i a Y).bind λY'=>(cg j b Y').bind λY2=>cg l c Y2
 |_=>ab
theorem GW {l:Nat}{p3:bH}{k}(hc:X.calm=af)(hN:X.N.Nodup)(hi:X.N[i]?=aa x)(hj:X.N[j]?=aa y)(hl:X.N[l]?=aa z)(hx:jN X.env.scope x)(hy:jN X.env.scope y)(hz:jN X.env.scope z)
  (hf:Fn X x:=by exact jO) (uc:Fn X y:=by exact jO) (M9:Fn X z:=by exact jO)
  (hn:(gH [.Name x p1,.Name y p2,.Name z p3] X.env).length=3:=by rfl) (j3:(gH [.Name x p1,.Name y p2,.Name z p3] X.env).findIdx? (·.1)=ab:=by rfl)
  (h1:(gH [.Name x p1,.Name y p2,.Name z p3] X.env).map (·.2)=nB (.Name x p1) X.env::(gH [.Name y p2,.Name z p3] X.env).map (·.2):=by rfl) (h2:(gH [.Name y p2,.Name z p3] X.env).map (·.2)=nB (.Name y p2) X.env::(gH [.Name z p3] X.env).map (·.2):=by rfl)
  (h3:(gH [.Name z p3] X.env).map (·.2)=nB (.Name z p3) X.env::(gH [] X.env).map (·.2):=by rfl):DG X H0 P0 (.Tuple [.Name x p1,.Name y p2,.Name z p3] k pos) (zH i j l):=
 PG.imp (KS hc (tD (oI hN hi hx hf) (tD (oI hN hj hy uc) (tD (oI hN hl hz M9) GT h3) h2) h1) hn j3) λv σ H Q gh=>by
  obtain⟨B0,Y,fp,d,Y',S,r,ef,k⟩:=gh;unfold zH at ef;split at ef
  .rename_i a b c;obtain⟨Y1,e1,e2⟩:=ao ef;obtain⟨Y2,e2,e3⟩:=ao e2;obtain⟨l1,rfl⟩:=cX e1;obtain⟨l2,rfl⟩:=cX e2;obtain⟨l3,rfl⟩:=cX e3;obtain⟨p,xs,rfl,hp,rr⟩:=Aan.1 r;obtain⟨v1,t1,rfl,r1,rr⟩:=Aag.1 rr;obtain⟨v2,t2,rfl,r2,rr⟩:=Aag.1 rr;obtain⟨v3,t3,rfl,r3,rr⟩:=Aag.1 rr;obtain rfl:=Aal.1 rr;refine⟨p,_,rfl,SqT.of (Aau _ _ hp),rfl,v1,_,rfl,v2,_,rfl,v3,_,rfl,rfl,?_⟩;have Sb:=S.rebase Ext.refl;obtain⟨nr,S1⟩:=Sb.set0 r1 l1;obtain⟨f9,S2⟩:=S1.set0 (r2.ext S1.base) l2;obtain⟨sh,S3⟩:=S2.set0 (r3.ext S2.base) l3;exact k _ sh (S3.rebase (S.base.trans S3.base))
  .cases ef
section
variable {mg:aD->aao}{base:aY}
def z5 (K:aM)(n0:Nat)(F:aae->aaf):Sp:=λvs H Q _=>∃ P F1 d1 v1 ds us d,vs=v1::us/\Hid P H/\(∀ a∈F1,¬ P a)/\F1.Nodup/\Afm K (hid H (de P F1)) H 2 d1 v1 F1/\Aap K (hid H (de P F1)) ds us/\F (d1::ds)=aa d/\Res K P n0 d (hid H (· ∈ F1)) Q
def z6 (np n:Nat):aae->aar
 |d1::ds=>if ds.length+1=np then aa (aa (2,d1)::(ds.map (λd=>aa (0,d))++oD (n-np) ab)) else ab
 |_=>ab
def z3 (np n:Nat)(body:SF):aae->aaf:=λds=>(z6 np n ds).bind λY=>outD (body Y)
theorem Hz {qual:aD}{st:fU}{f:aC}{fd:lA}{N:aan}{np:Nat}{body:SF}(F:Fun K x qual st f fd)(S:FnScope N ps (dI st))(ud:ps.length=np)
  (hb:∀ (cc:aF) (A:cP) (outer:List fE) (s:aK) (H H0:Hp) (E:XK) (P0:aC->Prop),Room k (A.deeper (envOfC qual (dI st) s.heap.objs.size f cc))->jm (mL jw P w K mg base N qual (dI st) f cc A outer s H E).nox H0 P0 n0 (mW st) body) :
  FnOk P w K mg base jw (k+1) f fd ps (z5 K n0 (z3 np N.length body)):=by
 refine F.ok S (λvs H Q E h=>?_) (λcc A outer s H vs Q E hr h=>?_)
 .obtain⟨P,F1,d1,v1,ds,us,d,rfl,_,_,_,_,rr,ef,_⟩:=h;obtain⟨Y,e,_⟩:=ao ef;obtain⟨e,_⟩:=cX e;rw[ud,fZ,rr.length,e]
 .obtain⟨P0,F1,d1,v1,ds,us,d,rfl,hP,u4,nv,r0,rr,ef,k⟩:=h;refine⟨_,hb cc A outer s H (hid H (· ∈ F1)) E P0 hr,?_⟩;obtain⟨Y,e,ef⟩:=ao ef;obtain⟨el,rfl⟩:=cX e;have S0:=NA hP u4 nv r0 rr (N.length-np);rw[show N.length-np=N.length-(v1::us).length by rw[fZ,rr.length,el]] at S0 ef
  cases eb:body (aa (2,d1)::(ds.map (λd=>aa (0,d))++oD (N.length-(v1::us).length) ab)) with
  |none=>rw[eb] at ef;cases ef
  |some o=>
   rw[eb] at ef;refine⟨_,_,_,o,S0,eb,?_⟩;cases o with
   |rt d'=>
    cases ef;exact λv H' ⟨Fr,h1,h2,h3,h4⟩=>k v H' Fr h1 h2 h3 h4
   |nx Y'=>
    cases ef;intro σ' H' cu S';refine k .non H' [] S'.ext .nil (λa m=>by simp at m) ?_
    cases n0 with
    |zero=>exact⟨rfl,Abw.2 rfl⟩
    |succ n=>
     unfold Afg;split
     .exact .inl ⟨rfl,rfl,rfl⟩
     .split
      .exact .inl ⟨rfl,rfl,rfl⟩
      .exact⟨rfl,Abw.2 rfl⟩
   |bk _=>cases ef
   |ct _=>cases ef
def z0 (np n j:Nat)(g:EF)(t:BF)(f:EF):aae->aaf:=λds=>(z6 np n ds).bind λY=>(FA 0 j .s g t f Y).bind λo=>match o with
 |.nx Y'=>(lB 0 Y').map .dict
 |_=>ab
def FE (K:aM)(H0:Hp)(P0:aC->Prop)(j:Nat)(g:EF)(t:BF)(f:EF):TS:=AM (wR (vj K "dict" HI (tO 0) (sF (tE K H0 P0 0 .s g) (sF (tE K H0 P0 1 .s (cD aH)) wO))) (wV j)) (FJ (nh K t) (AM (FS (vj K "list" HL (tO j) (sF (tF K 0 f) wO))) wW) wW)
theorem Ir {qual:aD}{st:fU}{f:aC}{fd:lA}{N:aan}{np:Nat}{e:EF}(F:Fun K x qual st f fd)(S:FnScope N ps (dI st))(ud:ps.length=np)(hj:j≠0)
  (hb:∀ (cc:aF) (A:cP) (outer:List fE) (s:aK) (H H0:Hp) (E:XK) (P0:aC->Prop),Room k (A.deeper (envOfC qual (dI st) s.heap.objs.size f cc))->PSs (mL jw P w K mg base N qual (dI st) f cc A outer s H E).nox (mW st) (FE K H0 P0 j g t e)) :
  FnOk P w K mg base jw (k+1) f fd ps (GH K (z0 np N.length j g t e)):=by
 refine F.ok S (λvs H Q E h=>?_) (λcc A outer s H vs Q E hr h=>?_)
 .obtain⟨P,F0,a,us,d,ds,d',rfl,_,_,_,_,r,ef,_⟩:=h;obtain⟨Y,e,_⟩:=ao ef;obtain⟨e,_⟩:=cX e;rw[ud,fZ,r.length,e]
 .obtain⟨P0,F0,a,us,d,ds,d',rfl,hP,u4,nv,r0,rr,ef,kq⟩:=h;refine⟨_,hb cc A outer s H (hid H (· ∈ F0)) E P0 hr,?_⟩;obtain⟨Y,e,ef⟩:=ao ef;obtain⟨el,rfl⟩:=cX e;have S0:=NA hP u4 nv r0 rr (N.length-np);rw[show N.length-np=N.length-(V.ref a::us).length by rw[fZ,rr.length,el]] at S0 ef
  obtain⟨o,eo,ef⟩:=ao ef;obtain⟨kds,g1,eo⟩:=ao eo;obtain⟨kd,g2,eo⟩:=ao eo;obtain⟨key,g3,eo⟩:=ao eo;obtain⟨⟨hl,Db⟩,eo⟩:=OW eo;split at eo
  .rename_i es D0;refine Wq S0 g1 g2 g3 hl Db (kY hj) D0 λv H1 nr S1 a1=>?_
   refine Mj S1 a1 (Dr (Vk g1) (kY hj)) (by simpa using Db) D0 eo λY' H' cu e' S'=>?_
   subst e';obtain⟨M',g4,e4⟩:=iE.1 ef;subst e4;obtain⟨v',ev,rv⟩:=S'.slot 0 2 _ (mY g4);rw[mI hj] at ev;cases ev;refine kq H' (cu 0) S'.ext (S'.nd 0) (λb m=>⟨?_,S'.np m⟩) (Afg.keep (iP λb h=>?_) (λ_ _=>rfl) rv)
   .have:=(S'.own 0 b m).1;unfold hid at this;by_cases q:b∈F0
    .exact .inl q
    .rw[if_neg q] at this;exact .inr this
   .exact h.imp id λh=>⟨0,h⟩
  .cases eo
end
section
variable {k c:aS}{p5 lp ap cp we wf q8 u3:bH}
theorem Ke (hN:X.N.Nodup)(hj:X.N[j]?=aa y)(hy:jN X.env.scope y)(hk:DE X k g)(hc:DT X c t)(he:DE X e f)(hi:Nm X 0 x:=by exact kN)
  (No:wK X.env.scope y:=by first|exact eT rfl|exact fQ (eT rfl)|exact fQ (fQ rfl)) (f7:(y==("__debug__" : aD))=ag:=by decide) (yv:(y==("__classdict__" : aD))=ag:=by decide)
  (q5:Bm X (.Name x p2) k [.List [] lp] "setdefault" ap cp:=by exact⟨rfl,rfl,rfl,rfl,rfl⟩) (gw:bM (.List [] lp::[]) X.env=(ag,cA (.List [] lp) X.env)::bM [] X.env:=by rfl)
  (jt:kI (.Call (.Attribute (.Name x p2) "setdefault" ap) [k,.List [] lp] [] cp) (aa (.Name y p1)) pos.line X.env=pure ag:=by rfl) (hf:Fn X y:=by exact jO)
  (q6:Bm X (.Name y p5) e [] "append" we wf:=by exact⟨rfl,rfl,rfl,rfl,rfl⟩)
  (yw:kI (.Call (.Attribute (.Name y p5) "append" we) [e] [] wf) ab q8.line X.env=pure ag:=by rfl) :
  PSs X [.Assign [.Name y p1] (.Call (.Attribute (.Name x p2) "setdefault" ap) [k,.List [] lp] [] cp) pos,.If c [.Expr (.Call (.Attribute (.Name y p5) "append" we) [e] [] wf) q8] [] u3] (FE X.K H0 P0 j g t f):=
 yF (KI hN hj hy (qJ LU b7 PySem.F.type_dict_setdefault Zg (hi.pe) (gX (ev .s hk) (gX (ev .s (uO kC)) kQ gw) q5.s) q5) jt hf)
  (BR (OB hc (yF (qR (qJ EC By Bw CJ (ZP hj No f7 yv) (gX he kQ q6.s) q6) yw) GV) GV))
def DR (i:Nat)(F:aae->aaf)(fa:AF):SF:=λY=>(lB i Y).bind λkds=>(fa (vS Y)).bind λds=>(F (.dict kds::ds)).bind λd=>aa (.rt d)
variable {q:Nat}{F:aae->aaf}
theorem Uq (i:Nat)(D:Def X.prog X.w X.K X.mg X.base x q ps (z5 X.K n0 F))(hr:Room q X.A)(hg:Gl X x)(ha:DA X (e::es) fa)(hN:Nm X i y:=by exact kN)(jq:(x==("__debug__" : aD))=ag:=by decide)(ja:bM (.Name y py::e::es) X.env=(ag,cA (.Name y py) X.env)::bM (e::es) X.env:=by rfl)
  (im:(iT ax (bM (e::es) X.env)).any (·.1)=ag:=by rfl):DS X H0 P0 n0 (.Return (aa (.Call (.Name x px) (.Name y py::e::es) [] ax)) pos) (DR i F fa):=
 PS.imp (uQ (KO D hr hg (gX hN.pe ha ja) jq ja im)) λD σ H gh=>by
  obtain⟨B0,Y,fp,o,S,ef,kk⟩:=gh;obtain⟨kds,e1,ef⟩:=ao ef;obtain⟨ds,e2,ef⟩:=ao ef;obtain⟨d',e3,ef⟩:=ao ef;cases ef;have hk:=mY e1;obtain⟨p,ep,xs,Fs,h1,_⟩:=S.dic2 hk;refine⟨.ref p,h1,Hd P0 fp,vS Y,ds,S.hid,S.viewS,e2,λvs H2 x2 r2=>?_⟩
  have S2:=S.grow x2;obtain⟨v,hv,rv⟩:=S2.slot i 2 _ hk;rw[h1] at hv;cases hv;have eP:de (λb=>P0 b\/∃ l,l≠i/\b∈fp l) (fp i)=Hd P0 fp:=by
   funext b;simp only[Hd,de,eq_iff_iff]
   grind
  have x0:Ext H0 (L2.hid H2 (· ∈ fp i)):=λb u e=>gD (λm=>by rw[(S.own i b m).1] at e;cases e) (S2.ext _ _ e)
  refine⟨λb=>P0 b\/∃ l,l≠i/\b∈fp l,fp i,.dict kds,.ref p,ds,vs,d',by rw[wG],λb h=>S2.hid b (h.imp id λ⟨l,_,h⟩=>⟨l,h⟩),λb m h=>?_,S.nd i,by rw[eP];exact rv,by rw[eP];exact r2,e3,λv H' Fr x3 nd fr r3=>kk _ _ ⟨Fr,x0.trans x3,nd,λa m=>⟨x0.none (fr a m).1,(fr a m).2⟩,r3.keep (iP λb h=>h.imp .inl id) λ_ _=>rfl⟩⟩
  rcases h with h|⟨l,nl,h⟩
  .exact S.np m h
  .exact nl (S.dj l i b h m)
end
def uA (kvs:bm)(k:aG):bm:=kvs.filter λkv=>decide (kv.1≠k)
theorem KV.out (k:aG):∀ {kvs:bm} {vs:aab},KV kvs vs->KV (uA kvs k) (without vs k)
 |_,_,.nil=>.nil
 |p::_,q::_,.cons h t=>by
  have e:=h.1;unfold uA without;rw[wF,wF];by_cases c:p.1=k
  .rw[if_neg (by simp[c]),if_neg (by rw[<-e];simp[c])]
   exact KV.out k t
  .rw[if_pos (by simp[c]),if_pos (by rw[<-e];simp[c])]
   exact .cons h (KV.out k t)
def Gc:V->aag->Hp->VK->Prop:=λx vs H Q=>∃ d ep kvs k u,x=.ref d/\vs=[kV k]/\H d=aa (.dK ep kvs)/\eX kvs k=aa u/\∀ n,Q u (upd H d (.dK n (uA kvs k)))
theorem Kx:so X "dict.pop" Gc:=by
 intro ac s σ H x vs v us Q I rx rv h;obtain⟨d,ep,kvs,k,u,rfl,rfl,e,hu,q⟩:=h;cases rx;cases rv with
 |@cons _ key _ _ rk rr=>
  cases rr;obtain⟨z,hd,ws,cr,dd⟩:=uJ I.hok e;have rl:=cr.val k;rw[hu] at rl;obtain⟨w',e1,e2⟩:=rl.some_of;have hp:(keyPart key).isSome=af:=by
   rcases oM (lW (P:=X.prog) (w:=X.w) rk) with⟨i,tk,_,e2⟩|⟨x,tk,_,e2⟩<;>rw[e2]<;>rfl
  refine DY PySem.F.slot_dict_pop dd.typeIs PySem.F.entry_dict_pop (PySem.F.args_dict_pop_2 _ _) (meets_dict_pop_there (fD X.prog X.w) d (lW rk) [] (.inl rfl) hp) ⟨ws,w',dd,by rw[<-cr.length];exact z,e1,λh' j6 sb=>?_⟩
  have he:∃ q,h'.get? d=aa q:=let ⟨q,_,_,hq,_⟩:=j6;⟨q,hq⟩;obtain⟨n,da⟩:=j6.dictAt;have hl:(uA kvs k).length<=sizeLine:=kK (zX _ _) z;exact⟨u,_,vB I (by rw[e];exact mD) sb he (qL hl hd (cr.out k) da),e2,q n⟩
section
variable {σ:St}
def rV (kds:am)(k:aG):am:=kds.filter λkd=>decide (bO kd.1≠aa k)
end
theorem GP{B:Hp}(k:aG):∀ {ds:am} {xs:bm},Ab3 K B ds xs->Ab3 K B (rV ds k) (uA xs k)
 |[],xs,h=>by
  cases Abt.1 h;exact Abt.2 rfl
 |(k0,d0)::ds,xs,h=>by
  obtain⟨k',x,r,rfl,rfl,hd,hr⟩:=Abf.1 h;unfold rV uA;rw[wF,wF];by_cases c:k'=k
  .rw[if_neg (by simp[Aa2,c]),if_neg (by simp[c])]
   exact GP k hr
  .rw[if_pos (by simp[Aa2,c]),if_pos (by simp[c])]
   exact Abf.2 ⟨_,_,_,rfl,rfl,hd,GP k hr⟩
section
variable {k:aS}
def BB (i:Nat)(mk:Md)(g:EF):SF:=λY=>(dM i Y).bind λkds=>(eV 0 mk g Y).bind λk=>(bO k).bind λk=>if (bL kds k).isSome=af then aa (.nx (Y.set i (aa (1,.dict (rV kds k))))) else ab
theorem Xp (i:Nat)(mk:Md)(hk:DE X k g)(hN:Nm X i x:=by exact kN)(q5:Bm X (.Name x px) k [] "pop" br ax:=by exact⟨rfl,rfl,rfl,rfl,rfl⟩)
  (jt:kI (.Call (.Attribute (.Name x px) "pop" br) [k] [] ax) ab pos.line X.env=pure ag:=by rfl):DS X H0 P0 n0 (.Expr (.Call (.Attribute (.Name x px) "pop" br) [k] [] ax) pos) (BB i mk g):=
 PS.imp (qR (qJ LU PySem.F.slot_dict_pop PySem.F.type_dict_pop Kx (hN.pe) (gX (ev mk hk) kQ q5.s) q5) jt) λD σ H gh=>by
  obtain⟨B0,Y,fp,o,S,ef,kk⟩:=gh;obtain⟨kds,e2,cv⟩:=ao ef;obtain⟨kd,e3,gs⟩:=ao cv;obtain⟨key,e4,l6⟩:=ao gs;obtain⟨hn,rfl⟩:=cX l6;obtain⟨p,ep,xs,h1,h2,_,_⟩:=S.dic1 (tH e2);refine⟨.ref p,h1,.inr (.inr (.inl ⟨rfl,.inl ⟨ep,xs,h2⟩⟩)),B0,Y,fp,kd,S,e3,λv1 H2 gh=>?_⟩
  obtain⟨f9,S2,r2⟩:=gh;have yt:=mX e4 r2.2;subst yt;obtain⟨p3,l7,nu,q1,q2,q3,q4⟩:=S2.dic1 (tH e2);have:p3=p:=by rw[h1] at q1;cases q1;rfl
  subst this;rcases yH (k:=key) q3 with⟨e,_⟩|⟨d,v,_,e,_⟩
  .rw[e] at hn;cases hn
  .exact⟨p3,l7,nu,key,v,rfl,rfl,q2,e,λn=>kk _ _ f9 (q4 n _ _ (GP key q3))⟩
end
theorem Xg{ss:List fU}:jm X H0 P0 n0 ss λ_=>ab:=λac st σ H D I q=>by
 obtain⟨B0,Y,fp,o,S,ef,k⟩:=q;cases ef
end L2
namespace Aw
open PySem L2
def fg (i:Nat):fU:=PySem.Challenge.pw_askwithin_k49_whole_chases_keep_answers.main.body.getD i (.Pass ⟨0,0,0,0⟩)
structure Blt (p:aD->Prop):Prop where
 «isinstance» : p "isinstance"
 «int» : p "int"
 «bool» : p "bool"
 «abs» : p "abs"
 «range» : p "range"
 «len» : p "len"
 «str» : p "str"
 «all» : p "all"
 «any» : p "any"
 «list» : p "list"
 «tuple» : p "tuple"
 «dict» : p "dict"
 «set» : p "set"
 «sorted» : p "sorted"
 «sum» : p "sum"
 «min» : p "min"
 «max» : p "max"
 «enumerate» : p "enumerate"
 «zip» : p "zip"
 «reversed» : p "reversed"
 «ValueError» : p "ValueError"
abbrev mU:aad:=[(.inr "clash",5),(.inr "same",5),(.inr "put",3)]
structure Gds (P:bW)(w:bG)(K:aM)(mg:aD->Option aF):Prop where
 PARTS:∃ a,mg "PARTS" = aa (.ref a)/\GD P w K a (qa mU)
def VO:SF:=(bB 0 .s (cZ (bz (cM "int") (aB 0)) (eD (bz (cM "bool") (aB 0)))))
def yM:aae->aaf:=az 1 1 VO
def SC:SF:=(bB 0 .s (aL cY (aE (du [ab,aa 1] (ay (aB 0)) (gB 0) cE (cR (aB 1) (aB 0) (aB 0))) aH)))
def CC:aae->aaf:=az 2 2 SC
def sW:aae->aaf:=FU
def QC:SF:=(bB 0 .s (aL cY (aE (du [ab,aa 0] (ay (aB 1)) (gB 0) cE (ah ai (aB 1) (aB 0))) aH)))
def qY:aae->aaf:=az 2 2 QC
def QH:SF:=(bB 1 .s (du [ab,ab,aa 1] (n8 (aE (ah ai (aB 0) (eC (.int 1))) aH)) (rm 0 1) (aj (ah bo (aB 1) (ah ai (ah ai (aB 2) (eC (.int 1))) (aB 0)))) (aB 0)))
def CB:aae->aaf:=az 2 2 QH
def SR:SF:=(bB 0 .s (dh (ck (aj (bz (cM "str") (aB 0))) (aj (bz (cM "str") (aB 1)))) (eC (.str "same")) (eC (.str "clash"))))
def IS:aae->aaf:=az 2 2 SR
def JX:SF:=(aN (aU 2 1 .s (aL xA (aE (du [ab] (ay (ah ai (aB 0) (eC (.int 0)))) (gB 0) cE (cK (aE (aB 0) (aE (eC (.bool af)) aH)))) aH)))
 (aN (dQ .s (ay (ah ai (aB 0) (eC (.int 1)))) (cg 3) (uB 2 .s (aL xA (aE (du [ab] (ay (ah ai (aB 3) (eC (.int 1)))) (gB 0) cE (cK (aE (aB 0) (aE (eC (.bool af)) aH)))) aH))))
 (cV 2 (aN (aU 4 1 .s (du [ab] (rn (aE (eC (.int 1)) (aE (ah bQ (ah bQ (aL bA (aE (aB 2) aH)) (aB 1)) (eC (.int 1))) aH))) (gB 0) cE (vh "n" (aB 0))))
 (cV 4 (bB 1 .s (nU (du [ab,aa 2] (ay (aB 4)) (gB 0) (aj (ah (fu af) (aB 0) (aB 1))) (aB 0)) oN (oS (aB 1)))))))))
def yW:aae->aaf:=az 2 5 JX
def UH:SF:=(aN (ba .s (aj (ah bo (ah ai (aB 2) (eC (.int 0))) (eC (.str "put")))) (bB 0 .s (eC (.bool ag))) bN)
 (aN (aU 4 0 .s (ah ai (ah ai (aB 3) (ah ai (aB 2) (eC (.int 1)))) (eC (.int 3))))
 (aN (aU 5 1 .s (du [ab,aa 4] (ay (ah ai (aB 0) (eC (.int 1)))) (gB 0) (aj (ah aw (ah ai (aB 0) (eC (.int 0))) (aB 1))) (aB 0)))
 (cV 5 (aN (aU 6 1 .s (du [ab] (ay (aB 1)) (gB 0) (aj (ah aw (ah ai (aB 0) (eC (.int 0))) (eC (.str "put")))) (aB 0)))
 (cV 6 (bB 0 .s (fj (ah dw (aL bA (aE (aB 5) aH)) (eC (.int 5))) (ah dw (aL bA (aE (aB 6) aH)) (eC (.int 16)))))))))))
def vG:aae->aaf:=az 4 7 UH
def XD:SF:=(aN (ba .s (aj (ah cy (aB 1) (aL bA (aE (aB 0) aH)))) (bB 0 .s (ah ai (aB 0) (aB 1))) bN)
 (aN (aU 2 0 .s (ah bQ (ah bQ (ah mM (ah mM (aB 1) (aB 1)) (eC (.int 7919))) (ah mM (eC (.int 11)) (aB 1))) (eC (.int 5))))
 (aN (ba .s (aj (ah cz (aL bA (aE (aB 0) aH)) (eC (.int 0)))) (aU 2 0 .s (ah bQ (aB 2) (ah mM (ah ai (aB 0) (ah bK (ah mM (aB 1) (eC (.int 7))) (aL bA (aE (aB 0) aH)))) (eC (.int 48271))))) bN)
 (bB 0 .s (ah bK (ah mM (aB 2) (aB 2)) (eC (.int 2147483629)))))))
def kU:aae->aaf:=az 2 3 XD
def XJ:SF:=(aN (aU 2 0 .s (eC (.str "abcdefghijklmnopqrstuvwxyz")))
 (aN (aU 3 0 .s (ah bQ (eC (.int 1)) (ah bK (aB 0) (eC (.int 12)))))
 (aN (aU 4 0 .s (ah bK (ah bZ (aB 0) (eC (.int 12))) (aB 3)))
 (aN (aU 5 0 .s (ah bK (ah bZ (aB 0) (eC (.int 144))) (eC (.int 26))))
 (aN (aU 6 1 .s (cD aH))
 (aN (dQ .s (i7 (aE (aB 1) aH)) (cg 7) (aN (aU 8 0 .s (eC (.str "")))
 (aN (dQ .s (i7 (aE (aB 3) aH)) (cg 9) (aN (aU 10 0 .s (ah bQ (ah cS (aB 9) (aB 9)) (ah cS (aL eQ (aE (ah aw (aB 9) (aB 4)) aH)) (ah bQ (aB 7) (eC (.int 1))))))
 (aU 8 0 .s (ah bQ (aB 8) (ah ai (aB 2) (ah bK (ah bQ (aB 5) (aB 10)) (eC (.int 26))))))))
 (dE 6 .s (aB 8)))))
 (dS 6 1)))))))
def CV:aae->aaf:=az 2 11 XJ
def WQ:SF:=(aN (aU 5 0 .s (ah ai (cD (aE (eC (.int 0)) (aE (eC (.int 0)) (aE (eC (.int 1)) (aE (eC (.int 0)) (aE (eC (.int 1)) (aE (eC (.int 2)) aH))))))) (ah bK (aB 0) (eC (.int 6)))))
 (aN (aU 6 1 .s (cD aH))
 (aN (dQ .s (i7 (aE (ah ai (aB 3) (aB 5)) aH)) (cg 7) (aN (aU 8 0 .s (ah bK (ah bQ (ah bQ (ah bZ (aB 0) (eC (.int 6))) (ah cS (aB 1) (eC (.int 40503)))) (ah cS (ah cS (aB 7) (aB 7)) (eC (.int 7)))) (eC (.int 2147483647))))
 (dE 6 .s (ah ai (aB 4) (ah bK (ah bZ (ah bK (ah cS (aB 8) (eC (.int 48271))) (eC (.int 2147483629))) (ah bQ (aB 7) (eC (.int 1)))) (aL bA (aE (aB 4) aH)))))))
 (cV 6 (bB 0 .s (cK (aE (ah ai (aB 2) (aB 5)) (aE (aL cY (aE (aB 6) aH)) aH))))))))
def JY:aae->aaf:=az 5 9 WQ
def XU:SF:=(aN (aU 3 1 .s (aL YV (aE (aB 2) aH)))
 (aN (aU 4 1 .s (cD aH))
 (aN (dQ .s (i7 (aE (aB 1) aH)) (cg 5) (aN (BL 4 3 .a (ah bK (aB 0) (aL bA (aE (aB 3) aH))))
 (aU 0 0 .s (ah bZ (aB 0) (eC (.int 4))))))
 (cV 4 (cV 3 (bB 0 .s (aL cY (aE (aB 4) aH))))))))
def yX:aae->aaf:=az 3 6 XU
def WO:SF:=(aN (aU 2 1 .s (cD aH))
 (aN (dQ .s (ay (aB 1)) (mN 3 4) (sN 2 .s (aB 4)))
 (cV 2 (aN (ba .s (aj (ah aw (aL bA (aE (aB 2) aH)) (eC (.int 0)))) (bB 0 .s (cK aH)) bN)
 (bB 0 .s (aL cY (aE (du [ab,aa 2,aa 0] (i7 (aE (ah bK (aB 0) (eC (.int 5))) aH)) (gB 0) cE (ah ai (aB 1) (ah bK (ah bZ (aB 2) (ah bQ (ah cS (aB 0) (aB 0)) (eC (.int 5)))) (aL bA (aE (aB 1) aH))))) aH)))))))
def JT:aae->aaf:=az 2 5 WO
def XC:SF:=(bB 0 .s (aL cY (aE (du [ab,aa 1] (ay (aB 0)) (gB 0) cE (cR (aB 1) (aB 0) (aB 0))) aH)))
def tL:aae->aaf:=az 2 2 XC
def TB:SF:=(bB 1 .s (du [ab,aa 0] (ay (aB 1)) (gB 0) cE (ah ai (aB 1) (aB 0))))
def oK:aae->aaf:=az 2 2 TB
def CU:EF:=(aB 1)
def yV:BF:=(cT (aj (ah (fu af) (aB 2) (aB 3))) (aj (ah cy (aL bA (aE (aB 3) aH)) (eC (.int 8)))))
def yU:EF:=(aB 2)
def CO:aae->aaf:=z0 3 4 3 CU yV yU
def VS:SF:=(aN (aU 3 1 .s (aL DC (aE (aB 2) aH)))
 (aN (dQ .s (iZ (aE (ah ai (aB 0) (eC (.int 1))) (aE (aB 1) aH))) (mN 4 5) (aN (ba .a (ck (aj (ah bo (cR (aB 3) (aB 4) (aB 5)) (aB 5))) (cT (cU (aj (bz (cM "str") (aB 4)))) (aj (ah bo (aB 4) (aB 5))))) (bB 1 .s (eC .none)) bN)
 (ba .s (aj (bz (cM "str") (aB 4))) (eB 3 .s (aB 5) .s (aB 4)) bN)))
 (dS 3 1)))
def JL:aae->aaf:=az 3 6 VS
def XW:SF:=(aN (dQ .s (ay (aB 0)) (zH 2 3 4) (ba .s (cT (aj (ah aw (ah ai (aB 3) (eC (.int 0))) (eC (.str "same")))) (aj (ah aw (aB 1) (ah ai (aB 4) (eC (.int 1)))))) (aU 1 0 .s (ah ai (aB 4) (eC (.int 0)))) bN))
 (bB 0 .s (aB 1)))
def zF:aae->aaf:=az 2 5 XW
def YI:SF:=(bB 0 .s (aL cY (aE (du [ab,aa 1] (ay (aB 0)) (gB 0) cE (cK (aE (ah ai (aB 0) (eC (.int 0))) (aE (aL CC (aE (ah ai (aB 0) (eC (.int 1))) (aE (aB 1) aH))) aH)))) aH)))
def YH:aae->aaf:=az 2 2 YI
def ZD:SF:=(aN (ba .s (ck (aj (ah bo (ah ai (aB 1) (eC (.int 0))) (ah ai (aB 0) (eC (.int 1))))) (aj (ah bo (ah ai (aB 2) (eC (.int 0))) (ah ai (aB 0) (eC (.int 1)))))) (bB 0 .s (eC (.bool ag))) bN)
 (bB 0 .s (ah aw (aL qY (aE (ah ai (aB 1) (eC (.int 1))) (aE (ah ai (aB 0) (eC (.int 2))) aH))) (aL qY (aE (ah ai (aB 2) (eC (.int 1))) (aE (ah ai (aB 0) (eC (.int 2))) aH))))))
def xQ:aae->aaf:=az 3 3 ZD
def TN:SF:=(bB 0 .s (cK (aE (aL IS (aE (ah ai (ah ai (ah ai (aB 0) (aB 2)) (eC (.int 1))) (aB 4)) (aE (ah ai (ah ai (ah ai (aB 0) (aB 3)) (eC (.int 1))) (aB 4)) aH))) (aE (aB 1) (aE (aB 2) (aE (aB 3) (aE (aB 4) aH)))))))
def CF:aae->aaf:=az 5 5 TN
def YJ:SF:=(aN (aU 3 0 .s (aL qY (aE (ah ai (aB 2) (eC (.int 1))) (aE (ah ai (aB 1) (eC (.int 2))) aH))))
 (bB 0 .s (aL FG (aE (du [ab,aa 3,aa 1] (ay (aB 0)) (gB 0) cE (cZ (ah aw (ah ai (aB 0) (eC (.int 0))) (ah ai (aB 2) (eC (.int 3)))) (ah aw (aL qY (aE (ah ai (aB 0) (eC (.int 1))) (aE (ah ai (aB 2) (eC (.int 4))) aH))) (aB 1)))) aH))))
def KG:aae->aaf:=az 3 4 YJ
def SU:SF:=(aN (ba .s (ck (cU (aj (bz (cM "tuple") (aB 0)))) (ck (aj (ah aw (aL bA (aE (aB 0) aH)) (eC (.int 0)))) (cU (aj (bz (cM "str") (ah ai (aB 0) (eC (.int 0)))))))) (bB 0 .s (eC (.bool ag))) bN)
 (aN (ba .s (ck (aj (ah (fu af) (ah ai (aB 0) (eC (.int 0))) (eC (.dict (jx mU))))) (aj (ah bo (aL bA (aE (aB 0) aH)) (ah ai (eC (.dict (jx mU))) (ah ai (aB 0) (eC (.int 0))))))) (bB 0 .s (eC (.bool ag))) bN)
 (bB 0 .s (aL AS (aE (du [ab] (ay (wQ (aB 0) (oS (eC (.int 1))) oN)) (gB 0) cE (cZ (aL yM (aE (aB 0) aH)) (ah dw (aB 0) (eC (.int 0))))) aH)))))
def CI:aae->aaf:=az 1 1 SU
def XO:SF:=(aN (aU 3 1 .s (aL sU (aE (ah ai (aB 1) (eC (.int 4))) (aE (aL qY (aE (ah ai (aB 2) (eC (.int 1))) (aE (ah ai (aB 1) (eC (.int 2))) aH))) aH))))
 (aN (aU 4 1 .a (du [ab,aa 3] (i7 (aE (ah ai (aB 1) (eC (.int 5))) aH)) (gB 0) (aj (ah (fu af) (aB 0) (aB 1))) (aB 0)))
 (cV 4 (aN (uB 3 .s (aL sU (aE (aB 4) (aE (aL yW (aE (aB 0) (aE (aL bA (aE (aB 4) aH)) aH))) aH))))
 (cV 3 (aN (aU 5 0 .s (cK (aE (ah ai (aB 1) (eC (.int 3))) (aE (aL cY (aE (du [ab,aa 3] (i7 (aE (ah ai (aB 1) (eC (.int 5))) aH)) (gB 0) cE (ah ai (aB 1) (aB 0))) aH)) aH))))
 (bB 0 .s (cK (aE (ah ai (aB 0) (eC (.int 0))) (aE (ah zK (ah ai (aB 0) (eC (.int 1))) (cK (aE (aB 5) aH))) aH))))))))))
def XM:aae->aaf:=az 3 6 XO
def WM:SF:=(aN (aU 2 0 .s (cD (aE (eC (.str "n1")) (aE (eC (.str "n2")) (aE (eC (.str "n3")) (aE (eC (.str "n4")) (aE (eC (.str "n5")) aH)))))))
 (aN (ba .s (aj (ah aw (ah bK (aB 0) (eC (.int 2))) (eC (.int 0)))) (aU 2 0 .s (aL CV (aE (ah bZ (aB 0) (eC (.int 2))) (aE (eC (.int 5)) aH)))) bN)
 (aN (aU 3 0 .s (ah bK (ah bZ (aB 1) (eC (.int 48))) (ah fC (eC (.int 10)) (eC (.int 60)))))
 (aN (aU 4 0 .s (cD (aE (eC (.int 0)) (aE (ah cS (aB 3) (ah dP (eC (.int 1)) (ah cS (ah bK (ah bZ (aB 1) (eC (.int 24))) (eC (.int 2))) (eC (.int 2))))) (aE (eC (.int 7)) aH)))))
 (bB 1 .s (ah pK (nU (aB 2) oN (oS (ah bQ (eC (.int 2)) (ah ai (cD (aE (eC (.int 0)) (aE (eC (.int 0)) (aE (eC (.int 1)) (aE (eC (.int 3)) aH))))) (ah bK (aB 1) (eC (.int 4))))))) (nU (aB 4) oN (oS (ah bK (ah bZ (aB 1) (eC (.int 4))) (eC (.int 4)))))))))))
def JN:aae->aaf:=az 2 5 WM
def WV:SF:=(aN (aU 4 0 .s (ah ai (cD (aE (eC (.int 0)) (aE (eC (.int 0)) (aE (eC (.int 1)) (aE (eC (.int 0)) (aE (eC (.int 1)) (aE (eC (.int 2)) aH))))))) (ah bK (aB 0) (eC (.int 6)))))
 (aN (aU 5 0 .s (ah bK (ah bZ (aB 0) (eC (.int 6))) (eC (.int 3))))
 (aN (aU 6 0 .s (ah ai (aB 3) (aB 4)))
 (aN (ba .s (aj (ah aw (ah bK (ah bZ (aB 0) (eC (.int 18))) (eC (.int 2))) (eC (.int 0)))) (aN (aU 7 0 .s (ah bQ (eC (.int 1)) (ah bK (aB 1) (aL AO (aE (eC (.int 1)) (aE (ah dP (aB 6) (eC (.int 1))) aH))))))
 (bB 0 .s (cK (aE (eC (.str "key")) (aE (ah ai (aB 2) (aB 4)) (aE (aL cY (aE (aL BJ (aE (aL yX (aE (ah bZ (aB 1) (eC (.int 4))) (aE (aB 7) (aE (aB 6) aH)))) aH)) aH)) aH)))))) bN)
 (aN (aU 7 0 .s (ah bQ (eC (.int 1)) (ah bK (ah bZ (aB 1) (ah bQ (eC (.int 1)) (ah cS (ah bK (ah bZ (aB 0) (eC (.int 36))) (eC (.int 2))) (eC (.int 3))))) (aL AQ (aE (aB 6) (aE (ah ai (aB 3) (aB 5)) aH))))))
 (aN (aU 8 0 .s (aL yX (aE (ah bZ (aB 1) (eC (.int 16))) (aE (aB 7) (aE (aB 6) aH)))))
 (aN (aU 9 0 .s (aL yX (aE (ah bZ (aB 1) (eC (.int 1024))) (aE (aB 7) (aE (ah ai (aB 3) (aB 5)) aH)))))
 (bB 0 .s (cK (aE (eC (.str "points")) (aE (ah ai (aB 2) (aB 4)) (aE (aB 8) (aE (ah ai (aB 2) (aB 5)) (aE (aB 9) (aE (ah ai (aB 3) (aB 5)) aH)))))))))))))))
def JQ:aae->aaf:=az 4 10 WV
def YC:SF:=(aN (aU 2 1 .s (eC (.dict [])))
 (aN (dQ .s (ay (aB 0)) (mN 3 4) (dQ .s (ay (aB 4)) (cg 5) (ba .a (cT (aj (bz (cM "str") (aB 5))) (aj (ah (fu af) (aB 5) (aB 2)))) (eB 2 .a (ah bK (ah bZ (ah bK (aB 1) (eC (.int 2147483647))) (ah bQ (aL bA (aE (aB 2) aH)) (eC (.int 1)))) (ah ai (cD (aE (eC (.int 3)) (aE (eC (.int 7)) (aE (eC (.int 1000)) aH)))) (ah bK (aB 1) (eC (.int 3))))) .s (aB 5)) bN)))
 (cV 2 (bB 1 .s (du [ab,ab,aa 2] (ay (aB 0)) (rm 0 1) cE (cK (aE (aB 0) (aE (aL tL (aE (aB 1) (aE (aB 2) aH))) aH))))))))
def KD:aae->aaf:=az 2 6 YC
def VH:SF:=(aN (aU 2 0 .s (aL wZ (aE (cR (aB 0) (ah ai (aB 1) (eC (.int 1))) (cD aH)) aH)))
 (aN (ba .s (aj (ah aw (ah ai (aB 1) (eC (.int 0))) (eC (.str "points")))) (aN (aU 3 1 .s (du [ab,aa 1] (ay (cR (aB 0) (ah ai (aB 1) (eC (.int 3))) (cD aH))) (gB 0) cE (aL oK (aE (aB 0) (aE (ah ai (aB 1) (eC (.int 4))) aH)))))
 (cV 3 (bB 1 .s (du [ab,aa 3,aa 1] (ay (aB 2)) (gB 0) (aj (ah (fu af) (aL oK (aE (aB 0) (aE (ah ai (aB 2) (eC (.int 2))) aH))) (aB 1))) (aB 0))))) bN)
 (aN (aU 4 1 .s (cD aH))
 (aN (aU 5 1 .s (cD aH))
 (aN (dQ .s (ay (aB 2)) (cg 6) (aN (ba .a (aj (ah (fu ag) (aL oK (aE (aB 6) (aE (ah ai (aB 1) (eC (.int 2))) aH))) (aB 5))) (dE 4 .s (aB 6)) bN)
 (dE 5 .s (aL oK (aE (aB 6) (aE (ah ai (aB 1) (eC (.int 2))) aH))))))
 (cV 5 (dS 4 1)))))))
def JE:aae->aaf:=az 2 7 VH
def WG:SF:=(aN (aU 3 0 .s (ah ai (ah ai (aB 1) (eC (.int 1))) (ah dP (aL bA (aE (ah ai (aB 1) (eC (.int 1))) aH)) (eC (.int 1)))))
 (aN (dQ .s (ay (cR (aB 0) (ah ai (aB 3) (eC (.int 0))) (cD aH))) (cg 4) (aN (aU 5 0 .s (aL JL (aE (aB 3) (aE (aB 4) (aE (aB 2) aH)))))
 (ba .s (aj (ah kP (aB 5) (eC .none))) (bB 0 .s (aB 5)) bN)))
 (bB 0 .s (eC .none))))
def VF:aae->aaf:=az 3 6 WG
def YD:SF:=(aN (dQ .s (ay (aB 1)) (mN 3 4) (ba .s (aj (ah (fu af) (aL tL (aE (aB 4) (aE (aB 2) aH))) (cR (aB 0) (aB 3) (cD aH)))) (bB 0 .s (eC (.bool ag))) bN))
 (bB 0 .s (eC (.bool af))))
def YA:aae->aaf:=az 3 5 YD
def XX:SF:=(aN (dQ .s (ay (ah ai (aB 0) (eC (.int 1)))) (mN 3 4) (ba .s (aj (ah (fu af) (cK (aE (aB 3) (aE (aL cY (aE (du [ab,aa 1] (ay (aB 4)) (gB 0) cE (aL zF (aE (aB 1) (aE (aB 0) aH)))) aH)) aH))) (ah ai (aB 2) (eC (.int 1))))) (bB 0 .s (eC (.bool ag))) bN))
 (bB 0 .s (ah aw (aL cY (aE (du [ab,aa 1] (ay (ah ai (aB 0) (eC (.int 0)))) (gB 0) cE (aL zF (aE (aB 1) (aE (aB 0) aH)))) aH)) (ah ai (aB 2) (eC (.int 0))))))
def XQ:aae->aaf:=az 3 5 XX
def XF:SF:=(aN (dQ .s (n8 (aE (aB 0) aH)) (mN 3 4) (dQ .s (rn (aE (ah bQ (aB 3) (eC (.int 1))) (aE (aL bA (aE (aB 0) aH)) aH))) (cg 5) (aN (aU 6 0 .s (dh (aj (aL xQ (aE (aB 2) (aE (aB 4) (aE (ah ai (aB 0) (aB 5)) aH))))) (aL CB (aE (aB 4) (aE (ah ai (aB 0) (aB 5)) aH))) (cD aH)))
 (ba .s (aj (ah cz (aL bA (aE (aB 6) aH)) (eC (.int 0)))) (bB 0 .s (aL CF (aE (aB 0) (aE (aB 1) (aE (aB 3) (aE (aB 5) (aE (ah ai (aB 6) (eC (.int 0))) aH))))))) bN))))
 (bB 0 .s (eC .none)))
def JZ:aae->aaf:=az 3 7 XF
def WT:SF:=(bB 0 .s (cZ (ah aw (ah ai (aB 1) (eC (.int 0))) (eC (.str "points"))) (cZ (ah aw (ah ai (aB 1) (eC (.int 1))) (ah ai (aB 2) (eC (.int 0)))) (eD (aL KG (aE (aB 0) (aE (aB 1) (aE (aB 2) aH))))))))
def yQ:aae->aaf:=az 3 3 WT
def YL:SF:=(aN (aU 3 0 .s (ah ai (aB 2) (eC (.int 2))))
 (aN (aU 4 0 .s (ah ai (aB 2) (eC (.int 3))))
 (aN (ba .s (ck (aj (ah bo (ah ai (aB 1) (eC (.int 0))) (eC (.str "key")))) (ck (cU (aj (xC cy cy (aB 3) (aB 4) (aL bA (aE (aB 0) aH))))) (cU (aj (aL xQ (aE (aB 1) (aE (ah ai (aB 0) (aB 3)) (aE (ah ai (aB 0) (aB 4)) aH)))))))) (bB 0 .s (eC (.bool ag))) bN)
 (bB 0 .s (cZ (ah (fu ag) (ah ai (aB 2) (eC (.int 4))) (aL CB (aE (ah ai (aB 0) (aB 3)) (aE (ah ai (aB 0) (aB 4)) aH)))) (ah aw (aB 2) (aL CF (aE (aB 0) (aE (ah ai (aB 2) (eC (.int 1))) (aE (aB 3) (aE (aB 4) (aE (ah ai (aB 2) (eC (.int 4))) aH))))))))))))
def YK:aae->aaf:=az 3 5 YL
def YE:SF:=(aN (aU 3 0 .s (dh (aj (bz (cM "str") (aB 2))) (rj (aB 2) (aB 1)) (rj (aB 1) (aB 2))))
 (bB 0 .s (cK (aE (aL CC (aE (ah ai (aB 0) (eC (.int 0))) (aE (aB 3) aH))) (aE (aL sW (aE (aL YH (aE (ah ai (aB 0) (eC (.int 1))) (aE (aB 3) aH))) aH)) aH)))))
def XY:aae->aaf:=az 3 4 YE
def zG:SF:=(aN (aU 2 0 .s (eC (.bool af)))
 (aN (lq .s (aj (aB 2)) (aN (aU 2 0 .s (eC (.bool ag)))
 (dQ .s (ay (aB 1)) (cg 3) (aN (aU 4 1 .a (aL JE (aE (aB 0) (aE (aB 3) aH))))
 (ba .a (aj (ah cz (aL bA (aE (aB 4) aH)) (eC (.int 0)))) (aN (aU 2 0 .s (eC (.bool af)))
 (BH 0 .a (du [ab,aa 4] (ay (ah ai (aB 0) (ah ai (aB 3) (eC (.int 1))))) (gB 0) (aj (ah (fu af) (aB 0) (aB 1))) (aB 0)) .s (ah ai (aB 3) (eC (.int 1))))) bN)))) 200)
 (cV 0 (bB 0 .s (aB 0)))))
def XR:aae->aaf:=z3 2 5 zG
def VM:SF:=(aN (aU 4 0 .s (aL tL (aE (ah ai (aB 0) (eC (.int 0))) (aE (aB 1) aH))))
 (aN (dQ .s (ay (aB 2)) (zH 5 6 7) (aN (ba .s (aj (ah aw (ah ai (aB 6) (eC (.int 0))) (eC (.str "clash")))) (bB 0 .s (eC (.bool ag))) bN)
 (ba .s (aj (ah aw (ah ai (aB 6) (eC (.int 0))) (eC (.str "put")))) (aN (aU 1 0 .s (aL VF (aE (aB 3) (aE (aB 5) (aE (aB 1) aH)))))
 (ba .s (aj (ah rY (aB 1) (eC .none))) (bB 0 .s (eC (.bool ag))) bN)) (aN (ba .s (aj (ah bo (cR (aB 1) (ah ai (aB 7) (eC (.int 0))) (ah ai (aB 7) (eC (.int 0)))) (cR (aB 1) (ah ai (aB 7) (eC (.int 1))) (ah ai (aB 7) (eC (.int 1)))))) (bB 0 .s (eC (.bool ag))) bN)
 (aN (aU 1 1 .s (aL DC (aE (aB 1) aH)))
 (aN (BB 1 .s (ah ai (aB 7) (eC (.int 1))))
 (cV 1 bN)))))))
 (aN (aU 8 0 .s (aB 0))
 (aN (ba .s (aj (ah cz (aL bA (aE (aB 2) aH)) (eC (.int 0)))) (aU 8 0 .s (ah ai (ah ai (aB 2) (ah dP (aL bA (aE (aB 2) aH)) (eC (.int 1)))) (eC (.int 0)))) bN)
 (bB 0 .s (cZ (aL YA (aE (aB 3) (aE (ah ai (aB 8) (eC (.int 1))) (aE (aB 1) aH)))) (ah aw (aL tL (aE (ah ai (aB 8) (eC (.int 0))) (aE (aB 1) aH))) (aB 4))))))))
def VW:aae->aaf:=az 4 9 VM
def UG:SF:=(aN (dQ .s (n8 (aE (aB 0) aH)) (mN 2 3) (dQ .s (n8 (aE (aB 1) aH)) (mN 4 5) (ba .s (aj (aL yQ (aE (aB 0) (aE (aB 5) (aE (aB 3) aH))))) (bB 0 .s (cK (aE (eC (.str "put")) (aE (aB 4) (aE (aB 2) aH))))) bN)))
 (bB 0 .s (eC .none)))
def IM:aae->aaf:=az 2 6 UG
def VQ:SF:=(aN (ba .s (ck (cU (aj (aL CI (aE (aB 1) aH)))) (aj (ah dw (ah ai (aB 1) (eC (.int 1))) (aL bA (aE (aB 2) aH))))) (bB 0 .s (eC (.bool ag))) bN)
 (aN (aU 3 0 .s (ah ai (aB 2) (ah ai (aB 1) (eC (.int 1)))))
 (aN (ba .s (aj (ah aw (ah ai (aB 1) (eC (.int 0))) (eC (.str "put")))) (bB 0 .s (cZ (ah cy (ah ai (aB 1) (eC (.int 2))) (aL bA (aE (aB 0) aH))) (aL yQ (aE (aB 0) (aE (aB 3) (aE (ah ai (aB 0) (ah ai (aB 1) (eC (.int 2)))) aH)))))) bN)
 (bB 0 .s (aL YK (aE (aB 0) (aE (aB 3) (aE (aB 1) aH))))))))
def JI:aae->aaf:=az 3 4 VQ
def WN:SF:=(aN (aU 6 2 .s (eC (.dict [])))
 (aN (aU 7 0 .s (aL kU (aE (aB 0) (aE (eC (.int 27)) aH))))
 (aN (dQ .s (i7 (aE (ah bQ (eC (.int 1)) (ah bK (aB 7) (eC (.int 2)))) aH)) (cg 8) (dQ .s (ay (aL KD (aE (ah pK (aL eJ (aE (aB 1) aH)) (aL eJ (aE (aB 2) aH))) (aE (ah bZ (aL kU (aE (aB 0) (aE (ah bQ (eC (.int 28)) (aB 8)) aH))) (eC (.int 2))) aH)))) (mN 9 10) (wY 6 CO (aE (aB 9) (aE (aB 10) aH)))))
 (aN (dQ .s (i7 (aE (ah bK (ah bZ (aB 7) (eC (.int 2))) (eC (.int 7))) aH)) (cg 8) (aN (aU 11 0 .s (aL kU (aE (aB 0) (aE (ah bQ (eC (.int 30)) (aB 8)) aH))))
 (aN (aU 12 0 .s (ah bK (aB 11) (eC (.int 3))))
 (aN (aU 13 1 .s (du [ab,aa 11] (i7 (aE (ah ai (aB 4) (aB 12)) aH)) (gB 0) cE (ah bK (ah bZ (ah bZ (aB 1) (eC (.int 3))) (ah bQ (ah cS (aB 0) (aB 0)) (eC (.int 1)))) (eC (.int 3)))))
 (cV 13 (wY 6 CO (aE (ah ai (aB 3) (aB 12)) (aE (aL cY (aE (aB 13) aH)) aH))))))))
 (DR 6 XR (aE (aB 5) aH))))))
def JW:aae->aaf:=az 6 14 WN
def OJ:SF:=(aN (dQ .s (n8 (aE (aB 1) aH)) (mN 2 3) (aN (aU 4 0 .s (dh (aj (ah aw (ah ai (aB 3) (eC (.int 0))) (eC (.str "key")))) (aL JZ (aE (ah ai (aB 0) (eC (.int 1))) (aE (aB 2) (aE (aB 3) aH)))) (eC .none)))
 (ba .s (aj (ah kP (aB 4) (eC .none))) (bB 0 .s (aB 4)) bN)))
 (bB 0 .s (aL IM (aE (ah ai (aB 0) (eC (.int 1))) (aE (aB 1) aH)))))
def zL:aae->aaf:=az 2 5 OJ
def QF:SF:=(aN (aU 3 0 .s (ah ai (aB 0) (eC (.int 1))))
 (aN (ba .s (cU (aj (aL JI (aE (aB 3) (aE (aB 1) (aE (aB 2) aH)))))) (bB 0 .s (eC .none)) bN)
 (aN (ba .s (aj (ah aw (ah ai (aB 1) (eC (.int 0))) (eC (.str "clash")))) (bB 0 .s (aB 0)) bN)
 (aN (ba .s (aj (ah aw (ah ai (aB 1) (eC (.int 0))) (eC (.str "put")))) (bB 0 .s (aL XM (aE (aB 0) (aE (ah ai (aB 2) (ah ai (aB 1) (eC (.int 1)))) (aE (ah ai (aB 3) (ah ai (aB 1) (eC (.int 2)))) aH))))) bN)
 (bB 0 .s (aL XY (aE (aB 0) (aE (ah ai (ah ai (ah ai (aB 3) (ah ai (aB 1) (eC (.int 2)))) (eC (.int 1))) (ah ai (aB 1) (eC (.int 4)))) (aE (ah ai (ah ai (ah ai (aB 3) (ah ai (aB 1) (eC (.int 3)))) (eC (.int 1))) (ah ai (aB 1) (eC (.int 4)))) aH)))))))))
def lL:aae->aaf:=az 3 4 QF
def Ba:SF:=(aN (aU 2 0 .s (cK (aE (ah ai (aB 0) (eC (.int 0))) (aE (aL sW (aE (ah ai (aB 0) (eC (.int 1))) aH)) aH))))
 (aN (aU 3 1 .s (cD aH))
 (aN (aU 4 0 .s (aL zL (aE (aB 2) (aE (aB 1) aH))))
 (aN (lq .a (cT (aj (ah kP (aB 4) (eC .none))) (cT (aj (ah bo (ah ai (aB 4) (eC (.int 0))) (eC (.str "clash")))) (cU (aj (aL vG (aE (aB 2) (aE (aB 3) (aE (aB 4) (aE (aB 1) aH))))))))) (aN (dE 3 .s (aB 4))
 (aN (aU 2 0 .s (aL lL (aE (aB 2) (aE (aB 4) (aE (aB 1) aH)))))
 (aU 4 0 .s (aL zL (aE (aB 2) (aE (aB 1) aH)))))) 200)
 (aN (ba .s (aj (ah rY (aB 4) (eC .none))) (zJ .s (eC (.str "still")) .s (aB 2) 3) bN)
 (aN (ba .s (aj (ah aw (ah ai (aB 4) (eC (.int 0))) (eC (.str "put")))) (zJ .s (eC (.str "past")) .s (aB 2) 3) bN)
 (DP .s (eC (.str "clash")) .s (aB 2) .a (ah pK (aB 3) (cD (aE (aB 4) aH))))))))))
def HB:aae->aaf:=az 2 5 Ba
def XI:SF:=(aN (aU 3 0 .s (aB 0))
 (aN (aU 4 1 .s (cD aH))
 (aN (dQ .s (ay (aB 1)) (cg 5) (aN (aU 6 0 .s (cK (aE (eC (.str "")) (aE (eC (.str "")) aH))))
 (aN (ba .s (aj (ah aw (ah ai (aB 5) (eC (.int 0))) (eC (.str "same")))) (aN (aU 6 0 .s (cK (aE (ah ai (ah ai (ah ai (ah ai (aB 3) (eC (.int 1))) (ah ai (aB 5) (eC (.int 2)))) (eC (.int 1))) (ah ai (aB 5) (eC (.int 4)))) (aE (ah ai (ah ai (ah ai (ah ai (aB 3) (eC (.int 1))) (ah ai (aB 5) (eC (.int 3)))) (eC (.int 1))) (ah ai (aB 5) (eC (.int 4)))) aH))))
 (ba .s (cU (aj (bz (cM "str") (ah ai (aB 6) (eC (.int 1)))))) (aU 6 0 .s (cK (aE (ah ai (aB 6) (eC (.int 1))) (aE (ah ai (aB 6) (eC (.int 0))) aH)))) bN)) bN)
 (aN (aU 3 0 .s (aL lL (aE (aB 3) (aE (aB 5) (aE (aB 2) aH)))))
 (dE 4 .s (cK (aE (aB 3) (aE (aB 5) (aE (aB 6) aH)))))))))
 (dS 4 1))))
def XG:aae->aaf:=az 3 7 XI
def YG (KC:aae->aaf):SF:=(aN (ba .s (aj (ah aw (aL bA (aE (aB 1) aH)) (eC (.int 0)))) (bB 1 .s (cD (aE (aB 2) aH))) bN)
 (aN (aU 3 1 .s (cD aH))
 (aN (dQ .s (ay (cR (aB 0) (ah ai (ah ai (aB 1) (eC (.int 0))) (eC (.int 0))) (cD aH))) (cg 4) (aN (aU 5 0 .s (aL JL (aE (ah ai (aB 1) (eC (.int 0))) (aE (aB 4) (aE (aB 2) aH)))))
 (ba .a (cT (aj (ah kP (aB 5) (eC .none))) (aj (ah cy (aL bA (aE (aB 3) aH)) (eC (.int 40))))) (sN 3 .s (aL KC (aE (aB 0) (aE (nU (aB 1) (oS (eC (.int 1))) oN) (aE (aB 5) aH))))) bN)))
 (cV 3 (bB 1 .s (nU (aB 3) oN (oS (eC (.int 40)))))))))
def vM:Nat->aae->aaf
 |0=>az 3 6 λ_=>ab
 |n+1=>az 3 6 (YG (vM n))
def KC:aae->aaf:=vM 6
def Gj:SF:=(aN (aU 1 0 .s (aL CV (aE (aL kU (aE (aB 0) (aE (eC (.int 0)) aH))) (aE (eC (.int 3)) aH))))
 (aN (aU 2 0 .s (aL kU (aE (aB 0) (aE (eC (.int 1)) aH))))
 (aN (aU 3 0 .s (cD (aE (ah bQ (eC (.int 1)) (ah bK (aB 2) (eC (.int 3)))) (aE (ah bQ (eC (.int 1)) (ah bK (ah bZ (aB 2) (eC (.int 3))) (eC (.int 3)))) (aE (ah bQ (eC (.int 1)) (ah bK (ah bZ (aB 2) (eC (.int 9))) (eC (.int 3)))) aH)))))
 (aN (aU 4 0 .s (aL JN (aE (aL kU (aE (aB 0) (aE (eC (.int 2)) aH))) (aE (aL kU (aE (aB 0) (aE (eC (.int 3)) aH))) aH))))
 (aN (aU 5 1 .s (cD aH))
 (aN (dQ .s (i7 (aE (ah bK (ah bZ (aB 2) (eC (.int 27))) (eC (.int 5))) aH)) (cg 6) (aN (aU 7 0 .s (aL JY (aE (aL kU (aE (aB 0) (aE (ah bQ (eC (.int 6)) (aB 6)) aH))) (aE (aB 6) (aE (aB 1) (aE (aB 3) (aE (aB 4) aH)))))))
 (ba .a (aj (ah (fu af) (aB 7) (aB 5))) (dE 5 .s (aB 7)) bN)))
 (cV 5 (aN (aU 8 1 .s (cD aH))
 (aN (dQ .s (i7 (aE (ah bK (aL kU (aE (aB 0) (aE (eC (.int 4)) aH))) (eC (.int 7))) aH)) (cg 6) (aN (aU 9 0 .s (aL kU (aE (aB 0) (aE (ah bQ (eC (.int 12)) (ah cS (eC (.int 2)) (aB 6))) aH))))
 (dE 8 .s (aL JQ (aE (aB 9) (aE (aL kU (aE (aB 0) (aE (ah bQ (eC (.int 13)) (ah cS (eC (.int 2)) (aB 6))) aH))) (aE (aB 1) (aE (aB 3) aH))))))))
 (cV 8 (aN (aU 10 0 .s (cK (aE (aL JT (aE (aL kU (aE (aB 0) (aE (eC (.int 5)) aH))) (aE (aB 5) aH))) (aE (aL cY (aE (aB 5) aH)) aH))))
 (aN (CZ .s (aL HB (aE (aB 10) (aE (aB 8) aH))) (zH 11 12 13))
 (aN (aU 14 0 .s (aL XG (aE (aB 10) (aE (aB 13) (aE (aB 8) aH)))))
 (aN (ba .s (cU (aj (aL XQ (aE (aB 10) (aE (aB 14) (aE (aB 12) aH)))))) (bB 0 .s (eC (.bool ag))) bN)
 (aN (ba .s (cT (aj (ah cz (aL bA (aE (aB 14) aH)) (eC (.int 0)))) (aj (ah bo (ah ai (ah ai (aB 14) (ah dP (aL bA (aE (aB 14) aH)) (eC (.int 1)))) (eC (.int 0))) (aB 12)))) (bB 0 .s (eC (.bool ag))) bN)
 (aN (aU 15 0 .s (aL JW (aE (aB 0) (aE (aB 5) (aE (ah ai (aB 12) (eC (.int 1))) (aE (aB 1) (aE (aB 3) (aE (aB 8) aH))))))))
 (aN (dQ .s (ay (aL KC (aE (aB 15) (aE (aB 5) (aE (eC (.dict [])) aH))))) (cg 16) (ba .s (cU (aj (aL VW (aE (aB 10) (aE (aB 16) (aE (aB 14) (aE (aB 15) aH))))))) (bB 0 .s (eC (.bool ag))) bN))
 (bB 0 .s (eC (.bool af))))))))))))))))))))
def NX:aae->aaf:=az 1 17 Gj
end Aw
namespace L2
open PySem PySem.Spec PyProof.Rows
variable {F G:SF}{T:aA->bd->Option bd}{ds:aae}{Y:aQ}{t:BF}{f:EF}{d:aA}{fi:AF}{n i:Nat}{cap:lf}
theorem Wn{T:aA->aQ->aar}(P:Nat->aQ->Prop)(h0:P 0 Y)
  (step:∀ i d Y,ds[i]?=aa d->P i Y->∃ Y1 Y2,T d Y=aa Y1/\(F Y1=aa (.nx Y2)\/F Y1=aa (.ct Y2))/\P (i+1) Y2):∃ Y',jX F T ds Y=aa (.nx Y')/\P ds.length Y':=by
 have go:∀ (rest:aae) (i:Nat) (Y:aQ),ds.drop i=rest->i+rest.length=ds.length->P i Y->∃ Y',jX F T rest Y=aa (.nx Y')/\P ds.length Y':=by
  intro rest;induction rest with
  |nil=>
   intro i Y _ hl p;simp at hl;subst hl;exact⟨Y,rfl,p⟩
  |cons d r ih=>
   intro i Y hd hl p;have hi:ds[i]?=aa d:=by
    have:=congrArg (·[0]?) hd;simpa using this
   obtain⟨Y1,Y2,e1,e2,p2⟩:=step i d Y hi p;have f7:ds.drop (i+1)=r:=by
    have:=congrArg List.tail hd;simpa using this
   obtain⟨Y',e3,p3⟩:=ih (i+1) Y2 f7 (by simp at hl;lia) p2
   refine⟨Y',?_,p3⟩;show((T d Y).bind λY1=>(F Y1).bind λo=>match o with
    |.nx Y'=>jX F T r Y'
    |.ct Y'=>jX F T r Y'
    |.bk Y'=>aa (.nx Y')
    | .rt d=>aa (.rt d))=aa (.nx Y')
   grind
 exact go ds 0 Y (by simp) (by simp) h0
theorem Bc{Y:bd}(R:aA->aA->Prop):∀ (ds:aae),(∀ d∈ds,∃ Y1 y,T d Y=aa Y1/\t Y1=aa af/\f Y1=aa y/\R d y) ->
  ∃ ys,kj T t f Y ds=aa ys/\gJ R ds ys
 |[],_=>⟨[],rfl,.nil⟩
 |d::r,h=>by
  obtain⟨Y1,y,e1,e2,e3,hr⟩:=h d bT;obtain⟨ys,e4,hp⟩:=Bc R r λd' m=>h d' (cL _ m)
  refine⟨y::ys,?_,.cons hr hp⟩;show((T d Y).bind λY1=>(t Y1).bind λc=>if c=af then(f Y1).bind λy=>(kj T t f Y r).bind λys=>aa (y::ys) else kj T t f Y r)=aa (y::ys)
  simp[e1,e2,e3,e4]
theorem Ar{Y:bd}(g:aA->aA):∀ (ds:aae),(∀ d∈ds,∃ Y1,T d Y=aa Y1/\t Y1=aa af/\f Y1=aa (g d))->kj T t f Y ds=aa (ds.map g)
 |[],_=>rfl
 |d::r,h=>by
  obtain⟨Y1,e1,e2,e3⟩:=h d bT;have e4:=Ar g r λd' m=>h d' (cL _ m)
  show((T d Y).bind λY1=>(t Y1).bind λc=>if c=af then(f Y1).bind λy=>(kj T t f Y r).bind λys=>aa (y::ys) else kj T t f Y r)=aa (g d::r.map g)
  simp[e1,e2,e3,e4]
theorem Paired.mem_right {α β:Type}{R:α->β->Prop}:∀ {as:List α} {bs:List β},gJ R as bs->∀ b∈bs,∃ a∈as,R a b:=by
 intro as bs h;induction h with
 |nil=>exact λb m=>by simp at m
 |cons h _ ih=>
  grind
theorem Hg{Y':aQ}(h:F Y=aa (.nx Y')):aN F G Y=G Y':=by
 unfold aN;rw[h]
 rfl
theorem Hk(h:F Y=aa (.rt d)):aN F G Y=aa (.rt d):=by
 unfold aN;rw[h]
 rfl
theorem HH {m:Md}{T:aA->aQ->aar}{o:Out}(h:aV m fi Y=aa ds)(h2:jX F T ds Y=aa o):dQ m fi T F Y=aa o:=by
 unfold dQ;rw[h];exact h2
theorem NP {np:Nat}{body:SF}(hl:ds.length=np)(h:body (ds.map (λd=>aa (0,d))++oD (n-np) ab)=aa (.rt d)):az np n body ds=aa d:=by
 unfold az;rw[if_pos hl,h]
 rfl
theorem Qz {α β:Type}{R:α->β->Prop}{as:List α}{bs:List β}(h:gJ R as bs):bs.length=as.length:=(oC h).symm
theorem Ad {β:Type}{g:β->aA}{R:β->Prop}:∀ (ys:aae),(∀ y∈ys,∃ c,y=g c/\R c)->∃ cs:List β,ys=cs.map g/\∀ c∈cs,R c
 |[],_=>⟨[],rfl,λ_ m=>by simp at m⟩
 |y::r,h=>by
  obtain⟨c,e,hc⟩:=h y bT;obtain⟨cs,e2,h2⟩:=Ad r λz m=>h z (cL _ m)
  refine⟨c::cs,by rw[e,e2];rfl,λx m=>?_⟩
  grind
theorem jI(h:n<=100000):n<=sizeLine:=kK h nofun
theorem sX(h:n<=100000):n<sizeLine:=Nat.lt_of_le_of_lt h nofun
def letter (c:Nat):Bool:=decide (97<=c)&&decide (c<=122)
def figure (c:Nat):Bool:=decide (48<=c)&&decide (c<=57)
def xF (c:Nat):Bool:=letter c||figure c
theorem Zn {c:Nat}(h:xF c=af):c<128:=by
 simp[xF,letter,figure] at h
 lia
def Fb (cs:aam):Prop:=∃ c r,cs=c::r/\letter c=af/\(∀ x∈cs,xF x=af)/\cs.length<=12
def nameS (z:aD):Prop:=Fb z.cps.toList
theorem Gn {z:aD}(h:∀ c∈z.cps.toList,xF c=af):eY (.str z)=af:=by
 have:z.cps.all (λx=>decide (x<1114112))=af:=by
  rw[Array.all_eq_true'];intro x hx;have:=Zn (h x (by simpa using hx))
  simp;lia
 simpa [eY,LW] using this
theorem dX (a:Int){b:Int}(h:0<b):0<=a%b/\a%b<b:=⟨Int.emod_nonneg _ (),Int.emod_lt_of_pos _ h⟩
def Goes (F:SF)(Y:aQ)(P:Out->Prop):Prop:=∃ o,F Y=aa o/\P o
variable {P:Out->Prop}{m:Md}
theorem Goes.mono {P':Out->Prop}(h:Goes F Y P)(k:∀ o,P o->P' o):Goes F Y P':=by
 obtain⟨o,e,p⟩:=h;exact⟨o,e,k o p⟩
theorem dB {Y':aQ}(h:F Y=aa (.nx Y'))(k:Goes G Y' P):Goes (aN F G) Y P:=by
 obtain⟨o,e,p⟩:=k;exact⟨o,by rw[Hg h];exact e,p⟩
theorem fW (I:aQ->Prop)(h:Goes F Y λo=>∃ Y',o=.nx Y'/\I Y')(k:∀ Y',I Y'->Goes G Y' P):Goes (aN F G) Y P:=by
 obtain⟨o,e,Y',rfl,i⟩:=h;exact dB e (k Y' i)
theorem HE(h:F Y=aa (.rt d))(k:P (.rt d)):Goes (aN F G) Y P:=⟨_,Hk h,k⟩
theorem NU{b:Bool}(h:bV m t Y=aa b)(k:Goes (if b=af then F else G) Y P):Goes (ba m t F G) Y P:=by
 obtain⟨o,e,p⟩:=k;refine⟨o,?_,p⟩;show((bV m t Y).bind λb=>if b=af then F Y else G Y)=aa o
 rw[h];cases b
 .exact e
 .exact e
theorem fL(h:bV m t Y=aa af)(k:Goes F Y P):Goes (ba m t F G) Y P:=NU h k
theorem iB(h:bV m t Y=aa ag)(k:Goes G Y P):Goes (ba m t F G) Y P:=NU h k
theorem iC (k:P (.nx Y)):Goes bN Y P:=⟨_,rfl,k⟩
theorem gL(h:bV m t Y=aa ag):ba m t F bN Y=aa (.nx Y):=by
 unfold ba;rw[h]
 rfl
theorem kF (h:Goes F Y λo=>∃ d,o=.rt d/\P o):Goes (aN F G) Y P:=by
 obtain⟨o,e,d,rfl,p⟩:=h;exact HE e p
theorem cO(h:f (vS Y)=aa d)(k:P (.rt d)):Goes (bB n .s f) Y P:=⟨_,by
 unfold bB eV;simp only[h,bR],k⟩
theorem Ab(h:eV n m f Y=aa d)(hl:i<Y.length)(k:P (.nx (Y.set i (aa (n,d))))):Goes (aU i n m f) Y P:=
 ⟨_,by unfold aU;rw[h];simp only[bR,if_pos hl],k⟩
theorem qU(h:f (vS Y)=aa d)(hl:i<Y.length)(k:P (.nx (Y.set i (aa (n,d))))):Goes (aU i n .s f) Y P:=Ab h hl k
theorem jH(h:Goes F (frz i Y) P):Goes (cV i F) Y P:=h
theorem Ik(h:n<=1000000):uE 0 (n:Int)=aa ((bD n).map λ(k:Nat)=>bC k):=by
 unfold uE;rw[if_pos ()]
 simp
theorem nM {fa:AF}{Y:bd}(h:fa Y=aa [.int n])(hn:n<=1000000):i7 fa Y=aa ((bD n).map λ(k:Nat)=>bC k):=by
 have e:=Ik hn;generalize aa ((bD n).map λ(k:Nat)=>bC k)=y at e ⊢
 rw[<-e];unfold i7;rw[h,bR]
theorem gm(h:fi (vS Y)=aa ds):aV .s fi Y=aa ds:=h
theorem lG{T:aA->aQ->aar}(I:Nat->aQ->Prop)(h:aV m fi Y=aa ds)(h0:I 0 Y)
  (step:∀ i d Y,ds[i]?=aa d->I i Y->∃ Y1,T d Y=aa Y1/\Goes F Y1 λo=>∃ Y2,(o=.nx Y2\/o=.ct Y2)/\I (i+1) Y2) (k:∀ Y',I ds.length Y'->P (.nx Y')):Goes (dQ m fi T F) Y P:=by
 obtain⟨Y',e,i⟩:=Wn I h0 λi d Y hd p=>by
  obtain⟨Y1,e1,o,e2,Y2,e3,p2⟩:=step i d Y hd p;refine⟨Y1,Y2,e1,?_,p2⟩;rcases e3 with rfl|rfl
  .exact .inl e2
  .exact .inr e2
 exact⟨_,HH h e,k Y' i⟩
theorem qQ{T:aA->aQ->aar}(I:Nat->aQ->Prop)(h:aV m fi Y=aa ((bD n).map λ(k:Nat)=>bC k))(h0:I 0 Y)
  (step:∀ (i:Nat) Y,i<n->I i Y->∃ Y1,T (.int i) Y=aa Y1/\Goes F Y1 λo=>∃ Y2,(o=.nx Y2\/o=.ct Y2)/\I (i+1) Y2) (k:∀ Y',I n Y'->P (.nx Y')):Goes (dQ m fi T F) Y P:=by
 refine lG I h h0 (λi d Y hd p=>?_) (by simpa using k)
 have bu:i<n:=by
  have:=(eW.1 hd).1;simpa using this
 rw[eU,pU bu] at hd;have:bC (i:Int)=d:=by simpa using hd
 subst this;exact step i Y bu p
theorem hU {np:Nat}{body:SF}{Q:aA->Prop}(hl:ds.length=np)(h:Goes body (ds.map (λd=>aa (0,d))++oD (n-np) ab) λo=>∃ d,o=.rt d/\Q d):∃ d,az np n body ds=aa d/\Q d:=by
 obtain⟨o,e,d,rfl,q⟩:=h;exact⟨d,NP hl e,q⟩
theorem Fy{Y:bd}(R:aA->aA->Prop)(h1:fi Y=aa ds)(h2:ds.length<=100000)
  (h:∀ d∈ds,∃ Y1 y,T d (jY cap Y)=aa Y1/\t Y1=aa af/\f Y1=aa y/\R d y):∃ ys,du cap fi T t f Y=aa (.list ys)/\gJ R ds ys:=by
 obtain⟨ys,e,hp⟩:=Bc R ds h;refine⟨ys,?_,hp⟩;unfold du;rw[h1,bR,e,bR,if_pos (jI h2)]
theorem Jj{Y:bd}(g:aA->aA)(h1:fi Y=aa ds)(h2:ds.length<=100000)
  (h:∀ d∈ds,∃ Y1,T d (jY cap Y)=aa Y1/\t Y1=aa af/\f Y1=aa (g d)):du cap fi T t f Y=aa (.list (ds.map g)):=by
 unfold du;rw[h1,bR,Ar g ds h,bR,if_pos (jI h2)]
theorem Mm{Y:bd}{β:Type}(g:β->aA)(R:β->Prop)(h1:fi Y=aa ((bD n).map λ(k:Nat)=>bC k))(h2:n<=100000)
  (h:∀ k<n,∃ Y1 y,T (.int (k:Nat)) (jY cap Y)=aa Y1/\t Y1=aa af/\f Y1=aa (g y)/\R y):∃ ys:List β,du cap fi T t f Y=aa (.list (ys.map g))/\ys.length=n/\∀ y∈ys,R y:=by
 obtain⟨ys,e,hp⟩:=Fy (λ_ y=>∃ x,y=g x/\R x) h1 (by simpa using h2) λd m=>by
  obtain⟨k,hk,rfl⟩:=cG.1 m;obtain⟨Y1,y,a1,a2,a3,a4⟩:=h k (by simpa using hk)
  exact⟨Y1,g y,a1,a2,a3,y,rfl,a4⟩
 obtain⟨xs,rfl,hx⟩:=Ad ys λy m=>by
  obtain⟨_,_,x,e,hx⟩:=L2.Paired.mem_right hp y m;exact⟨x,e,hx⟩
 have:=Qz hp;exact⟨xs,e,by simpa using this,hx⟩
end L2
namespace L2
open PySem PySem.Spec PyProof.Rows
variable {f:EF}{ds:aae}{d:aA}
variable {F G:SF}{Y:aQ}{P:Out->Prop}{m:Md}
theorem pH{Y:bd}(h:f Y=aa (.list ds)):ay f Y=aa ds:=by
 unfold ay;rw[h]
 rfl
theorem pG{Y:bd}(h:f Y=aa (.tuple ds)):ay f Y=aa ds:=by
 unfold ay;rw[h]
 rfl
theorem aX {fa:AF}{g:aae->aaf}{Y:bd}(h:fa Y=aa ds)(h2:g ds=aa d):aL g fa Y=aa d:=by
 unfold aL;rw[h];exact h2
theorem aJ {fa fb:EF}{g:aA->aA->aaf}{Y:bd}{a b:aA}(h:fa Y=aa a)(h2:fb Y=aa b)(h3:g a b=aa d):ah g fa fb Y=aa d:=by
 unfold ah;rw[h,h2];exact h3
theorem Ae(i:Int)(h:0<ds.length):∃ (j:Nat) (d:aA),ds[j]?=aa d/\jf ds (i%(ds.length:Int))=aa d:=by
 have b:=dX i (show(0:Int)<ds.length by lia)
 obtain⟨j,e⟩:=kL b.1;have hj:j<ds.length:=()
 exact⟨j,ds[j],jU hj,by rw[e];exact qS (jU hj)⟩
theorem qV {i:Nat}(h:f (vS Y)=aa d)(hg:getL i Y=aa ds)(hl:ds.length<100000)(k:P (.nx (Y.set i (aa (1,.list (ds++[d])))))):Goes (dE i .s f) Y P:=⟨_,by
 unfold dE eV;simp only[h,bR,hg,if_pos (sX (EG hl))],k⟩
def Ew (d:aA):Prop:=(∃ z,d=.str z/\nameS z)\/∃ i,d=.int i
theorem BV:∀ {ts:aae},(∀ t∈ts,bU t=af)->cW ts=af
 |[],_=>by simp[cW]
 |t::r,h=>by
  simp only[cW,EV];exact⟨h t bT,BV λx m=>h x (cL _ m)⟩
theorem yL {n:Nat}:∀ {ts:aae},(∀ t∈ts,t.depth<=n)->cI ts<=n
 |[],_=>by simp[cI]
 |t::r,h=>by
  simp only[cI];exact Nat.max_le.2 ⟨h t bT,yL λx m=>h x (cL _ m)⟩
theorem rB:∀ {ts:aae},(∀ t∈ts,noDict t=af)->noDicts ts=af
 |[],_=>by simp[noDicts]
 |t::r,h=>by
  simp only[noDicts,EV];exact⟨h t bT,rB λx m=>h x (cL _ m)⟩
structure Kn (kds:List (aA×aA)):Prop where
 fit:∀ kd∈kds,(∃ z,kd.1=.str z)/\Ew kd.2
 once:(kds.map (·.1)).Nodup
theorem Aa {kds:am}(h:∀ kd∈kds,kd.1 ≠ .none):f6 kds=af:=by
 cases kds with
 |nil=>rfl
 |cons p r=>
  obtain⟨k,d⟩:=p;have:=h (k,d) bT;cases k<;>first|rfl|exact absurd rfl this
theorem GQ:∀ {kss:ld},(∀ k∈kss,cW k=af/\cI k<=6)->lU (kss.map fO)=aa kss
 |[],_=>rfl
 |k::r,h=>by
  show(if cW k=af/\cI k<=6 then(lU (r.map fO)).bind λkss=>aa (k::kss) else ab)=_
  rw[if_pos (h k bT),GQ λx m=>h x (cL _ m)]
  rfl
theorem Kf {kss:ld}(h:∀ k∈kss,cW k=af/\cI k<=6)(hl:kss.length<=100000):FU [.tuple (kss.map fO)]=aa (.tuple ((qH kss).map fO)):=by
 show((lU (kss.map fO)).bind λyx=>if (kss.map fO).length<sizeLine then aa (fO ((qH yx).map fO)) else ab)=_
 rw[GQ h,bR,if_pos (sX (by simpa using hl))]
end L2
namespace L2
open PySem PySem.Spec PyProof.Rows
variable {f:EF}{i n:Nat}{d:aA}
variable {F G:SF}{Y:aQ}{P:Out->Prop}{m:Md}
theorem Nc {α β:Type}{fi:AF}{T:aA->aQ->aar}{xs:List α}{q:α->aA}(g:β->α->β)(I:Nat->β->aQ->Prop){b0:β}(h:aV m fi Y=aa (xs.map q))(h0:I 0 b0 Y)
  (step:∀ i x b Y,xs[i]?=aa x->I i b Y->∃ Y1,T (q x) Y=aa Y1/\Goes F Y1 λo=>∃ Y2,(o=.nx Y2\/o=.ct Y2)/\I (i+1) (g b x) Y2) (k:∀ Y',I xs.length (xs.foldl g b0) Y'->P (.nx Y')):Goes (dQ m fi T F) Y P:=by
 refine lG (λi Y=>I i ((xs.take i).foldl g b0) Y) h h0 (λi d Y hd p=>?_) (λY' p=>k Y' (by simpa using p))
 rw[eU] at hd;obtain⟨x,hx,rfl⟩:=iE.1 hd;obtain⟨Y1,e1,g1⟩:=step i x _ Y hx p;refine⟨Y1,e1,g1.mono λo ⟨Y2,e,q⟩=>⟨Y2,e,?_⟩⟩
 have:xs.take (i+1)=xs.take i++[x]:=by rw[tU,hx];rfl
 rw[this,EN];exact q
def zz (F:SF)(T:aA->aQ->aar)(ds:aae):Out->Option Out
 |.nx Y=>jX F T ds Y
 |.ct Y=>jX F T ds Y
 |.bk Y=>aa (.nx Y)
 |.rt d=>aa (.rt d)
theorem QN {T:aA->bd->Option bd}{t:BF}{Y:bd}{α:Type}{q:α->aA}(p:α->Bool)(g:α->aA):∀ (xs:List α),
  (∀ x∈xs,∃ Y1,T (q x) Y=aa Y1/\t Y1=aa (p x)/\(p x=af->f Y1=aa (g x)))->kj T t f Y (xs.map q)=aa ((xs.filter p).map g)
 |[],_=>rfl
 |x::xs,h=>by
  obtain⟨Y1,e1,e2,e3⟩:=h x bT;have ih:=QN p g xs λy m=>h y (cL _ m)
  show((T (q x) Y).bind λY1=>(t Y1).bind λc=>if c=af then(f Y1).bind λy=>(kj T t f Y (xs.map q)).bind λys=>aa (y::ys) else kj T t f Y (xs.map q))=_
  grind
theorem iO {cap:lf}{fi:AF}{T:aA->bd->Option bd}{t:BF}{Y:bd}{α:Type}{xs:List α}{q:α->aA}(p:α->Bool)(g:α->aA)(h1:fi Y=aa (xs.map q))(h2:xs.length<=100000)
  (h:∀ x∈xs,∃ Y1,T (q x) (jY cap Y)=aa Y1/\t Y1=aa (p x)/\(p x=af->f Y1=aa (g x))):du cap fi T t f Y=aa (.list ((xs.filter p).map g)):=by
 unfold du;rw[h1,bR,QN p g xs h,bR,if_pos (jI (by simpa using h2))]
theorem iY(h:eV n m f Y=aa d)(hl:i<Y.length):aU i n m f Y=aa (.nx (Y.set i (aa (n,d)))):=by
 obtain⟨o,e,q⟩:=Ab (P:=λo=>o=.nx (Y.set i (aa (n,d)))) h hl rfl
 rw[e,q]
theorem cJ(h:f (vS Y)=aa d)(hl:i<Y.length)(k:Goes G (Y.set i (aa (n,d))) P):Goes (aN (aU i n .s f) G) Y P:=dB (iY h hl) k
theorem Lg(h:f (vA Y)=aa d)(hf:cQ n d=af)(hl:i<Y.length)(k:Goes G (Y.set i (aa (n,d))) P):Goes (aN (aU i n .a f) G) Y P:=
 dB (iY (by show((f (vA Y)).bind λd=>if cQ n d=af then aa d else ab)=_;rw[h,bR,if_pos hf]) hl) k
theorem sM {fa:EF}{g:aA->aaf}{Y:bd}{a:aA}(h:fa Y=aa a)(h3:g a=aa d):bz g fa Y=aa d:=by
 unfold bz;rw[h];exact h3
theorem aR{g:AF}{Y:bd}{ds:aae}(h:f Y=aa d)(h2:g Y=aa ds):aE f g Y=aa (d::ds):=by
 unfold aE;rw[h,h2]
 rfl
end L2
namespace L2
def fS {α:Type}[DecidableEq α](aq:List α)(z:α):List α:=if z∈aq then aq else aq++[z]
def dU {α:Type}[DecidableEq α](zs:List α):List α:=zs.foldl fS []
section
variable {α:Type}[DecidableEq α]
theorem Wo {aq:List α}{z x:α}:x∈fS aq z↔x∈aq\/x=z:=by
 unfold fS
 grind
theorem IZ {x:α}:∀ (zs aq:List α),x∈zs.foldl fS aq↔x∈aq\/x∈zs
 |[],aq=>by simp
 |z::zs,aq=>by
  rw[wD,IZ zs,Wo]
  grind
theorem Acs {x:α}{zs:List α}:x∈dU zs↔x∈zs:=by
 unfold dU;rw[IZ];simp
theorem Wj (aq:List α)(z:α):(fS aq z).length<=aq.length+1:=by
 unfold fS;split<;>simp
theorem pI:∀ (zs aq:List α),(zs.foldl fS aq).length<=aq.length+zs.length
 |[],aq=>by simp
 |z::zs,aq=>by
  have h1:=pI zs (fS aq z);have h2:=Wj aq z
  grind
end
open PySem PySem.Spec PyProof.Rows
variable {R:aA->Prop}{kds:am}
noncomputable def bF (r:aai):aA:=.tuple (r.map bC)
def cN (rs:bv):aA:=.list (rs.map bF)
theorem RG (r:aai):bU (bF r)=af:=by
 refine BV λt m=>?_
 obtain⟨i,_,rfl⟩:=cG.1 m
 rfl
theorem Hv {n j:Nat}(h:j<n):k9 n (j:Int)=aa j:=by
 unfold k9
 grind
theorem xG {ds:aae}{f:EF}{lo hi:OF}{Y:bd}{l u:aap}(e1:f Y=aa (.list ds))(e2:lo Y=aa l)(e3:hi Y=aa u):nU f lo hi Y=aa (.list (cutD ds l u)):=by
 unfold nU
 grind
theorem BD {fd fk fx:EF}{Y:bd}{kds:am}{kd x:aA}{key:aG}(h1:fd Y=aa (.dict kds))(h2:fk Y=aa kd)(ha:bO kd=aa key)(h3:fx Y=aa x)(hp:f6 kds=af:=by first|assumption|rfl|simp):cR fd fk fx Y=aa ((bL kds key).getD x):=by
 unfold cR;rw[h1,bR,h2,bR,h3,bR];show(if f6 kds=af then(bO kd).bind λk=>aa ((bL kds k).getD x) else ab)=_
 rw[if_pos hp,ha]
 rfl
end L2
namespace L2
open PySem PySem.Spec PyProof.Rows
variable {F G:SF}{Y:aQ}{P:Out->Prop}{m:Md}
def jP {α β:Type}(g:β->α->Option β):β->List α->Option β
 |b,[]=>aa b
 |b,x::xs=>(g b x).bind λb'=>jP g b' xs
def AU {β:Type}(I:β->aQ->Prop)(r:aA)(t:Option β)(o:Out):Prop:=match t with
 |none=>o=.rt r
 |some b=>∃ Y2,o=.nx Y2/\I b Y2
def sP {β:Type}(I:β->aQ->Prop)(r:aA)(t:Option β)(o:Out):Prop:=match t with
 |none=>o=.rt r
 |some b=>∃ Y2,(o=.nx Y2\/o=.ct Y2)/\I b Y2
theorem WB {α β:Type}(g:β->α->Option β)(x:α):∀ (xs:List α) (b:β),jP g b (xs++[x])=(jP g b xs).bind λb'=>g b' x
 |[],b=>by
  show((g b x).bind λb'=>aa b')=g b x
  cases g b x<;>rfl
 |y::ys,b=>by
  show((g b y).bind λb'=>jP g b' (ys++[x]))=((g b y).bind λb'=>jP g b' ys).bind _
  cases g b y with
  |none=>rfl
  |some b'=>exact WB g x ys b'
theorem ZS {T:aA->aQ->aar}{α β:Type}{q:α->aA}(g:β->α->Option β)(I:β->aQ->Prop)(r:aA){all:List α}{b0:β}
  (step:∀ pre x post b Y,all=pre++x::post->jP g b0 pre=aa b->I b Y->∃ Y1,T (q x) Y=aa Y1/\Goes F Y1 (sP I r (g b x))):∀ {xs pre:List α} {b:β} {Y:aQ},all=pre++xs->jP g b0 pre=aa b->I b Y->∃ o,jX F T (xs.map q) Y=aa o/\AU I r (jP g b xs) o
 |[],pre,b,Y,_,_,h0=>⟨_,rfl,Y,rfl,h0⟩
 |x::xs,pre,b,Y,ha,hb,h0=>by
  obtain⟨Y1,e1,o,e2,h⟩:=step pre x xs b Y ha hb h0;have e:jX F T ((x::xs).map q) Y=zz F T (xs.map q) o:=by
   show((T (q x) Y).bind λY1=>(F Y1).bind λo=>_)=_
   rw[e1,bR,e2,bR];cases o<;>rfl
  rw[e];show ∃ o',zz F T (xs.map q) o=aa o'/\AU I r ((g b x).bind λb'=>jP g b' xs) o'
  cases hg:g b x with
  |none=>
   rw[hg] at h;have h:=h;subst h;exact⟨_,rfl,rfl⟩
  |some b'=>
   rw[hg] at h;obtain⟨Y2,ho,i2⟩:=h;obtain⟨o',e',h'⟩:=ZS g I r step (pre:=pre++[x]) (by simpa using ha) (by rw[WB,hb];exact hg) i2
   rcases ho with rfl|rfl
   .exact⟨o',e',h'⟩
   .exact⟨o',e',h'⟩
theorem Lf {α β:Type}{fi:AF}{T:aA->aQ->aar}{xs:List α}{q:α->aA}{b0:β}(g:β->α->Option β)(I:β->aQ->Prop)(r:aA)(h:aV m fi Y=aa (xs.map q))(h0:I b0 Y)
  (step:∀ pre x post b Y,xs=pre++x::post->jP g b0 pre=aa b->I b Y->∃ Y1,T (q x) Y=aa Y1/\Goes F Y1 (sP I r (g b x))):Goes (dQ m fi T F) Y (AU I r (jP g b0 xs)):=by
 obtain⟨o,e,h'⟩:=ZS g I r step (xs:=xs) (pre:=[]) (by simp) rfl h0
 exact⟨o,HH h e,h'⟩
theorem Of {β:Type}(I:β->aQ->Prop)(r:aA)(t:Option β)(h:Goes F Y (AU I r t))(k1:t=ab->P (.rt r))(k2:∀ b,t=aa b->∀ Y',I b Y'->Goes G Y' P):Goes (aN F G) Y P:=by
 obtain⟨o,e,h⟩:=h;cases t with
 |none=>
  have h:=h;subst h;exact HE e (k1 rfl)
 |some b=>
  obtain⟨Y2,rfl,i2⟩:=h;exact dB e (k2 b rfl Y2 i2)
noncomputable def dN (p:aD×Int):aA×aA:=(.str p.1,.int p.2)
def DN (kn:wn):am:=kn.map dN
noncomputable def cC (kn:wn)(z:aD):aap:=(kn.find? λp=>decide (p.1=z)).map (·.2)
theorem xU (kn:wn)(z:aD):bL (DN kn) (.inr z)=(cC kn z).map bC:=by
 unfold bL cC DN;induction kn with
 |nil=>rfl
 |cons p r ih=>
  rw[dF,gF,gF];have e:bO (dN p).1=aa (.inr p.1):=rfl;rw[e];by_cases h:p.1=z
  .simp[h,dN]
  .have h':¬ (aa (fX p.1:aG)=aa (fX z)):=λq=>h (by injection q with q;injection q)
   rw[decide_eq_false h',decide_eq_false h];exact ih
theorem HM (kn:wn)(i:Int):bL (DN kn) (.inl i)=ab:=by
 unfold bL DN;have:((kn.map dN).find? λkd=>decide (bO kd.1=aa (.inl i)))=ab:=by
  rw[EO];intro kd m;obtain⟨p,_,rfl⟩:=cG.1 m;simp[dN,bO]
 rw[this]
 rfl
theorem Lz {kn:wn}{z:aD}(h:cC kn z=ab)(v:Int):putD (DN kn) (.inr z) (.int v)=DN (kn++[(z,v)]):=by
 unfold putD DN;have hn:¬ ((kn.map dN).any λkd=>decide (bO kd.1=aa (.inr z)))=af:=λq=>by
  obtain⟨kd,m,e⟩:=nE.1 q;obtain⟨p,mp,rfl⟩:=cG.1 m;have e':p.1=z:=by
   have:=of_decide_eq_true e;have:=this;injection this with this;injection this
  unfold cC at h;have h2:=Cg.1 h;have:=EO.1 h2 p mp;exact this (decide_eq_true e')
 rw[if_neg hn,hW]
 rfl
theorem Qo {kn:wn}{z:aD}(h:cC kn z=ab)(v:Int)(y:aD):cC (kn++[(z,v)]) y=if y=z then aa v else cC kn y:=by
 unfold cC at *;rw[List.find?_append];by_cases e:y=z
 .subst e;rw[if_pos rfl,Cg.1 h];simp
 .rw[if_neg e];have e':¬ z=y:=λq=>e q.symm
  cases q:kn.find? λp=>decide (p.1=y) with
  |none=>simp[e']
  |some p=>rfl
end L2
namespace L2
open PySem PySem.SetTable
variable {prog:bW}{w:bG}
noncomputable def R6 (mask:Nat)(p:Probe):Probe:=if p.more > 0 then { p with j:=p.j+1,more:=p.more-1 } else
 { p with j:=(leap mask p.i p.perturb).1,more:=runEnd mask (leap mask p.i p.perturb).1-(leap mask p.i p.perturb).1,i:=(leap mask p.i p.perturb).1,perturb:=(leap mask p.i p.perturb).2 }
def pN (mask:Nat)(p:Probe):Nat->Probe
 |0=>p
 |n+1=>R6 mask (pN mask p n)
def R8 (mask i NE:Nat):Probe:={ j:=i,more:=runEnd mask i-i,i,perturb:=NE,dummy:=ab }
def lp (mask:Nat)(s:Nat×Nat):Nat->Nat×Nat
 |0=>s
 |m+1=>leap mask (lp mask s m).1 (lp mask s m).2
def rd (mask:Nat)(h:Int)(n:Nat):Probe:=pN mask (R8 mask (bits h%(mask+1)) (bits h)) n
open PySem PySem.Spec PyProof.Rows PySem.SetTable
section
variable {B:aae->aC->Prop}
end
section
variable {B:aae->aC->Prop}
end
section
variable {B:aae->aC->Prop}
end
instance memK (k:aG)(aq:aah):Decidable (k∈aq):=decidable_of_iff (aq.any (λx=>decide (x=k))=af) (by simp[nE])
section
variable {A:cP}{E:aF->aK->Prop}{s:aK}
end
end L2
namespace Aw
open PySem L2
variable {j:Nat}{f:EF}{Y:bd}{F:SF}{fa:AF}
abbrev s0 (d:aA):L2.Slot:=aa (0,d)
abbrev lI (ms:aai):aA:=.list (ms.map bC)
theorem He:("abcdefghijklmnopqrstuvwxyz" : aD).length=26:=by rw[0]
theorem uY (a b:Int):aw (.int a) (.int b)=aa (.bool (decide (a=b))):=by
 congr 2
theorem nN {α:Type}{q:α->aA}{xs:List α}{x:α}(h:xs[j]?=aa x):ai (.list (xs.map q)) (.int j)=aa (q x):=qS (by rw[eU,h];rfl)
abbrev tK (ks:aah):aA:=.tuple (ks.map kD)
abbrev tI (row:aai):aA:=.tuple (row.map bC)
def mK:Option (wn)->aA
 |none=>.none
 |some kn=>.dict (DN kn)
def OI (p:aG×Int):aA:=pairD (kD p.1) (.int p.2)
theorem Wr (ks:aah)(row:aai):MC pairD (ks.map kD) (row.map bC)=(ks.zip row).map OI:=by
 rw[List.zipWith_map,List.zip,List.map_zipWith]
 rfl
theorem GM (k:aG):cM "str" (kD k)=aa (.bool (match k with|.inr _=>af|.inl _=>ag)):=by
 cases k<;>simp[cM,dW,dz,kD]
theorem ne_int (a b:Int):bo (.int a) (.int b)=aa (.bool (decide (a≠b))):=by
 have:bE (.int a) (.int b)=decide (a=b):=by
  rw[show bE (.int a) (.int b)=(a==b) by simp[bE],iW]
  simp
 simp[bo,bP,noDict,dC,this]
theorem xT (ds:aae):bA [.tuple ds]=aa (.int ds.length):=by simp[bA]
theorem cH{b:Bool}(h:f Y=aa (.bool b)):aj f Y=aa b:=by
 unfold aj;rw[h]
 rfl
theorem Kp {ks:aah}{k:aG}(h:ks[j]?=aa k):ai (tK ks) (.int j)=aa (kD k):=qS (by rw[eU,h];rfl)
theorem sZ (a b:aG):bE (kD a) (kD b)=decide (a=b):=by
 cases a with
 |inl i=>cases b with
  |inl j=>
   rw[show bE (kD (.inl i)) (kD (.inl j))=(i==j) by simp[kD,bE],iW]
   simp
  |inr y=>simp[kD,bE]
 |inr x=>cases b with
  |inl j=>simp[kD,bE]
  |inr y=>
   rw[show bE (kD (.inr x)) (kD (.inr y))=(x==y) by simp[kD,bE],iW]
   simp
theorem Ap (a b:aG):aw (kD a) (kD b)=aa (.bool (decide (a=b))):=by
 have h1:∀ k:aG,bP (kD k)=af:=λk=>by cases k<;>rfl
 unfold aw;rw[h1 a,h1 b,sZ]
 rfl
theorem Oh (k:aG)(v:Int):bo (kD k) (.int v)=aa (.bool (decide (k ≠ .inl v))):=by
 have h1:∀ k:aG,bP (kD k)=af:=λk=>by cases k<;>rfl
 have h2:=sZ k (.inl v);have h3:bP (.int v)=af:=rfl;unfold bo;rw[h1 k,h3];show aa (eZ (!bE (kD k) (kD (.inl v))))=_;rw[h2];simp
def isS:aG->Bool
 |.inr _=>af
 |.inl _=>ag
theorem su (kn:wn):f6 (DN kn)=af:=Aa λkd m=>by
 obtain⟨p,_,rfl⟩:=cG.1 m;exact λq=>nomatch q
def putN (kn:wn)(z:aD)(v:Int):wn:=if (cC kn z).isSome=af then kn.map λp=>if p.1=z then(p.1,v) else p else kn++[(z,v)]
theorem Ah (kn:wn)(z:aD)(v:Int):putD (DN kn) (.inr z) (.int v)=DN (putN kn z v):=by
 unfold putN;cases h:cC kn z with
 |none=>exact Lz h v
 |some u=>
  rw[if_pos (show(aa u).isSome=af from rfl)]
  unfold putD DN;have hy:((kn.map dN).any λkd=>decide (bO kd.1=aa (.inr z)))=af:=by
   unfold cC at h;obtain⟨p,e,_⟩:=iE.1 h;refine nE.2 ⟨dN p,cG.2 ⟨p,c9 e,rfl⟩,?_⟩;have:p.1=z:=by simpa using MJ e
   show decide (aa (fX p.1:aG)=aa (fX z))=af;rw[this];simp
  rw[if_pos hy,eN,eN];refine kZ λp _=>?_
  show(if aa (fX p.1:aG)=aa (fX z) then((dN p).1,bC v) else dN p)=dN (if p.1=z then(p.1,v) else p)
  by_cases e:p.1=z
  .rw[if_pos (by rw[e]),if_pos e];rfl
  all_goals grind
theorem SI (kn:wn)(z:aD)(v:Int):(putN kn z v).length<=kn.length+1:=by
 unfold putN;split<;>simp
theorem vH (kn:wn)(z y:aD)(v:Int):cC (putN kn z v) y=if y=z then aa v else cC kn y:=by
 unfold putN;cases h:cC kn z with
 |none=>rw[if_neg (by simp)];exact Qo h v y
 |some u=>
  rw[if_pos (show(aa u).isSome=af from rfl)]
  induction kn with
  |nil=>cases h
  |cons p r ih=>
   unfold cC at h ⊢;rw[dF,gF,gF];rw[gF] at h;have key:((if p.1=z then(p.1,v) else p).1:aD)=p.1:=by split<;>rfl
   by_cases hp:p.1=z
   .rw[if_pos hp];by_cases hy:y=z
    .grind
    .have n1:¬ p.1=y:=λq=>hy (by rw[<-q,hp])
     rw[decide_eq_false n1,if_neg hy];have gen:∀ r:wn,(((r.map λp=>if p.1=z then(p.1,v) else p).find? λp=>decide (p.1=y)).map (·.2))=(r.find? λp=>decide (p.1=y)).map (·.2):=λr=>by
      induction r with
      |nil=>rfl
      |cons q t ih=>
       grind
     exact gen r
   .rw[if_neg hp];rw[decide_eq_false hp] at h;by_cases hy:p.1=y
    .grind
    .rw[decide_eq_false hy];exact ih h
def Bbu (I:aQ->Prop)(t:aaf)(o:Out):Prop:=match t with
 |some r=>o=.rt r
 |none=>∃ Y2,o=.nx Y2/\I Y2
def FP (I:aQ->Prop)(t:aaf)(o:Out):Prop:=match t with
 |some r=>o=.rt r
 |none=>∃ Y2,(o=.nx Y2\/o=.ct Y2)/\I Y2
theorem Bbu.turn {I J:aQ->Prop}{t:aaf}{o:Out}(h:Bbu I t o)(gp:∀ Y,I Y->J Y):FP J t o:=by
 cases t with
 |some r=>exact h
 |none=>
  obtain⟨Y2,e,i⟩:=h;exact⟨Y2,.inl e,gp _ i⟩
theorem YQ{T:aA->aQ->aar}{α:Type}{q:α->aA}(I:aQ->Prop)(g:α->aaf):∀ {xs:List α} {Y:aQ},I Y ->
  (∀ x∈xs,∀ Y,I Y->∃ Y1,T (q x) Y=aa Y1/\Goes F Y1 (FP I (g x)))->∃ o,jX F T (xs.map q) Y=aa o/\Bbu I (xs.findSome? g) o
 |[],Y,h0,_=>⟨_,rfl,Y,rfl,h0⟩
 |x::xs,Y,h0,step=>by
  obtain⟨Y1,e1,o,e2,h⟩:=step x bT Y h0;have e:jX F T ((x::xs).map q) Y=zz F T (xs.map q) o:=by
   show((T (q x) Y).bind λY1=>(F Y1).bind λo=>_)=_
   rw[e1,bR,e2,bR];cases o<;>rfl
  rw[e,Cq];cases hg:g x with
  |some r=>
   rw[hg] at h;have h:=h;subst h;exact⟨_,rfl,rfl⟩
  |none=>
   rw[hg] at h;obtain⟨Y2,ho,i2⟩:=h;obtain⟨o',e',h'⟩:=YQ I g i2 λy m=>step y (cL _ m)
   rcases ho with rfl|rfl
   .exact⟨o',e',h'⟩
   .exact⟨o',e',h'⟩
theorem sY {m:Md}{Y:aQ}{α:Type}{fi:AF}{T:aA->aQ->aar}{xs:List α}{q:α->aA}(I:aQ->Prop)(g:α->aaf)(h:aV m fi Y=aa (xs.map q))(h0:I Y)
  (step:∀ x∈xs,∀ Y,I Y->∃ Y1,T (q x) Y=aa Y1/\Goes F Y1 (FP I (g x))):Goes (dQ m fi T F) Y (Bbu I (xs.findSome? g)):=by
 obtain⟨o,e,h'⟩:=YQ I g h0 step;exact⟨o,HH h e,h'⟩
theorem yA {G:SF}{Y:aQ}{P:Out->Prop}(I:aQ->Prop)(t:aaf)(h:Goes F Y (Bbu I t))(k1:∀ r,t=aa r->P (.rt r))(k2:t=ab->∀ Y',I Y'->Goes G Y' P):Goes (aN F G) Y P:=by
 obtain⟨o,e,h⟩:=h;cases t with
 |some r=>
  have h:=h;subst h;exact HE e (k1 r rfl)
 |none=>
  obtain⟨Y2,rfl,i2⟩:=h;exact dB e (k2 rfl Y2 i2)
def qO (lo n:Nat):aam:=(bD (n-lo)).map (lo + ·)
theorem Aq9 {lo n:Nat}:j∈qO lo n↔lo<=j/\j<n:=by
 unfold qO;rw[cG];constructor
 .rintro⟨k,mk,rfl⟩;have:=hE.1 mk
  lia
 .rintro⟨h1,h2⟩;exact⟨j-lo,hE.2 (),()⟩
theorem YY{lo n:Nat}(h:fa Y=aa [.int lo,.int n])(hl:lo<=1000000)(hn:n<=1000000):rn fa Y=aa ((qO lo n).map λ(k:Nat)=>bC k):=by
 unfold rn;rw[h,bR];show uE (lo:Int) (n:Int)=_;unfold uE;have N0:(2:Int)^62=4611686018427387904:=by decide
 rw[N0,if_pos (),show((n:Int)-(lo:Int)).toNat=n-lo by lia]
 unfold qO;rw[eN]
 congr 1
theorem VZ {α:Type}(q:α->aA)(d0:α)(xs:List α):(xs.map q).mapIdx lT=(bD xs.length).map λk=>lT k (q (xs.getD k d0)):=by
 apply List.ext_getElem
 .simp
 .intro i h1 h2;have hi:i<xs.length:=by simpa using h1
  simp[hi]
theorem GL {α:Type}(q:α->aA)(d0:α){xs:List α}(h:f Y=aa (.tuple (xs.map q))):n8 (aE f aH) Y=aa ((bD xs.length).map λk=>lT k (q (xs.getD k d0))):=by
 unfold n8;rw[aR h rfl,<-VZ]
 rfl
theorem QO {α:Type}(q:α->aA)(d0:α){xs:List α}(h:f Y=aa (.list (xs.map q))):n8 (aE f aH) Y=aa ((bD xs.length).map λk=>lT k (q (xs.getD k d0))):=by
 unfold n8;rw[aR h rfl,<-VZ]
 rfl
theorem getD_some {α:Type}{xs:List α}{i:Nat}(d0:α)(h:i<xs.length):xs[i]?=aa (xs.getD i d0):=by
 rw[EL,jU h]
 rfl
theorem getD_mem {α:Type}{xs:List α}{i:Nat}(d0:α)(h:i<xs.length):xs.getD i d0∈xs:=jE (getD_some d0 h)
theorem qT {a b:EF}{x y:Bool}(h:a Y=aa (.bool x))(h2:x=af->b Y=aa (.bool y)):cZ a b Y=aa (.bool (x&&y)):=by
 unfold cZ;cases x with
 |true=>rw[h,bR,show dg (.bool af)=aa af from rfl,bR,if_pos rfl,h2 rfl];rfl
 |false=>rw[h,bR,show dg (.bool ag)=aa ag from rfl,bR,if_neg (by simp)];rfl
theorem Mo {a:EF}{x:Bool}(h:a Y=aa (.bool x)):eD a Y=aa (.bool (!x)):=by
 unfold eD;rw[h]
 rfl
theorem jQ{ds:aae}(h:fa Y=aa ds)(hl:ds.length<=1000:=by simp):cK fa Y=aa (.tuple ds):=by
 unfold cK;rw[h,bR,if_pos (jI ())]
theorem lH{ds:aae}(h:fa Y=aa ds)(hl:ds.length<=1000:=by simp):cD fa Y=aa (.list ds):=by
 unfold cD;rw[h,bR,if_pos (jI ())]
abbrev Ln:=aD×aah
abbrev aak:=List Ln
def aO (l:Ln):aA:=.tuple [.str l.1,.tuple (l.2.map kD)]
abbrev ar:Ln:=("",[])
abbrev tN (cs:aam):aA:=.tuple (cs.map λ(c:Nat)=>bC c)
def pick (ks:aah)(cs:aam):aah:=cs.map λc=>ks.getD c (.inl 0)
inductive Rl where
 |key (t:aD) (c:List Nat)
 |pts (t:aD) (c:List Nat) (o:aD) (d:List Nat) (w:Nat)
def bI:Rl->aA
 |.key t c=>.tuple [.str "key",.str t,tN c]
 |.pts t c o d w=>.tuple [.str "points",.str t,tN c,.str o,tN d,.int w]
def hJ (wd:aD->Nat)(l:Ln):Prop:=l.2.length=wd l.1
def lX (wd:aD->Nat):Rl->Prop
 |.key t c=>∀ x∈c,x<wd t
 |.pts t c o d _=>(∀ x∈c,x<wd t)/\∀ x∈d,x<wd o
theorem iQ (a b:aD):aw (.str a) (.str b)=aa (.bool (decide (a=b))):=(Ap (.inr a) (.inr b)).trans (by simp)
theorem uS (a b:aD):bo (.str a) (.str b)=aa (.bool (decide (a≠b))):=by
 have h2:=sZ (.inr a) (.inr b);unfold bo;rw[show bP (.str a)=af from rfl,show bP (.str b)=af from rfl]
 show aa (eZ (!bE (kD (.inr a)) (kD (.inr b))))=_;rw[h2];simp
theorem Bh (a b:aG):bo (kD a) (kD b)=aa (.bool (decide (a≠b))):=by
 have h1:∀ k:aG,bP (kD k)=af:=λk=>by cases k<;>rfl
 unfold bo;rw[h1 a,h1 b];rw[sZ];simp
theorem vL:∀ (xs ys:aah),iU (xs.map kD) (ys.map kD)=decide (xs=ys)
 |[],[]=>by simp[iU]
 |[],y::ys=>by simp[iU]
 |x::xs,[]=>by simp[iU]
 |x::xs,y::ys=>by
  rw[dF,dF];simp only[iU,sZ,vL xs ys];rw[iW];simp
theorem yS (xs:aah):noDicts (xs.map kD)=af:=rB λt m=>by
 obtain⟨x,_,rfl⟩:=cG.1 m;cases x<;>rfl
theorem yP (xs:aah):cI (xs.map kD)<=1:=yL λt m=>by
 obtain⟨x,_,rfl⟩:=cG.1 m;cases x<;>simp[kD,dC]
theorem GU (xs:aah):bP (tK xs)=af:=by
 have:=yP xs;simp[bP,noDict,yS,dC]
 lia
theorem Nw (xs:aah):bP (.list (xs.map kD))=af:=by
 have:=yP xs;simp[bP,noDict,yS,dC]
 lia
theorem DK (xs ys:aah):aw (tK xs) (tK ys)=aa (.bool (decide (xs=ys))):=by
 unfold aw;rw[GU,GU,qB,if_pos rfl];have:bE (tK xs) (tK ys)=iU (xs.map kD) (ys.map kD):=by simp only[bE]
 rw[this,vL]
end Aw
namespace L2
open PySem PySem.Spec PyProof.Rows
section
variable {X:Cx}
end
end L2
namespace Aw
open PySem L2
variable {r:Rl}{c n i j m:Nat}{a b g kp k:aG}{R:bv}{kds:am}{wd:aD->Nat}{fk f:EF}{Y:bd}{t w o:aD}{P:Out->Prop}{ds xs:aae}{v:aD->Int}{x y:Bool}{l l':Ln}{d:aA}{ks hd:aah}{cs ws:aam}{fi:AF}{ls:aak}{rs:List Rl}{ns:aai}
theorem Ip {r:aai}(h:c<r.length):ai (bF r) (.int c)=aa (.int (r.getD c 0)):=qS (by rw[eU,getD_some 0 h];rfl)
def p9:aA->Int
 |.int i=>i
 |_=>0
theorem BE (r:aai):(r.map bC).map p9=r:=by
 rw[eN];have:(p9∘bC)=id:=rfl;rw[this,List.map_id]
theorem Xl (r:aai):cW (r.map bC)=af:=BV λt m=>by
 obtain⟨i,_,rfl⟩:=cG.1 m
 rfl
theorem Qb (r:aai):cI (r.map bC)<=1:=yL λt m=>by
 obtain⟨i,_,rfl⟩:=cG.1 m;simp[dC]
theorem SA (r:aai):bP (bF r)=af:=by
 have h1:noDicts (r.map bC)=af:=rB λt m=>by
  obtain⟨i,_,rfl⟩:=cG.1 m
  rfl
 have h2:cI (r.map bC)<=1:=yL λt m=>by
  obtain⟨i,_,rfl⟩:=cG.1 m;simp[dC]
 simp[bP,bF,noDict,h1,dC]
 lia
theorem Na {a b:aai}(h:bF a=bF b):a=b:=by
 have h:=Ce h;exact(BE a).symm.trans ((congrArg (EJ p9) h).trans (BE b))
theorem OQ (a b:aai):bE (bF a) (bF b)=decide (a=b):=by
 rw[HW _ _ (RG a) (RG b),decide_eq_decide];exact⟨Na,λe=>by rw[e]⟩
def qc (R:bv):bv:=(pB (R.map λr=>r.map bC)).map λk=>k.map p9
theorem RI (R:bv):(qc R).Perm R:=by
 have h:=(CS (R.map λr=>r.map bC)).map λk=>k.map p9
 rw[eN] at h;have e:(R.map ((λk=>k.map p9)∘λr=>r.map bC))=R:=by
  have:((λk=>k.map p9)∘λr=>r.map bC)=(id:aai->aai):=by funext r;exact BE r
  rw[this,List.map_id]
 rw[e] at h;exact h
theorem Ajw{r:aai}:r∈qc R↔r∈R:=(RI R).mem_iff
theorem Oj (R:bv):(qc R).length=R.length:=(RI R).length_eq
theorem Py (R:bv):lU (R.map bF)=aa (R.map λr=>r.map bC):=by
 have:=GQ (kss:=R.map λr=>r.map bC) λk m=>by
  obtain⟨r,_,rfl⟩:=cG.1 m;have:=Qb r;exact⟨Xl r,()⟩
 rw[eN] at this;exact this
theorem TY:∀ (a b:aai),a.length=b.length->iX (a.map bC) (b.map bC)=af
 |[],[],_=>rfl
 |x::a,y::b,h=>TY a b (by simpa using h)
 |[],_::_,h=>by simp at h
 |_::_,[],h=>by simp at h
theorem Lp(hn:1<=n)(hw:∀ r∈R,r.length=n)(hl:R.length<64):wZ [cN R]=aa (cN (qc R)):=by
 show((lU (R.map bF)).bind λkss=>if oa kss=af/\kss.length<64 then aa (kJ ((pB kss).map fO)) else ab)=_
 rw[Py,bR];have ok:oa (R.map λr=>r.map bC)=af:=by
  unfold oa;rw[Bool.or_eq_true_iff];refine .inr (iG.2 ⟨iV.2 λk mk=>iV.2 λk' mk'=>?_,iV.2 λk mk=>?_⟩)
  .obtain⟨a,ma,rfl⟩:=cG.1 mk;obtain⟨b,mb,rfl⟩:=cG.1 mk';exact TY a b ((hw a ma).trans (hw b mb).symm)
  .obtain⟨a,ma,rfl⟩:=cG.1 mk;have:=hw a ma;cases a with
   |nil=>simp at this;lia
   |cons x r=>rfl
 rw[if_pos ⟨ok,by rw[fA];exact hl⟩]
 unfold cN qc;rw[eN]
 congr 2
 refine kZ λk mk=>?_
 obtain⟨a,_,rfl⟩:=cG.1 ((CS _).mem_iff.1 mk);show _=fO (((a.map bC).map p9).map bC);rw[BE]
structure Bk (kds:List (aA×aA))(B:aD->List (List Int))(wd:aD->Nat):Prop where
 pl:f6 kds=af
 at_:∀ t,(bL kds (.inr t)).getD (.list [])=cN (B t)
 few:∀ t,(B t).length<64
 pos:∀ t,1<=wd t
 wid:∀ t,∀ r∈B t,r.length=wd t
theorem Bk.get{B:aD->bv}(b:Bk kds B wd){fd:EF}(h1:fd Y=aa (.dict kds))(h2:fk Y=aa (.str t)):cR fd fk (cD aH) Y=aa (cN (B t)):=by
 rw[BD h1 h2 rfl rfl b.pl,b.at_]
theorem Bk.sort{B:aD->bv}(b:Bk kds B wd)(t:aD):wZ [cN (B t)]=aa (cN (qc (B t))):=Lp (b.pos t) (b.wid t) (b.few t)
theorem Km {Y:aQ}{ts:aae}(h:f (vS Y)=aa (.list ts))(hg:getL i Y=aa ds)(hl:ds.length+ts.length<=100000)(k:P (.nx (Y.set i (aa (1,.list (ds++ts)))))):Goes (sN i .s f) Y P:=⟨_,by
 have h':eV 0 .s f Y=aa (.list ts):=h;unfold sN;rw[h',bR,hg,bR];show(if ds.length+ts.length<=sizeLine then aa (Out.nx (Y.set i (aa (1,.list (ds++ts))))) else ab)=_
 rw[if_pos (jI hl)],k⟩
theorem Ni {a b:Int}(h:jM a+jM b<=134217728):mM (.int a) (.int b)=aa (.int (a*b)):=by
 show(if (a.natAbs<2^64\/b.natAbs<2^64)\/jM a+jM b<=134217728 then aa (bC (a*b)) else ab)=_
 rw[if_pos (.inr h)]
theorem Ll {v:Int}(h:jM v<=n):v.natAbs<2^n:=by
 unfold jM at h;by_cases q:v=0
 .subst q;exact Nat.two_pow_pos n
 .have q':¬ ((v==0)=af):=by simpa using q
  rw[if_neg q'] at h;exact(Nat.log2_lt ()).1 ()
theorem Wc {n0 v:Int}(hn:64<=n)(h0:n0.natAbs<2^64)(hv:jM v<=n):jM (n0+v*48271)<=n+20:=by
 apply bits_le;have h1:=Ll hv;have h2:(2:Nat)^64<=2^n:=Nat.pow_le_pow_right nofun hn
 grind
theorem kA (c:Int)(n:Nat)(h:0<n):bK (.int c) (.int n)=aa (.int (c%n)):=by
 show(if 0<(n:Int) then aa (bC (c%(n:Int))) else ab)=_
 rw[if_pos ()]
theorem pC (c:Int)(n:Nat)(h:0<n)(h2:n<1000:=by lia):bZ (.int c) (.int n)=aa (.int (c/n)):=by
 show(if 0<(n:Int)/\(n:Int)<1073741824 then aa (bC (c/(n:Int))) else ab)=_
 rw[if_pos ()]
theorem OE {a b:Int}(h:a.natAbs<2^64):cS (.int a) (.int b)=aa (.int (a*b)):=by
 show(if (a.natAbs<2^64\/b.natAbs<2^64)\/(a.natAbs<2^1000/\b.natAbs<2^1000) then aa (bC (a*b)) else ab)=_
 rw[if_pos (.inl (.inl h))]
theorem mV {a b:BF}(h:a Y=aa x)(h2:x=af->b Y=aa y):cT a b Y=aa (x&&y):=by
 unfold cT
 grind
theorem mP {a b:BF}(h:a Y=aa x)(h2:x=ag->b Y=aa y):ck a b Y=aa (x||y):=by
 unfold ck
 grind
theorem lJ(h:f Y=aa (.bool x)):cU (aj f) Y=aa (!x):=by
 unfold cU;rw[cH h]
 rfl
theorem Iu{lo hi:OF}{l u:aap}(e1:f Y=aa (.tuple ds))(e2:lo Y=aa l)(e3:hi Y=aa u):wQ f lo hi Y=aa (.tuple (cutD ds l u)):=by
 unfold wQ
 grind
theorem QM (r:aai):cB (bF r)=af:=by
 show mR (r.map bC)=af;rw[yN,iV];intro d m;obtain⟨i,_,rfl⟩:=cG.1 m
 rfl
theorem WJ (R:bv):noDicts (R.map bF)=af:=rB λt m=>by
 obtain⟨r,_,rfl⟩:=cG.1 m;have:=SA r;unfold bP at this
 grind
theorem Bf (neg:Bool)(r:aai)(R:bv):fu neg (bF r) (cN R)=aa (.bool (neg != decide (r∈R))):=by
 show(if (bP (bF r)&&noDicts (R.map bF))=af then aa (eZ (neg != (R.map bF).any λz=>bE z (bF r))) else ab)=_
 rw[SA,WJ,qB,if_pos rfl];have:((R.map bF).any λz=>bE z (bF r))=decide (r∈R):=by
  rw[tV];by_cases h:r∈R
  .rw[decide_eq_true h];exact nE.2 ⟨r,h,by simp[OQ]⟩
  .rw[decide_eq_false h,List.any_eq_false];intro x mx;simp only[Function.comp,OQ,decide_eq_true_eq];exact λe=>h (e ▸ mx)
 rw[this]
abbrev Tb:=aD×bv
abbrev aaq:=List Tb
def bt (L:aaq):am:=L.map λp=>(jK p.1,cN p.2)
theorem OU {Y:aQ}(h:Y[i]?=aa (aa (n,d)))(k:P (.rt d)):Goes (dS i n) Y P:=⟨_,by
 unfold dS;rw[h];show(if n=n then aa (Out.rt d) else ab)=_
 rw[if_pos rfl],k⟩
def gv (L:aaq)(t:aD):bv:=((L.find? λp=>decide (p.1=t)).map (·.2)).getD []
theorem BU (t:aD):∀ L:aaq,bL (bt L) (.inr t)=(L.find? λp=>decide (p.1=t)).map λp=>cN p.2
 |[]=>rfl
 |p::L=>by
  show bL ((.str p.1,cN p.2)::bt L) (.inr t)=_;rw[CP,gF];by_cases h:p.1=t
  .rw[if_pos (by rw[h];rfl),decide_eq_true h];rfl
  .rw[if_neg (λe=>h (by injection e with e;injection e)),decide_eq_false h,BU t L]
theorem Ic (L:aaq)(t:aD):(bL (bt L) (.inr t)).getD (.list [])=cN (gv L t):=by
 rw[BU];unfold gv;cases L.find? λp=>decide (p.1=t)<;>rfl
theorem Jk (L:aaq):f6 (bt L)=af:=Aa λkd m=>by
 obtain⟨p,_,rfl⟩:=cG.1 m;exact λq=>nomatch q
theorem BM {L:aaq}{r:aai}(h:r∈gv L t):∃ p∈L,p.1=t/\p.2=gv L t:=by
 unfold gv at h ⊢;cases e:L.find? λp=>decide (p.1=t) with
 |none=>rw[e] at h;simp at h
 |some p=>
  grind
theorem R7 {L:aaq}(h1:∀ t,1<=wd t)(hL:∀ p∈L,p.2.length<64/\∀ r∈p.2,r.length=wd p.1):Bk (bt L) (gv L) wd:=by
 refine⟨Jk L,Ic L,λt=>?_,h1,λt r m=>?_⟩
 .by_cases h:∃ r,r∈gv L t
  .obtain⟨r,m⟩:=h;obtain⟨p,mp,_,e⟩:=BM m;rw[<-e];exact(hL p mp).1
  .have:=List.eq_nil_iff_forall_not_mem.2 λr m=>h ⟨r,m⟩
   rw[this];simp
 .obtain⟨p,mp,e1,e2⟩:=BM m
  grind
noncomputable def jZ:aaq->aD->bv->aaq
 |[],_,_=>[]
 |p::L,t,R=>if p.1=t then(p.1,R)::L else p::jZ L t R
theorem GY (t:aD)(R:bv):∀ L:aaq,kM (bt L) (.inr t) (cN R)=bt (jZ L t R)
 |[]=>rfl
 |p::L=>by
  show(if bO (.str p.1)=aa (.inr t) then(jK p.1,cN R)::bt L else(jK p.1,cN p.2)::kM (bt L) (.inr t) (cN R))=bt (if p.1=t then(p.1,R)::L else p::jZ L t R)
  by_cases h:p.1=t
  .rw[if_pos (by rw[h];rfl),if_pos h];rfl
  .rw[if_neg (λe=>h (by injection e with e;injection e)),if_neg h,GY t R L];rfl
theorem BY (t:aD)(R:bv):∀ L:aaq,(jZ L t R).map (·.1)=L.map (·.1)
 |[]=>rfl
 |p::L=>by
  show(if p.1=t then(p.1,R)::L else p::jZ L t R).map (·.1)=_
  by_cases h:p.1=t
  .rw[if_pos h];rfl
  .rw[if_neg h,dF,BY t R L];rfl
theorem BI:∀ {L:aaq} {p:Tb},p∈jZ L t R->p∈L\/(p.1=t/\p.2=R)
 |[],p,m=>by simp[jZ] at m
 |q::L,p,m=>by
  have m:p∈(if q.1=t then(q.1,R)::L else q::jZ L t R):=m
  by_cases h:q.1=t
  .grind
  .rw[if_neg h] at m;rcases dJ.1 m with rfl|m
   .exact .inl bT
   .exact(BI m).imp (cL _) id
theorem Mr {Y Y':aQ}{G:SF}{T:aA->aQ->aar}(h:f (vS Y)=aa d)(hT:T d Y=aa Y')(k:Goes G Y' P):Goes (aN (CZ .s f T) G) Y P:=dB (by
 have e:eV 0 .s f Y=aa d:=h;unfold CZ;rw[e,bR,hT]
 rfl) k
theorem find_key {L:aaq}(h:t∈L.map (·.1)):∃ p,(L.find? λp=>decide (p.1=t))=aa p:=by
 cases e:L.find? λp=>decide (p.1=t) with
 |some p=>exact⟨p,rfl⟩
 |none=>
  grind
theorem Ro {L:aaq}(h:t∉L.map (·.1)):(L.find? λp=>decide (p.1=t))=ab:=EO.2 λp m=>by
 grind
theorem CA {L:aaq}(h:t∈L.map (·.1)):bL (bt L) (.inr t)=aa (cN (gv L t)):=by
 obtain⟨p,e⟩:=find_key h;rw[BU];unfold gv;rw[e]
 rfl
theorem Us (t:aD)(R:bv):∀ L:aaq,(jZ L t R).length=L.length:=λL=>by
 have:=congrArg List.length (BY t R L);simpa using this
theorem UX {α β:Type}(f:α->β):∀ (xs:List α) (n:Nat),(xs.map f).eraseIdx n=(xs.eraseIdx n).map f
 |[],n=>by simp
 |x::xs,0=>rfl
 |x::xs,n+1=>by
  rw[dF,d5,d5,dF,UX f xs n]
theorem wo{Y:aQ}(h:f (vA Y)=aa d)(hf:cQ n d=af):eV n .a f Y=aa d:=by
 show((f (vA Y)).bind λd=>if cQ n d=af then aa d else ab)=_
 rw[h,bR,if_pos hf]
theorem qM(h:c<ks.length):ai (tK ks) (.int c)=aa (kD (ks.getD c (.inl 0))):=Kp (getD_some _ h)
theorem picks(h:∀ c∈cs,c<ks.length)(hi:fi Y=aa (cs.map λ(c:Nat)=>bC c))(hc:jY [ab,aa 0] Y=[ab,aa (tK ks)])(hn:cs.length<=1000) :
  du [ab,aa 0] fi (gB 0) cE (ah ai (aB 1) (aB 0)) Y=aa (.list ((pick ks cs).map kD)):=by
 have:=iO (cap:=[ab,aa 0]) (fi:=fi) (T:=gB 0) (t:=cE) (f:=ah ai (aB 1) (aB 0)) (Y:=Y) (xs:=cs) (q:=λ(c:Nat)=>bC c) (λ_=>af) (λc=>kD (ks.getD c (.inl 0))) hi () (λc m=>⟨[aa (.int c),aa (tK ks)],by rw[hc];rfl,rfl,λ_=>aJ (a:=tK ks) (b:=.int c) rfl rfl (qM (h c m))⟩)
 rw[this,nD.2 (by simp)]
 unfold pick;rw[eN]
 rfl
theorem yI(h:∀ c∈cs,c<ks.length)(hn:cs.length<=1000):qY [tK ks,tN cs]=aa (tK (pick ks cs)):=by
 have:∃ d,qY [tK ks,tN cs]=aa d/\d=tK (pick ks cs):=by
  refine hU rfl (cO (d:=tK (pick ks cs)) (aX (aR (picks h (pG rfl) rfl hn) rfl) rfl) ⟨_,rfl,rfl⟩)
 obtain⟨d,e,rfl⟩:=this;exact e
def ko (a b:aah):aam:=(bD a.length).filter λi=>decide (a.getD i (.inl 0)≠b.getD i (.inl 0))
abbrev lN (cs:aam):aA:=.list (cs.map λ(c:Nat)=>bC c)
theorem UB(h:l.2.length=l'.2.length)(hn:l.2.length<=1000):CB [aO l,aO l']=aa (lN (ko l.2 l'.2)):=by
 have:∃ d,CB [aO l,aO l']=aa d/\d=lN (ko l.2 l'.2):=by
  refine hU rfl (cO (d:=lN (ko l.2 l'.2)) ?_ ⟨_,rfl,rfl⟩);refine iO (xs:=bD l.2.length) (q:=λk=>lT k (kD (l.2.getD k (.inl 0)))) (λi=>decide (l.2.getD i (.inl 0)≠l'.2.getD i (.inl 0))) (λ(i:Nat)=>bC i) (GL kD (.inl 0) (aJ (a:=aO l) (b:=.int 1) rfl rfl rfl)) (by simp;lia) λk mk=>?_
  have hk:k<l.2.length:=hE.1 mk;refine⟨[aa (.int k),aa (kD (l.2.getD k (.inl 0))),aa (aO l')],rfl,cH (aJ (a:=kD (l.2.getD k (.inl 0))) (b:=kD (l'.2.getD k (.inl 0))) rfl (aJ (a:=tK l'.2) (b:=.int k) (aJ (a:=aO l') (b:=.int 1) rfl rfl rfl) rfl (qM ())) (Bh _ _)),λ_=>rfl⟩
 obtain⟨d,e,rfl⟩:=this;exact e
def lE (a b:aG):aD:=if isS a||isS b then "same" else "clash"
theorem Nb (a b:aG):IS [kD a,kD b]=aa (.str (lE a b)):=by
 have:∃ d,IS [kD a,kD b]=aa d/\d=.str (lE a b):=by
  refine hU rfl (cO (d:=.str (lE a b)) ?_ ⟨_,rfl,rfl⟩);cases a<;>cases b<;>rfl
 obtain⟨d,e,rfl⟩:=this;exact e
abbrev bc (ls:aak):aA:=.tuple (ls.map aO)
theorem mT(h:i<ls.length):ai (bc ls) (.int i)=aa (aO (ls.getD i ar)):=qS (by rw[eU,getD_some ar h];rfl)
def stepK (ls:aak)(n i j c:Nat):aA:=.tuple [.str (lE ((ls.getD i ar).2.getD c (.inl 0)) ((ls.getD j ar).2.getD c (.inl 0))),.int n,.int i,.int j,.int c]
theorem Ay(hi:i<ls.length)(hj:j<ls.length)(h1:c<(ls.getD i ar).2.length)(h2:c<(ls.getD j ar).2.length):CF [bc ls,.int n,.int i,.int j,.int c]=aa (stepK ls n i j c):=by
 have:∃ d,CF [bc ls,.int n,.int i,.int j,.int c]=aa d/\d=stepK ls n i j c:=by
  refine hU rfl (cO (d:=stepK ls n i j c) ?_ ⟨_,rfl,rfl⟩);have e1:=aX (fa:=aE (ah ai (ah ai (ah ai (aB 0) (aB 2)) (eC (.int 1))) (aB 4)) (aE (ah ai (ah ai (ah ai (aB 0) (aB 3)) (eC (.int 1))) (aB 4)) aH)) (Y:=vS (EJ (λd=>aa (0,d)) [bc ls,.int n,.int i,.int j,.int c]++oD (5-5) ab))
   (aR (aJ (a:=tK (ls.getD i ar).2) (b:=.int c) (aJ (a:=aO (ls.getD i ar)) (b:=.int 1) (aJ (a:=bc ls) (b:=.int i) rfl rfl (mT hi)) rfl rfl) rfl (qM h1)) (aR (g:=aH) (aJ (a:=tK (ls.getD j ar).2) (b:=.int c) (aJ (a:=aO (ls.getD j ar)) (b:=.int 1) (aJ (a:=bc ls) (b:=.int j) rfl rfl (mT hj)) rfl rfl) rfl (qM h2)) rfl)) (Nb _ _)
  unfold cK;rw[aR e1 (aR (d:=.int n) rfl (aR (d:=.int i) rfl (aR (d:=.int j) rfl (aR (d:=.int c) (g:=aH) rfl rfl))))]
  rfl
 obtain⟨d,e,rfl⟩:=this;exact e
def iJ (t:aD)(c:aam)(l l':Ln):Bool:=decide (l.1=t)&&decide (l'.1=t)&&decide (pick l.2 c=pick l'.2 c)
theorem PP{c:aam}(hr:lX wd (.key t c))(h:hJ wd l)(h':hJ wd l')(hc:c.length<=1000):xQ [bI (.key t c),aO l,aO l']=aa (.bool (iJ t c l l')):=by
 have:∃ d,xQ [bI (.key t c),aO l,aO l']=aa d/\d=.bool (iJ t c l l'):=by
  refine hU rfl ?_
  let S:aQ:=[s0 (bI (.key t c)),s0 (aO l),s0 (aO l')]
  have e1:ah bo (ah ai (aB 1) (eC (.int 0))) (ah ai (aB 0) (eC (.int 1))) (vS S)=aa (.bool (decide (l.1≠t))):=aJ (a:=.str l.1) (b:=.str t) rfl rfl (uS _ _);have e2:ah bo (ah ai (aB 2) (eC (.int 0))) (ah ai (aB 0) (eC (.int 1))) (vS S)=aa (.bool (decide (l'.1≠t))):=aJ (a:=.str l'.1) (b:=.str t) rfl rfl (uS _ _);have tb:bV .s (ck (aj (ah bo (ah ai (aB 1) (eC (.int 0))) (ah ai (aB 0) (eC (.int 1))))) (aj (ah bo (ah ai (aB 2) (eC (.int 0))) (ah ai (aB 0) (eC (.int 1)))))) S=aa (decide (l.1≠t)||decide (l'.1≠t)):=by
   simp only[bV,ck,aj,e1,e2,bR,dg];cases decide (l.1≠t)<;>rfl
  by_cases q1:l.1=t
  .by_cases q2:l'.1=t
   .refine dB (gL (tb.trans (by simp[q1,q2]))) (cO (d:=.bool (iJ t c l l')) ?_ ⟨_,rfl,rfl⟩)
    have k1:=yI (ks:=l.2) (cs:=c) (λx m=>by rw[show l.2.length=wd l.1 from h,q1];exact hr x m) hc
    have k2:=yI (ks:=l'.2) (cs:=c) (λx m=>by rw[show l'.2.length=wd l'.1 from h',q2];exact hr x m) hc
    refine aJ (a:=tK (pick l.2 c)) (b:=tK (pick l'.2 c)) (aX (ds:=[tK l.2,tN c]) rfl k1) (aX (ds:=[tK l'.2,tN c]) rfl k2) ?_;rw[DK];simp[iJ,q1,q2]
   .exact kF (fL (tb.trans (by simp[q2])) (cO (d:=.bool ag) rfl ⟨_,rfl,_,rfl,by simp[iJ,q2]⟩))
  .exact kF (fL (tb.trans (by simp[q1])) (cO (d:=.bool ag) rfl ⟨_,rfl,_,rfl,by simp[iJ,q1]⟩))
 obtain⟨d,e,rfl⟩:=this;exact e
theorem GE {a b:aah}(h:c∈ko a b):c<a.length:=by
 unfold ko at h;exact hE.1 (mH.1 h).1
theorem BW{c:aam}(h:hJ wd l)(h':hJ wd l')(hm:iJ t c l l'=af):l.2.length=l'.2.length:=by
 unfold iJ at hm;simp only[EV,decide_eq_true_eq] at hm;have e1:l.2.length=wd l.1:=h;have e2:l'.2.length=wd l'.1:=h';rw[e1,e2,hm.1.1,hm.1.2]
theorem Ac (cs:aam):bA [lN cs]=aa (.int cs.length):=by simp[bA]
abbrev bx (rs:List Rl):aA:=.list (rs.map bI)
abbrev dr:Rl:=.key "" []
def oe:Rl->Prop
 |.key _ c=>c.length<=1000
 |.pts _ c _ d _=>c.length<=1000/\d.length<=1000
theorem gP {np:Nat}{body:SF}(hl:ds.length=np)(h:Goes body (ds.map (λd=>aa (0,d))++oD (n-np) ab) λo=>o=.rt d):az np n body ds=aa d:=by
 obtain⟨o,e,rfl⟩:=h;exact NP hl e
theorem RU {α:Type}(f:α->Bool):∀ xs:List α,nH (xs.map λx=>.bool (f x))=aa (xs.map f)
 |[]=>rfl
 |x::xs=>by
  show((nH (xs.map λx=>.bool (f x))).bind λbs=>aa (f x::bs))=_
  rw[RU f xs]
  rfl
theorem Ka {α:Type}(f:α->Bool)(xs:List α):AS [.list (xs.map λx=>.bool (f x))]=aa (.bool (xs.all f)):=by
 show((nH (xs.map λx=>.bool (f x))).bind λbs=>aa (eZ (bs.all id)))=_
 rw[RU,bR,wH]
 rfl
theorem YZ (ds:aae)(k:Nat):cutD ds (aa (k:Int)) ab=ds.drop k:=by
 unfold cutD;rw[HT.Avv,HT.A1x];by_cases h:k<=ds.length
 .rw[LZ h,MD (by simp)]
 .rw[Ci (),List.drop_of_length_le (),List.drop_of_length_le ()]
  simp
theorem ZK (ds:aae)(k:Nat):cutD ds ab (aa (k:Int))=ds.take k:=by
 unfold cutD;rw[HT.Avv,HT.A1x];by_cases h:k<=ds.length
 .simp[LZ h]
 .rw[Ci ()]
  simp;rw[MD ()]
theorem uF{i:Int}(h:f Y=aa (.int i)):oS f Y=aa (aa i):=by
 unfold oS;rw[h]
 rfl
theorem Od {ys:aae}(h:xs.length+ys.length<=100000):zK (.tuple xs) (.tuple ys)=aa (.tuple (xs++ys)):=by
 show(if xs.length+ys.length<=sizeLine then aa (fO (xs++ys)) else ab)=_
 rw[if_pos (jI h)]
theorem Nh {ys:aae}(h:xs.length+ys.length<=100000):pK (.list xs) (.list ys)=aa (.list (xs++ys)):=by
 show(if xs.length+ys.length<=sizeLine then aa (kJ (xs++ys)) else ab)=_
 rw[if_pos (jI h)]
theorem uL {m:Md}{t:BF}{F G:SF}{Y:aQ}{b:Bool}(h:bV m t Y=aa b)(h1:b=af->Goes F Y λo=>∃ d,o=.rt d/\P o)(h2:b=ag->Goes G Y P):Goes (aN (ba m t F bN) G) Y P:=by
 cases b with
 |true=>exact kF (fL h (h1 rfl))
 |false=>exact dB (gL h) (h2 rfl)
theorem xM {g:EF}{a b:Int}(h:f Y=aa (.int a))(h2:g Y=aa (.int b))(hb:0<b):ah bK f g Y=aa (.int (a%b)):=by
 refine aJ h h2 ?_;simp[bK,dq,hb]
theorem Js{w:Nat}(h:f Y=aa (.int w))(j:Nat):aj (ah aw f (eC (.int j))) Y=aa (decide (w=j)):=by
 refine cH (aJ (b:=.int j) h rfl ?_);rw[uY]
 congr 2
 rw[decide_eq_decide]
 lia
def nL (w:aD):Option Nat:=if w = "clash" then aa 5 else if w = "same" then aa 5 else if w = "put" then aa 3 else ab
theorem VJ (w:aD):bL (jx mU) (.inr w)=(nL w).map λ(n:Nat)=>bC n:=by
 have c:∀ y:aD,decide (bO (kD (.inr y))=aa (.inr w))=decide (w=y):=λy=>by
  rw[decide_eq_decide];show aa (fX y:aG)=aa (fX w)↔w=y;exact⟨λq=>(zS (fM q)).symm,λq=>by rw[q]⟩
 show((([(kD (.inr "clash"),bC 5),(kD (.inr "same"),.int 5),(kD (.inr "put"),.int 3)]:am).find? λkd=>decide (bO kd.1=aa (.inr w))).map (·.2))=_
 unfold nL;rw[gF,c "clash"];by_cases h1:w = "clash"
 .rw[decide_eq_true h1,if_pos h1];rfl
 .rw[decide_eq_false h1,if_neg h1];show((([(kD (.inr "same"),bC 5),(kD (.inr "put"),.int 3)]:am).find? λkd=>decide (bO kd.1=aa (.inr w))).map (·.2))=_
  rw[gF,c "same"];by_cases h2:w = "same"
  .rw[decide_eq_true h2,if_pos h2];rfl
  .rw[decide_eq_false h2,if_neg h2];show((([(kD (.inr "put"),bC 3)]:am).find? λkd=>decide (bO kd.1=aa (.inr w))).map (·.2))=_
   rw[gF,c "put"];by_cases h3:w = "put"
   .rw[decide_eq_true h3,if_pos h3];rfl
   .rw[decide_eq_false h3,if_neg h3];rfl
def uX:aA->Bool
 |.int i=>decide (0<=i)
 |_=>ag
theorem Xx (d:aA)(h:aB 0 Y=aa d):cZ (aL yM (aE (aB 0) aH)) (ah dw (aB 0) (eC (.int 0))) Y=aa (.bool (uX d)):=by
 have hw:∀ d:aA,yM [d]=aa (.bool (match d with|.int _=>af|_=>ag)):=λd=>by cases d<;>rfl
 have e1:=aX (g:=yM) (aR (g:=aH) h rfl) (hw d);cases d with
 |int i=>exact qT (x:=af) (y:=decide (0<=i)) e1 λ_=>aJ (b:=.int 0) h rfl rfl
 |_=>exact qT (x:=ag) (y:=af) e1 λq=>nomatch q
theorem Ly (w:aD)(xs:aae):ck (cU (aj (bz (cM "tuple") (aB 0)))) (ck (aj (ah aw (aL bA (aE (aB 0) aH)) (eC (.int 0)))) (cU (aj (bz (cM "str") (ah ai (aB 0) (eC (.int 0))))))) (vS [s0 (.tuple (.str w::xs))])=aa ag:=
 mP (x:=ag) (y:=ag) (lJ (x:=af) rfl) λ_=>mP (x:=ag) (y:=ag) ((Js (w:=xs.length+1) (aX (ds:=[.tuple (.str w::xs)]) rfl (xT _)) 0).trans (by simp)) λ_=>lJ (x:=af) (sM (a:=.str w) (aJ (a:=.tuple (.str w::xs)) (b:=.int 0) rfl rfl (qS (j:=0) rfl)) rfl)
theorem VI (w:aD)(xs:aae)(hl:xs.length<=100):CI [.tuple (.str w::xs)]=aa (.bool (decide (nL w=aa (xs.length+1))&&xs.all uX)):=by
 rw[7]
 let R:aQ:=[s0 (.tuple (.str w::xs))]
 refine dB (gL (Ly w xs)) ?_;have i0:ah ai (aB 0) (eC (.int 0)) (vS R)=aa (.str w):=aJ (a:=.tuple (.str w::xs)) (b:=.int 0) rfl rfl (qS (j:=0) rfl);have el:aL bA (aE (aB 0) aH) (vS R)=aa (.int (xs.length+1:Nat)):=aX (ds:=[.tuple (.str w::xs)]) rfl (xT _);have ny:ah (fu af) (ah ai (aB 0) (eC (.int 0))) (eC (.dict (jx mU))) (vS R)=aa (.bool (af != (nL w).isSome)):=by
  refine aJ (b:=.dict (jx mU)) i0 rfl ?_;rw[yD,if_pos (F6 _)];show aa (eZ (af != (bL (jx mU) (.inr w)).isSome))=_;rw[VJ];cases nL w<;>rfl
 have t2:ck (aj (ah (fu af) (ah ai (aB 0) (eC (.int 0))) (eC (.dict (jx mU))))) (aj (ah bo (aL bA (aE (aB 0) aH)) (ah ai (eC (.dict (jx mU))) (ah ai (aB 0) (eC (.int 0)))))) (vS R)=aa (!decide (nL w=aa (xs.length+1))):=by
  cases hp:nL w with
  |none=>
   rw[hp] at ny;exact(mP (x:=af) (y:=af) (cH ny) λq=>nomatch q).trans (by simp)
  |some n=>
   rw[hp] at ny;refine(mP (x:=ag) (y:=decide ((((xs.length+1:Nat):Int))≠(n:Int))) (cH ny) λ_=>cH (aJ (b:=.int n) el (aJ (a:=.dict (jx mU)) (b:=.str w) rfl i0 ?_) (ne_int _ _))).trans ?_
   .show bL (jx mU) (.inr w)=_;rw[VJ,hp]
    rfl
   .rw[Bool.false_or]
    congr 1
    rw[iW];simp
    lia
 refine uL t2 (λq=>?_) (λq=>?_)
 .have:decide (nL w=aa (xs.length+1))=ag:=by simpa using q
  rw[this];exact cO (d:=.bool ag) rfl ⟨_,rfl,rfl⟩
 .have:decide (nL w=aa (xs.length+1))=af:=by simpa using q
  rw[this,Dk];have s:=Iu (f:=aB 0) (Y:=vS R) (ds:=.str w::xs) (lo:=oS (eC (.int 1))) (hi:=oN) rfl (uF (i:=((1:Nat):Int)) rfl) rfl;rw[YZ] at s;have lc:=Jj (cap:=[ab]) (fi:=ay (wQ (aB 0) (oS (eC (.int 1))) oN)) (T:=gB 0) (t:=cE) (f:=cZ (aL yM (aE (aB 0) aH)) (ah dw (aB 0) (eC (.int 0)))) (Y:=vS R) (ds:=xs) (λd=>.bool (uX d)) (pG s) () (λd md=>⟨[aa d],rfl,rfl,Xx d rfl⟩)
  exact cO (d:=.bool (xs.all uX)) (aX (aR lc rfl) (Ka uX xs)) rfl
theorem FT (a b:Nat):dw (.int a) (.int b)=aa (.bool (decide (b<=a))):=by
 show aa (eZ (decide ((a:Int) ≥ (b:Int))))=_
 congr 2
 rw[decide_eq_decide]
 lia
def uN:Rl->aD
 |.key _ _=>"key"
 |.pts _ _ _ _ _=>"points"
theorem Pm (r:Rl):ai (bI r) (.int 0)=aa (.str (uN r)):=by cases r<;>rfl
abbrev df (w:aD)(n i j c:Nat):aA:=.tuple [.str w,.int n,.int i,.int j,.int c]
def rA (ls:aak)(w:aD)(i j c:Nat):Rl->Bool
 |.key t cs=>decide (i<j)&&decide (j<ls.length)&&iJ t cs (ls.getD i ar) (ls.getD j ar)&&decide (c∈ko (ls.getD i ar).2 (ls.getD j ar).2)&&decide (w=lE ((ls.getD i ar).2.getD c (.inl 0)) ((ls.getD j ar).2.getD c (.inl 0)))
 |.pts _ _ _ _ _=>ag
def gV (ls:aak)(rs:List Rl)(w:aD)(n i j c:Nat):Bool:=decide (n<rs.length)&&rA ls w i j c (rs.getD n dr)
def wU (ls:aak)(c:aam)(o:aD)(d:aam)(l:Ln):Bool:=ls.any λl'=>decide (l'.1=o)&&decide (pick l'.2 d=pick l.2 c)
theorem Yk(hl:∀ l∈ls,hJ wd l)(hn:ls.length<=1000){c:aam}{d:aam}{w:Nat}(hr:lX wd (.pts t c o d w))(hc:c.length<=1000)(hd:d.length<=1000)(hw:hJ wd l)(ht:l.1=t) :
  KG [bc ls,bI (.pts t c o d w),aO l]=aa (.bool (wU ls c o d l)):=by
 have:∃ e,KG [bc ls,bI (.pts t c o d w),aO l]=aa e/\e=.bool (wU ls c o d l):=by
  refine hU rfl ?_;have k1:=yI (ks:=l.2) (cs:=c) (λx m=>by rw[show l.2.length=wd l.1 from hw,ht];exact hr.1 x m) hc
  refine cJ (d:=tK (pick l.2 c)) (aX (ds:=[tK l.2,tN c]) rfl k1) (by simp) ?_
  refine cO (d:=.bool (wU ls c o d l)) ?_ ⟨_,rfl,rfl⟩
  let g:Ln->Bool:=λl'=>decide (l'.1=o)&&decide (pick l'.2 d=pick l.2 c)
  have lc:=iO (cap:=[ab,aa 3,aa 1]) (fi:=ay (aB 0)) (T:=gB 0) (t:=cE) (f:=cZ (ah aw (ah ai (aB 0) (eC (.int 0))) (ah ai (aB 2) (eC (.int 3)))) (ah aw (aL qY (aE (ah ai (aB 0) (eC (.int 1))) (aE (ah ai (aB 2) (eC (.int 4))) aH))) (aB 1))) (Y:=vS [s0 (bc ls),s0 (bI (.pts t c o d w)),s0 (aO l),s0 (tK (pick l.2 c))])
   (xs:=ls) (q:=aO) (λ_=>af) (λl'=>.bool (g l')) (pG rfl) () λl' m=>by
    refine⟨[aa (aO l'),aa (tK (pick l.2 c)),aa (bI (.pts t c o d w))],rfl,rfl,λ_=>?_⟩
    have e1:ah aw (ah ai (aB 0) (eC (.int 0))) (ah ai (aB 2) (eC (.int 3))) [aa (aO l'),aa (tK (pick l.2 c)),aa (bI (.pts t c o d w))]=aa (.bool (decide (l'.1=o))):=aJ (a:=.str l'.1) (b:=.str o) rfl rfl (iQ _ _);refine qT e1 λq=>?_
    have q:=of_decide_eq_true q;have k2:=yI (ks:=l'.2) (cs:=d) (λx mx=>by rw[show l'.2.length=wd l'.1 from hl l' m,q];exact hr.2 x mx) hd
    exact aJ (a:=tK (pick l'.2 d)) (b:=tK (pick l.2 c)) (aX (ds:=[tK l'.2,tN d]) rfl k2) rfl (DK _ _)
  refine aX (aR lc rfl) ?_;rw[nD.2 (by simp)]
  show((nH (ls.map λl'=>eZ (g l'))).bind λbs=>aa (eZ (bs.any id)))=_
  have hb:∀ xs:aak,nH (xs.map λx=>eZ (g x))=aa (xs.map g):=λxs=>by
   induction xs with
   |nil=>rfl
   |cons x xs ih=>
    show((nH (xs.map λx=>eZ (g x))).bind λbs=>aa (g x::bs))=_
    rw[ih]
    rfl
  rw[hb,bR,tV]
  rfl
 obtain⟨d,e,rfl⟩:=this;exact e
def oQ (ls:aak)(l:Ln):Rl->Bool
 |.key _ _=>ag
 |.pts t c o d _=>decide (t=l.1)&&!wU ls c o d l
theorem SB(hl:∀ l∈ls,hJ wd l)(hn:ls.length<=1000)(hr:lX wd r)(hc:oe r)(hw:hJ wd l):yQ [bc ls,bI r,aO l]=aa (.bool (oQ ls l r)):=by
 have:∃ e,yQ [bc ls,bI r,aO l]=aa e/\e=.bool (oQ ls l r):=by
  refine hU rfl (cO (d:=.bool (oQ ls l r)) ?_ ⟨_,rfl,rfl⟩)
  let S:aQ:=[s0 (bc ls),s0 (bI r),s0 (aO l)]
  show cZ (ah aw (ah ai (aB 1) (eC (.int 0))) (eC (.str "points"))) _ (vS S)=_;cases r with
  |key t c=>
   have e1:ah aw (ah ai (aB 1) (eC (.int 0))) (eC (.str "points")) (vS [s0 (bc ls),s0 (bI (.key t c)),s0 (aO l)])=aa (.bool ag):=aJ (a:=.str "key") (b:=.str "points") rfl rfl (by rw[iQ,decide_eq_false nofun])
   unfold cZ;rw[e1]
   rfl
  |pts t c o d w=>
   have e1:ah aw (ah ai (aB 1) (eC (.int 0))) (eC (.str "points")) (vS [s0 (bc ls),s0 (bI (.pts t c o d w)),s0 (aO l)])=aa (.bool af):=aJ (a:=.str "points") (b:=.str "points") rfl rfl (by rw[iQ,decide_eq_true rfl])
   have e2:ah aw (ah ai (aB 1) (eC (.int 1))) (ah ai (aB 2) (eC (.int 0))) (vS [s0 (bc ls),s0 (bI (.pts t c o d w)),s0 (aO l)])=aa (.bool (decide (t=l.1))):=aJ (a:=.str t) (b:=.str l.1) rfl rfl (iQ _ _);show _=aa (eZ (af&&(decide (t=l.1)&&!wU ls c o d l)));refine qT e1 λ_=>qT e2 λq=>Mo ?_
   exact aX (ds:=[bc ls,bI (.pts t c o d w),aO l]) rfl (Yk hl hn hr hc.1 hc.2 hw (of_decide_eq_true q).symm)
 obtain⟨d,e,rfl⟩:=this;exact e
def uK (ls:aak)(n:Nat)(t:aD)(c:aam)(i j:Nat):aaf:=if iJ t c (ls.getD i ar) (ls.getD j ar)=af then(ko (ls.getD i ar).2 (ls.getD j ar).2).head?.map (stepK ls n i j) else ab
def sS (ls:aak)(n:Nat)(t:aD)(c:aam):aaf:=(bD ls.length).findSome? λi=>(qO (i+1) ls.length).findSome? λj=>uK ls n t c i j
def fJ:aaf->aA
 |none=>.none
 |some d=>d
theorem GF (n:Nat):cz (.int n) (.int 0)=aa (.bool (decide (0<n))):=by
 show aa (eZ (decide ((0:Int)<(n:Int))))=_
 congr 2
 rw[iW];simp
theorem Ts(hl:∀ l∈ls,hJ wd l)(hw:∀ l∈ls,l.2.length<=1000)(hn:ls.length<=1000){c:aam}(hr:lX wd (.key t c))(hc:c.length<=1000):JZ [bc ls,.int n,bI (.key t c)]=aa (fJ (sS ls n t c)):=by
 have:∃ d,JZ [bc ls,.int n,bI (.key t c)]=aa d/\d=fJ (sS ls n t c):=by
  refine hU rfl ?_
  let A:L2.Slot:=s0 (bc ls)
  let B:L2.Slot:=s0 (.int n)
  let C:L2.Slot:=s0 (bI (.key t c))
  have len_ls:bA [bc ls]=aa (.int ls.length):=by rw[xT,fA]
  refine yA (λY'=>∃ x3 x4 x5 x6:L2.Slot,Y'=[A,B,C,x3,x4,x5,x6]) (sS ls n t c) (sY (xs:=bD ls.length) (q:=λi=>lT i (aO (ls.getD i ar))) (λY'=>∃ x3 x4 x5 x6:L2.Slot,Y'=[A,B,C,x3,x4,x5,x6]) _ (gm (GL aO ar rfl)) ⟨ab,ab,ab,ab,rfl⟩ ?_) ?_ ?_
  .rintro i mi _ ⟨x3,x4,x5,x6,rfl⟩;have hi:i<ls.length:=hE.1 mi;refine⟨[A,B,C,s0 (.int i),s0 (aO (ls.getD i ar)),x5,x6],rfl,?_⟩;refine Goes.mono (sY (xs:=qO (i+1) ls.length) (q:=λ(j:Nat)=>bC j) (λY'=>∃ x5 x6:L2.Slot,Y'=[A,B,C,s0 (.int i),s0 (aO (ls.getD i ar)),x5,x6]) (λj=>uK ls n t c i j) (gm (YY (aR (by simp[az,aN,aU,bB,dS,ba,dE,fI,fK,eB,cV,frz,bN,eV,bV,aV,vS,vA,ah,bz,aB,eC,aL,cK,cD,aE,aH,aj,cU,cT,ck,dg,cZ,fj,eD,cR,fF,dh,cg,getL,dM,outD,ay,itemsOf,bQ,dP,cS,bK,bZ,fC,ff,dq,cy,fy,cz,dw,bA,cM,dW,dz,cY,eJ,eQ,aw,bo,bP,noDict,noDicts,dC,cI,bE,cQ,cB,cE,gB]) (aR (aX (ds:=[bc ls]) rfl len_ls) rfl)) () ())) ⟨x5,x6,rfl⟩ ?_) λo h=>Bbu.turn h λY ⟨x5,x6,e⟩=>⟨_,_,x5,x6,e⟩
   rintro j mj _ ⟨y5,y6,rfl⟩;have hj:=(Aq9.1 mj).2;refine⟨[A,B,C,s0 (.int i),s0 (aO (ls.getD i ar)),s0 (.int j),y6],rfl,?_⟩;have wi:=hl _ (getD_mem ar hi);have wj:=hl _ (getD_mem ar hj);have em:=PP hr wi wj hc;have gj:∀ y,ah ai (aB 0) (aB 5) (vS [A,B,C,s0 (.int i),s0 (aO (ls.getD i ar)),s0 (.int j),y])=aa (aO (ls.getD j ar)):=λy=>aJ (a:=bc ls) (b:=.int j) rfl rfl (mT hj)
   have ec:aj (aL xQ (aE (aB 2) (aE (aB 4) (aE (ah ai (aB 0) (aB 5)) aH)))) (vS [A,B,C,s0 (.int i),s0 (aO (ls.getD i ar)),s0 (.int j),y6])=aa (iJ t c (ls.getD i ar) (ls.getD j ar)):=cH (aX (aR rfl (aR rfl (aR (gj y6) rfl))) em)
   let us:aam:=if iJ t c (ls.getD i ar) (ls.getD j ar)=af then ko (ls.getD i ar).2 (ls.getD j ar).2 else []
   have hu:uK ls n t c i j=us.head?.map (stepK ls n i j):=by
    unfold uK;show _=(if iJ t c (ls.getD i ar) (ls.getD j ar)=af then ko (ls.getD i ar).2 (ls.getD j ar).2 else []).head?.map _
    split<;>rfl
   have au:∀ x∈us,x<(ls.getD i ar).2.length/\x<(ls.getD j ar).2.length:=λx mx=>by
    have mx:x∈(if iJ t c (ls.getD i ar) (ls.getD j ar)=af then ko (ls.getD i ar).2 (ls.getD j ar).2 else []):=mx
    split at mx
    .rename_i hm;have h1:=GE mx;have h2:=BW wi wj hm
     lia
    .simp at mx
   refine cJ (d:=lN us) ?_ (by simp) ?_
   .unfold dh;rw[ec,bR];show(if iJ t c (ls.getD i ar) (ls.getD j ar)=af then _ else _)=aa (lN (if iJ t c (ls.getD i ar) (ls.getD j ar)=af then ko (ls.getD i ar).2 (ls.getD j ar).2 else []))
    split
    .rename_i hm;exact aX (aR rfl (aR (gj y6) rfl)) (UB (BW wi wj hm) (hw _ (getD_mem ar hi)))
    .rfl
   have eg:bV .s (aj (ah cz (aL bA (aE (aB 6) aH)) (eC (.int 0)))) [A,B,C,s0 (.int i),s0 (aO (ls.getD i ar)),s0 (.int j),s0 (lN us)]=aa (decide (0<us.length)):=cH (aJ (a:=.int us.length) (b:=.int 0) (aX (ds:=[lN us]) rfl (Ac us)) rfl (GF _));rw[hu];generalize us=us at au eg;cases us with
   |nil=>exact iB eg (iC ⟨_,.inl rfl,_,_,rfl⟩)
   |cons c0 r=>
    have D1:=au c0 bT;exact fL eg (cO (aX (aR rfl (aR rfl (aR rfl (aR rfl (aR (aJ (a:=lN (c0::r)) (b:=.int 0) rfl rfl (nN (q:=λ(c:Nat)=>bC c) (xs:=c0::r) (j:=0) rfl)) rfl))))) (Ay hi hj D1.1 D1.2)) rfl)
  .intro r pw;exact⟨_,rfl,by rw[pw];rfl⟩
  .rintro hz _ ⟨x3,x4,x5,x6,rfl⟩;exact cO (d:=.none) rfl ⟨_,rfl,by rw[hz];rfl⟩
 obtain⟨d,e,rfl⟩:=this;exact e
abbrev iA (n i:Nat):aA:=.tuple [.str "put",.int n,.int i]
def xB (ls:aak)(rs:List Rl):aaf:=(bD ls.length).findSome? λi=>(bD rs.length).findSome? λn=>if oQ ls (ls.getD i ar) (rs.getD n dr)=af then aa (iA n i) else ab
theorem Rc(hl:∀ l∈ls,hJ wd l)(hn:ls.length<=1000)(hr:∀ r∈rs,lX wd r/\oe r):IM [bc ls,bx rs]=aa (fJ (xB ls rs)):=by
 have:∃ d,IM [bc ls,bx rs]=aa d/\d=fJ (xB ls rs):=by
  refine hU rfl ?_
  let A:L2.Slot:=s0 (bc ls)
  let B:L2.Slot:=s0 (bx rs)
  refine yA (λY'=>∃ x2 x3 x4 x5:L2.Slot,Y'=[A,B,x2,x3,x4,x5]) (xB ls rs) (sY (xs:=bD ls.length) (q:=λi=>lT i (aO (ls.getD i ar))) (λY'=>∃ x2 x3 x4 x5:L2.Slot,Y'=[A,B,x2,x3,x4,x5]) _ (gm (GL aO ar rfl)) ⟨ab,ab,ab,ab,rfl⟩ ?_) ?_ ?_
  .rintro i mi _ ⟨x2,x3,x4,x5,rfl⟩;have hi:i<ls.length:=hE.1 mi;refine⟨[A,B,s0 (.int i),s0 (aO (ls.getD i ar)),x4,x5],rfl,?_⟩;refine Goes.mono (sY (xs:=bD rs.length) (q:=λn=>lT n (bI (rs.getD n dr))) (λY'=>∃ x4 x5:L2.Slot,Y'=[A,B,s0 (.int i),s0 (aO (ls.getD i ar)),x4,x5]) (λn=>if oQ ls (ls.getD i ar) (rs.getD n dr)=af then aa (iA n i) else ab) (gm (QO bI dr rfl)) ⟨x4,x5,rfl⟩ ?_) λo h=>Bbu.turn h λY ⟨x4,x5,e⟩=>⟨_,_,x4,x5,e⟩
   rintro n mn _ ⟨y4,y5,rfl⟩;have sB:n<rs.length:=hE.1 mn;refine⟨[A,B,s0 (.int i),s0 (aO (ls.getD i ar)),s0 (.int n),s0 (bI (rs.getD n dr))],rfl,?_⟩;have D3:=hr _ (getD_mem dr sB);have ew:=SB hl hn D3.1 D3.2 (hl _ (getD_mem ar hi));have tb:bV .s (aj (aL yQ (aE (aB 0) (aE (aB 5) (aE (aB 3) aH))))) [A,B,s0 (.int i),s0 (aO (ls.getD i ar)),s0 (.int n),s0 (bI (rs.getD n dr))]=aa (oQ ls (ls.getD i ar) (rs.getD n dr)):=cH (aX (ds:=[bc ls,bI (rs.getD n dr),aO (ls.getD i ar)]) rfl ew);cases hp:oQ ls (ls.getD i ar) (rs.getD n dr) with
   |true=>exact fL (tb.trans (by rw[hp])) (cO (d:=iA n i) rfl rfl)
   |false=>exact iB (tb.trans (by rw[hp])) (iC ⟨_,.inl rfl,_,_,rfl⟩)
  .intro r pw;exact⟨_,rfl,by rw[pw];rfl⟩
  .rintro hz _ ⟨x2,x3,x4,x5,rfl⟩;exact cO (d:=.none) rfl ⟨_,rfl,by rw[hz];rfl⟩
 obtain⟨d,e,rfl⟩:=this;exact e
def oZ (ls:aak)(n:Nat):Rl->aaf
 |.key t c=>sS ls n t c
 |.pts _ _ _ _ _=>ab
def eO (ls:aak)(rs:List Rl):aaf:=((bD rs.length).findSome? λn=>oZ ls n (rs.getD n dr)).or (xB ls rs)
theorem Wu (t:aaf)(h:∀ d,t=aa d->∃ ds,d=.tuple ds):kP (fJ t) .none=aa (.bool t.isSome):=by
 cases t with
 |none=>rfl
 |some d=>
  obtain⟨ds,rfl⟩:=h d rfl
  rfl
theorem Qt{c:aam}(h:sS ls n t c=aa d):∃ i j k,d=stepK ls n i j k:=by
 unfold sS at h;obtain⟨i,_,h⟩:=rQ h;obtain⟨j,_,h⟩:=rQ h;unfold uK at h;split at h
 .obtain⟨k,_,rfl⟩:=iE.1 h;exact⟨i,j,k,rfl⟩
 .cases h
theorem Ze(h:oZ ls n r=aa d):∃ i j k,d=stepK ls n i j k:=by
 cases r with
 |key t c=>exact Qt h
 |pts t c o e w=>cases h
theorem Jn(hl:∀ l∈ls,hJ wd l)(hw:∀ l∈ls,l.2.length<=1000)(hn:ls.length<=1000)(hr:∀ r∈rs,lX wd r/\oe r)(H:aA):zL [.tuple [H,bc ls],bx rs]=aa (fJ (eO ls rs)):=by
 have:∃ d,zL [.tuple [H,bc ls],bx rs]=aa d/\d=fJ (eO ls rs):=by
  refine hU rfl ?_
  let A:L2.Slot:=s0 (.tuple [H,bc ls])
  let B:L2.Slot:=s0 (bx rs)
  refine yA (λY'=>∃ x2 x3 x4:L2.Slot,Y'=[A,B,x2,x3,x4]) ((bD rs.length).findSome? λn=>oZ ls n (rs.getD n dr)) (sY (xs:=bD rs.length) (q:=λn=>lT n (bI (rs.getD n dr))) (λY'=>∃ x2 x3 x4:L2.Slot,Y'=[A,B,x2,x3,x4]) _ (gm (QO bI dr rfl)) ⟨ab,ab,ab,rfl⟩ ?_) ?_ ?_
  .rintro n mn _ ⟨x2,x3,x4,rfl⟩;have sB:n<rs.length:=hE.1 mn;refine⟨[A,B,s0 (.int n),s0 (bI (rs.getD n dr)),x4],rfl,?_⟩;obtain⟨D4,D5⟩:=hr _ (getD_mem dr sB);generalize rs.getD n dr=r at D4 D5;refine cJ (d:=fJ (oZ ls n r)) ?_ (by simp) ?_
   .cases r with
    |key t c=>
     have e0:aj (ah aw (ah ai (aB 3) (eC (.int 0))) (eC (.str "key"))) (vS [A,B,s0 (.int n),s0 (bI (.key t c)),x4])=aa af:=cH (aJ (a:=.str "key") (b:=.str "key") rfl rfl (by rw[iQ,decide_eq_true rfl]))
     unfold dh;rw[e0,bR,if_pos rfl];exact aX (ds:=[bc ls,.int n,bI (.key t c)]) rfl (Ts hl hw hn D4 D5)
    |pts t c o e w=>
     have e0:aj (ah aw (ah ai (aB 3) (eC (.int 0))) (eC (.str "key"))) (vS [A,B,s0 (.int n),s0 (bI (.pts t c o e w)),x4])=aa ag:=cH (aJ (a:=.str "points") (b:=.str "key") rfl rfl (by rw[iQ,decide_eq_false nofun]))
     unfold dh;rw[e0,bR,if_neg (by simp)]
     rfl
   have tb:bV .s (aj (ah kP (aB 4) (eC .none))) [A,B,s0 (.int n),s0 (bI r),s0 (fJ (oZ ls n r))]=aa (oZ ls n r).isSome:=cH (aJ (a:=fJ (oZ ls n r)) (b:=.none) rfl rfl (Wu _ λd h=>by obtain⟨i,j,k,rfl⟩:=Ze h;exact⟨_,rfl⟩))
   cases hd:oZ ls n r with
   |none=>
    rw[hd] at tb;exact iB tb (iC ⟨_,.inl rfl,_,_,_,rfl⟩)
   |some d=>
    rw[hd] at tb;exact fL tb (cO (d:=d) rfl rfl)
  .intro r pw;exact⟨_,rfl,by unfold eO;rw[pw];rfl⟩
  .rintro hz _ ⟨x2,x3,x4,rfl⟩;refine cO (aX (ds:=[bc ls,bx rs]) rfl (Rc hl hn hr)) ⟨_,rfl,?_⟩;unfold eO;rw[hz]
   rfl
 obtain⟨d,e,rfl⟩:=this;exact e
theorem Gb (c:Nat)(cs:aam):fu ag (.int c) (lN cs)=aa (.bool (decide (c∈cs))):=by
 have nd:noDicts (cs.map λ(c:Nat)=>bC c)=af:=rB λt m=>by
  obtain⟨x,_,rfl⟩:=cG.1 m
  rfl
 show(if (bP (.int c)&&noDicts (cs.map λ(c:Nat)=>bC c))=af then aa (eZ (ag != (cs.map λ(c:Nat)=>bC c).any λz=>bE z (.int c))) else ab)=_
 rw[nd,show bP (.int c)=af from rfl,qB,if_pos rfl]
 congr 2
 rw[tV,iW];simp[bE];constructor
 .rintro⟨x,mx,h⟩;have:x=c:=()
  exact this ▸ mx
 .exact λm=>⟨c,m,rfl⟩
theorem Gz (w w':aD)(n i j c:Nat):aw (df w n i j c) (df w' n i j c)=aa (.bool (decide (w=w'))):=by
 have e1:=sZ (.inr w) (.inr w');show(if (bP (df w n i j c)&&bP (df w' n i j c))=af then aa (eZ (bE (df w n i j c) (df w' n i j c))) else ab)=_
 have ok:∀ w,bP (df w n i j c)=af:=λw=>by simp[bP,noDict,noDicts,dC,cI]
 rw[ok,ok,qB,if_pos rfl]
 congr 2
 have e1:bE (.str w) (.str w')=decide (w=w'):=e1.trans (by simp)
 simp[bE,iU];simpa [bE] using e1
theorem lt_chain {fa fb fc:EF}{a b:Nat}(ha:fa Y=aa (.int a))(hb:fb Y=aa (.int b))(hc:fc Y=aa (.int c)):xC cy cy fa fb fc Y=aa (.bool (decide (a<b)&&decide (b<c))):=by
 unfold xC;rw[ha,hb,hc];show(if decide ((a:Int)<(b:Int))=af then aa (eZ (decide ((b:Int)<(c:Int)))) else aa (eZ ag))=_
 by_cases h:a<b
 .rw[decide_eq_true (),if_pos rfl,decide_eq_true h,Dk]
  congr 2
  rw[decide_eq_decide]
  lia
 .rw[decide_eq_false (),if_neg (by simp),decide_eq_false h,MV]
theorem Sj(hl:∀ l∈ls,hJ wd l)(hw:∀ l∈ls,l.2.length<=1000)(hn:ls.length<=1000)(hr:lX wd r)(hc:oe r)(w:aD)(n i j c:Nat):YK [bc ls,bI r,df w n i j c]=aa (.bool (rA ls w i j c r)):=by
 rw[7]
 let R:aQ:=[s0 (bc ls),s0 (bI r),s0 (df w n i j c),s0 (.int i),s0 (.int j)]
 refine dB (Y':=[s0 (bc ls),s0 (bI r),s0 (df w n i j c),s0 (.int i),ab]) (iY (m:=.s) (aJ (a:=df w n i j c) (b:=.int 2) rfl rfl rfl) (by simp)) ?_
 refine dB (Y':=R) (iY (m:=.s) (aJ (a:=df w n i j c) (b:=.int 3) rfl rfl rfl) (by simp)) ?_
 have r0:ah ai (aB 1) (eC (.int 0)) (vS R)=aa (.str (uN r)):=aJ (a:=bI r) (b:=.int 0) rfl rfl (Pm r);have t0:aj (ah bo (ah ai (aB 1) (eC (.int 0))) (eC (.str "key"))) (vS R)=aa (decide (uN r ≠ "key")):=cH (aJ (b:=.str "key") r0 rfl (uS _ _));cases r with
 |pts t cs o d wd=>
  have t0:aj (ah bo (ah ai (aB 1) (eC (.int 0))) (eC (.str "key"))) (vS R)=aa af:=t0.trans (congrArg aa (decide_eq_true (show("points" : aD) ≠ "key" by rw[0])))
  exact kF (fL (mP (x:=af) (y:=af) t0 λq=>nomatch q) (cO (d:=.bool ag) rfl ⟨_,rfl,rfl⟩))
 |key t cs=>
  have t0:aj (ah bo (ah ai (aB 1) (eC (.int 0))) (eC (.str "key"))) (vS R)=aa ag:=t0.trans (congrArg aa (decide_eq_false (show ¬ ("key" : aD) ≠ "key" by simp)))
  have el:aL bA (aE (aB 0) aH) (vS R)=aa (.int ls.length):=aX (ds:=[bc ls]) rfl (by rw[xT,fA])
  have ch:=lt_chain (Y:=vS R) (fa:=aB 3) (fb:=aB 4) (a:=i) (b:=j) rfl rfl el;by_cases gp:i<j/\j<ls.length
  .have kx:i<ls.length:=()
   have ii:ah ai (aB 0) (aB 3) (vS R)=aa (aO (ls.getD i ar)):=aJ (a:=bc ls) (b:=.int i) rfl rfl (mT kx);have jj:ah ai (aB 0) (aB 4) (vS R)=aa (aO (ls.getD j ar)):=aJ (a:=bc ls) (b:=.int j) rfl rfl (mT gp.2);have D6:=hl _ (getD_mem ar kx);have D7:=hl _ (getD_mem ar gp.2);have em:=PP hr D6 D7 hc;rw[decide_eq_true gp.1,decide_eq_true gp.2] at ch;refine uL (mP (x:=ag) t0 λ_=>mP (x:=ag) (lJ ch) λ_=>lJ (aX (ds:=[bI (.key t cs),aO (ls.getD i ar),aO (ls.getD j ar)]) (aR rfl (aR ii (aR jj rfl))) em)) (λq=>?_) (λq=>?_)
   .have:iJ t cs (ls.getD i ar) (ls.getD j ar)=ag:=by simpa using q
    refine cO (d:=.bool ag) rfl ⟨_,rfl,?_⟩;simp only[rA,this,Bool.and_false,MV]
   .have hm:iJ t cs (ls.getD i ar) (ls.getD j ar)=af:=by simpa using q
    have au:=BW D6 D7 hm;have eu:=UB au (hw _ (getD_mem ar kx));have D8:ah ai (aB 2) (eC (.int 4)) (vS R)=aa (.int c):=aJ (a:=df w n i j c) (b:=.int 4) rfl rfl rfl;have N1:ah ai (aB 2) (eC (.int 1)) (vS R)=aa (.int n):=aJ (a:=df w n i j c) (b:=.int 1) rfl rfl rfl;refine cO (d:=.bool (decide (c∈ko (ls.getD i ar).2 (ls.getD j ar).2)&&decide (w=lE ((ls.getD i ar).2.getD c (.inl 0)) ((ls.getD j ar).2.getD c (.inl 0))))) (qT (aJ D8 (aX (ds:=[aO (ls.getD i ar),aO (ls.getD j ar)]) (aR ii (aR jj rfl)) eu) (Gb c _)) λj8=>?_) ?_
    .have N2:=of_decide_eq_true j8;have h1:=GE N2;exact aJ (a:=df w n i j c) rfl (aX (ds:=[bc ls,.int n,.int i,.int j,.int c]) (aR rfl (aR N1 (aR rfl (aR rfl (aR D8 rfl))))) (Ay kx gp.2 h1 ())) (Gz _ _ _ _ _ _)
    .simp only[rA,hm,decide_eq_true gp.1,decide_eq_true gp.2,Dk]
  .have cf:(decide (i<j)&&decide (j<ls.length))=ag:=by
    cases q:(decide (i<j)&&decide (j<ls.length)) with
    |false=>rfl
    |true=>
     rw[iG] at q;exact absurd ⟨of_decide_eq_true q.1,of_decide_eq_true q.2⟩ gp
   rw[cf] at ch;refine kF (fL (mP (x:=ag) t0 λ_=>mP (x:=af) (y:=af) (lJ ch) λq=>nomatch q) (cO (d:=.bool ag) rfl ⟨_,rfl,?_⟩))
   simp only[rA,cf,MV]
theorem YW (n:Nat):uX (.int n)=af:=by
 show decide ((0:Int)<=(n:Int))=af;exact decide_eq_true ()
theorem Vz(hl:∀ l∈ls,hJ wd l)(hw:∀ l∈ls,l.2.length<=1000)(hn:ls.length<=1000)(hr:∀ r∈rs,lX wd r/\oe r)(u5:w = "same" \/ w = "clash")(n i j c:Nat):JI [bc ls,df w n i j c,bx rs]=aa (.bool (gV ls rs w n i j c)):=by
 have hs:=VI w [.int n,.int i,.int j,.int c] (by simp)
 have hp:nL w=aa 5:=by rcases u5 with rfl|rfl<;>decide +kernel
 have hs:CI [df w n i j c]=aa (.bool af):=by
  rw[hs,hp];simp[YW]
 have yy:decide (w = "put")=ag:=by rcases u5 with rfl|rfl<;>decide +kernel
 rw[7]
 let L:L2.Slot:=s0 (bc ls)
 let ST:L2.Slot:=s0 (df w n i j c)
 let RS:L2.Slot:=s0 (bx rs)
 have i1:∀ x3:L2.Slot,ah ai (aB 1) (eC (.int 1)) (vS [L,ST,RS,x3])=aa (.int n):=λ_=>aJ (a:=df w n i j c) (b:=.int 1) rfl rfl rfl
 have el:aL bA (aE (aB 2) aH) (vS [L,ST,RS,ab])=aa (.int rs.length):=aX (ds:=[bx rs]) rfl (by simp[bA])
 refine uL (mP (x:=ag) (lJ (aX (ds:=[df w n i j c]) rfl hs)) λ_=>cH (aJ (i1 ab) el (FT _ _))) (λq=>?_) (λq=>?_)
 .have:¬ n<rs.length:=by
   have:=of_decide_eq_true (show decide (rs.length<=n)=af by simpa using q)
   lia
  refine cO (d:=.bool ag) rfl ⟨_,rfl,?_⟩;simp[gV,this]
 .have bu:n<rs.length:=by
   have:=of_decide_eq_false (show decide (rs.length<=n)=ag by simpa using q)
   lia
  have hm:=getD_mem dr bu;obtain⟨h1,h2⟩:=hr _ hm;refine dB (Y':=[L,ST,RS,s0 (bI (rs.getD n dr))]) (iY (m:=.s) (aJ (a:=bx rs) (b:=.int n) rfl (i1 ab) (nN (q:=bI) (getD_some dr bu))) (by simp)) ?_
  refine dB (gL ((cH (aJ (a:=.str w) (b:=.str "put") (aJ (a:=df w n i j c) (b:=.int 0) rfl rfl rfl) rfl (iQ _ _))).trans (by rw[yy]))) ?_
  refine cO (d:=.bool (gV ls rs w n i j c)) ((aX (ds:=[bc ls,bI (rs.getD n dr),df w n i j c]) rfl (Sj hl hw hn h1 h2 w n i j c)).trans ?_) rfl;simp[gV,bu]
def gU (g kp k:aG):aG:=if k=g then kp else k
def kO (g kp:aG)(l:Ln):Ln:=(l.1,l.2.map (gU g kp))
abbrev aT (hd:aah)(ls:aak):aA:=.tuple [tK hd,bc ls]
def jW (k:aG):Prop:=eY (kD k)=af
theorem Aa2 (k:aG):bO (kD k)=aa k:=by cases k<;>rfl
theorem Ex (g:aG)(v:aA)(k:aG):bL [(kD g,v)] k=if k=g then aa v else ab:=by
 unfold bL;rw[gF,Aa2];by_cases h:k=g
 .rw[decide_eq_true (by rw[h]),if_pos h];rfl
 .rw[decide_eq_false (λq=>h (fM q).symm),if_neg h];rfl
theorem TH(hl:ks.length<=1000):CC [tK ks,.dict [(kD g,kD kp)]]=aa (tK (ks.map (gU g kp))):=by
 rw[7];have pl:f6 [(kD g,kD kp)]=af:=by cases g<;>rfl
 have lc:=iO (cap:=[ab,aa 1]) (fi:=ay (aB 0)) (T:=gB 0) (t:=cE) (f:=cR (aB 1) (aB 0) (aB 0)) (Y:=vS [s0 (tK ks),s0 (.dict [(kD g,kD kp)])]) (xs:=ks) (q:=kD) (λ_=>af) (λk=>kD (gU g kp k)) (pG rfl) () (λk mk=>⟨[aa (kD k),aa (.dict [(kD g,kD kp)])],rfl,rfl,λ_=>by
  rw[BD (kds:=[(kD g,kD kp)]) (kd:=kD k) (key:=k) rfl rfl (Aa2 k) (x:=kD k) rfl pl,Ex];unfold gU;by_cases h:k=g
  .rw[if_pos h,if_pos h];rfl
  .rw[if_neg h,if_neg h];rfl⟩)
 rw[nD.2 (by simp)] at lc
 refine cO (d:=tK (ks.map (gU g kp))) (aX (aR lc rfl) ?_) rfl;show aa (fO _)=aa (fO _);rw[eN]
 rfl
theorem Sv(hl:ls.length<=1000)(hw:∀ l∈ls,l.2.length<=1000):YH [bc ls,.dict [(kD g,kD kp)]]=aa (bc (ls.map (kO g kp))):=by
 rw[7];have lc:=iO (cap:=[ab,aa 1]) (fi:=ay (aB 0)) (T:=gB 0) (t:=cE) (f:=cK (aE (ah ai (aB 0) (eC (.int 0))) (aE (aL CC (aE (ah ai (aB 0) (eC (.int 1))) (aE (aB 1) aH))) aH))) (Y:=vS [s0 (bc ls),s0 (.dict [(kD g,kD kp)])]) (xs:=ls) (q:=aO) (λ_=>af) (λl=>aO (kO g kp l)) (pG rfl) () (λl ml=>⟨[aa (aO l),aa (.dict [(kD g,kD kp)])],rfl,rfl,λ_=>jQ (ds:=[.str l.1,tK (l.2.map (gU g kp))]) (aR (aJ (a:=aO l) (b:=.int 0) rfl rfl rfl) (aR (aX (ds:=[tK l.2,.dict [(kD g,kD kp)]]) (aR (aJ (a:=aO l) (b:=.int 1) rfl rfl rfl) rfl) (TH (hw l ml))) rfl))⟩)
 rw[nD.2 (by simp)] at lc
 refine cO (d:=bc (ls.map (kO g kp))) (aX (aR lc rfl) ?_) rfl;show aa (fO _)=aa (fO _);rw[eN]
 rfl
def kl (l:Ln):aae:=[.str l.1,tK l.2]
theorem Ia(h:kD a=kD b):a=b:=fM ((Aa2 a).symm.trans ((congrArg bO h).trans (Aa2 b)))
theorem JJ:∀ {xs ys:aah},xs.map kD=ys.map kD->xs=ys
 |[],[],_=>rfl
 |[],y::ys,h=>by cases h
 |x::xs,[],h=>by cases h
 |x::xs,y::ys,h=>by
  rw[dF,dF] at h;injection h with h1 h2;rw[Ia h1,JJ h2]
theorem Nq(h:kl l=kl l'):l=l':=by
 unfold kl at h;injection h with h1 h2;injection h1 with h1;injection h2 with h2;injection h2 with h2;exact EE h1 (JJ h2)
theorem RY:∀ (ls aq:aak),(ls.map kl).foldl uC (aq.map kl)=(ls.foldl fS aq).map kl
 |[],aq=>rfl
 |l::ls,aq=>by
  rw[dF,wD,wD,<-RY ls]
  congr 1
  unfold uC fS;by_cases h:l∈aq
  .rw[if_pos h,if_pos (cG.2 ⟨l,h,rfl⟩)]
  .rw[if_neg h,if_neg (λm=>by
    obtain⟨x,mx,e⟩:=cG.1 m;exact h (Nq e ▸ mx)),hW]
   rfl
def oY (l:Ln):Prop:=eY (.str l.1)=af/\∀ k∈l.2,jW k
theorem Nk(h:oY l):cW (kl l)=af/\cI (kl l)<=6:=by
 have h1:cW (l.2.map kD)=af:=BV λt m=>by
  obtain⟨k,mk,rfl⟩:=cG.1 m;have:=h.2 k mk;cases k with
  |inl i=>rfl
  |inr z=>simpa [bU,kD,jW] using this
 have h2:=yP l.2;constructor
 .have:=h.1;simp[kl,cW,bU,h1];exact this
 .simp[kl,cI,dC]
  lia
theorem VE(h:∀ l∈ls,oY l)(hl:ls.length<=1000):sW [bc ls]=aa (bc (dU ls)):=by
 have e:=Kf (kss:=ls.map kl) (λk m=>by
  obtain⟨l,ml,rfl⟩:=cG.1 m;exact Nk (h l ml)) (by simp;lia)
 have e1:(ls.map kl).map fO=ls.map aO:=by rw[eN];rfl
 have e2:(qH (ls.map kl)).map fO=(dU ls).map aO:=by
  have:=RY ls [];unfold qH dU;rw[show([]:ld)=([]:aak).map kl from rfl,this,eN]
  rfl
 rw[e1,e2] at e;exact e
def eM (a b:aG):aG:=if isS b=af then b else a
def eK (a b:aG):aG:=if isS b=af then a else b
theorem Uz (k:aG):∃ v,FZ (kD k)=aa v:=by cases k<;>exact⟨_,rfl⟩
theorem OH {fv:EF}{v:aG}(h1:fk Y=aa (kD k))(h2:fv Y=aa (kD v)):rj fk fv Y=aa (.dict [(kD k,kD v)]):=by
 obtain⟨x,e⟩:=Uz v;unfold rj;rw[h1,bR,Aa2,bR,h2,bR,e]
 rfl
theorem QU(h1:jW kp)(h2:jW k):jW (gU g kp k):=by
 unfold gU;split
 .exact h1
 .exact h2
theorem Li(hh:hd.length<=1000)(hl:ls.length<=1000)(hw:∀ l∈ls,l.2.length<=1000)(hy:∀ l∈ls,oY l)(ha:jW a)(hb:jW b):XY [aT hd ls,kD a,kD b]=aa (aT (hd.map (gU (eM a b) (eK a b))) (dU (ls.map (kO (eM a b) (eK a b))))):=by
 rw[7]
 let A:L2.Slot:=s0 (aT hd ls)
 have hk:jW (eK a b):=by unfold eK;split<;>assumption
 have e0:dh (aj (bz (cM "str") (aB 2))) (rj (aB 2) (aB 1)) (rj (aB 1) (aB 2)) (vS [A,s0 (kD a),s0 (kD b),ab])=aa (.dict [(kD (eM a b),kD (eK a b))]):=by
  have et:aj (bz (cM "str") (aB 2)) (vS [A,s0 (kD a),s0 (kD b),ab])=aa (isS b):=cH (sM (a:=kD b) rfl (GM b));unfold dh eM eK;rw[et];cases isS b with
  |true=>exact OH (fk:=aB 2) (fv:=aB 1) (Y:=vS [A,s0 (kD a),s0 (kD b),ab]) (k:=b) (v:=a) rfl rfl
  |false=>exact OH (fk:=aB 1) (fv:=aB 2) (Y:=vS [A,s0 (kD a),s0 (kD b),ab]) (k:=a) (v:=b) rfl rfl
 refine dB (Y':=[A,s0 (kD a),s0 (kD b),s0 (.dict [(kD (eM a b),kD (eK a b))])]) (iY (m:=.s) e0 (by simp)) ?_
 generalize eM a b=g;generalize eK a b=kp at hk;have o:=VE (ls:=ls.map (kO g kp)) (λl m=>by
  obtain⟨x,mx,rfl⟩:=cG.1 m;refine⟨(hy x mx).1,λk mk=>?_⟩
  obtain⟨y,my,rfl⟩:=cG.1 mk;exact QU hk ((hy x mx).2 y my)) (by simpa using hl)
 refine cO (d:=aT (hd.map (gU g kp)) (dU (ls.map (kO g kp)))) (jQ (ds:=[tK (hd.map (gU g kp)),bc (dU (ls.map (kO g kp)))]) (aR (aX (ds:=[tK hd,.dict [(kD g,kD kp)]]) (aR (aJ (a:=aT hd ls) (b:=.int 0) rfl rfl rfl) rfl) (TH hh)) (aR (aX (ds:=[bc (ls.map (kO g kp))]) (aR (aX (ds:=[bc ls,.dict [(kD g,kD kp)]]) (aR (aJ (a:=aT hd ls) (b:=.int 1) rfl rfl rfl) rfl) (Sv hl hw)) rfl) o) rfl))) rfl
theorem yG (l l':Ln):bE (aO l) (aO l')=decide (l=l'):=by
 have e1:=sZ (.inr l.1) (.inr l'.1);have e1:bE (.str l.1) (.str l'.1)=decide (l.1=l'.1):=e1.trans (by simp)
 have e2:=vL l.2 l'.2;have:bE (aO l) (aO l')=(bE (.str l.1) (.str l'.1)&&iU (l.2.map kD) (l'.2.map kD)):=by
  simp[aO,bE,iU]
 rw[this,e1,e2,iW];simp[Prod.ext_iff]
theorem BG (l:Ln):noDict (aO l)=af/\(aO l).depth<=5:=by
 have h1:=yS l.2;have h2:=yP l.2;constructor
 .simp[aO,noDict,noDicts,h1]
 .simp[aO,dC,cI]
  lia
instance memLn (a:Ln)(xs:aak):Decidable (a∈xs):=e8 _
theorem TU (neg:Bool)(l:Ln)(ls:aak):fu neg (aO l) (.list (ls.map aO))=aa (.bool (neg != decide (l∈ls))):=by
 have nd:noDicts (ls.map aO)=af:=rB λt m=>by
  obtain⟨x,_,rfl⟩:=cG.1 m;exact(BG x).1
 have eo:bP (aO l)=af:=by
  have:=BG l;simp[bP,this.1]
  lia
 show(if (bP (aO l)&&noDicts (ls.map aO))=af then aa (eZ (neg != (ls.map aO).any λz=>bE z (aO l))) else ab)=_
 rw[nd,eo,qB,if_pos rfl]
 congr 3
 rw[tV,iW,nE,decide_eq_true_eq];constructor
 .rintro⟨x,mx,h⟩;have h:bE (aO x) (aO l)=af:=h;rw[yG] at h;exact of_decide_eq_true h ▸ mx
 .intro m;refine⟨l,m,?_⟩;show bE (aO l) (aO l)=af;rw[yG];simp
def nS (i:Nat):aD:=("n" : aD)++(toString (i:Int):aD)
theorem QK:∀ i:Fin 200,(toString ((i.val:Nat):Int):aD).length<=4/\(nS i).length<=5/\eY (.str (toString ((i.val:Nat):Int)))=af/\eY (.str (nS i))=af/\((i.val:Nat):Int).natAbs.log2<1920:=by rw[0]
theorem Wf:((bD 200).map nS).Nodup:=by rw[0]
theorem IL {α β:Type}{f:α->β}:∀ {xs:List α},(xs.map f).Nodup->∀ a∈xs,∀ b∈xs,f a=f b->a=b
 |[],_,a,ma,_,_,_=>by simp at ma
 |x::xs,h,a,ma,b,mb,e=>by
  rw[dF,gZ] at h;rcases dJ.1 ma with ea|ma1
  .rcases dJ.1 mb with eb|mb1
   .rw[ea,eb]
   .exact absurd (cG.2 ⟨b,mb1,by rw[<-e,ea]⟩) h.1
  .rcases dJ.1 mb with eb|mb1
   .exact absurd (cG.2 ⟨a,ma1,by rw[e,eb]⟩) h.1
   .exact IL h.2 a ma1 b mb1 e
theorem Ag(hi:i<200)(hj:j<200)(h:nS i=nS j):i=j:=IL Wf i (hE.2 hi) j (hE.2 hj) h
theorem Zu {P:Nat->Prop}[DecidablePred P]{ks:aah}(h:∀ i,¬ P i->fX (nS i)∈ks){n:Nat}(hn:ks.length+n<200):n<=((lR 1 (ks.length+n)).filter λi=>decide (P i)).length:=by
 have h1:((lR 1 (ks.length+n)).filter λi=>!decide (P i)).length<=ks.length:=by
  have:=Cu (l₁:=((lR 1 (ks.length+n)).filter λi=>!decide (P i)).map λi=>(fX (nS i):aG)) (l₂:=ks) ?_ ?_
  .simpa using this
  .have nd:((lR 1 (ks.length+n)).filter λi=>!decide (P i)).Nodup:=Ct _ List.nodup_range'
   have bu:∀ i∈(lR 1 (ks.length+n)).filter λi=>!decide (P i),i<200:=λi m=>by
    have:=Cn.1 (mH.1 m).1
    lia
   generalize((lR 1 (ks.length+n)).filter λi=>!decide (P i))=L at nd bu
   clear h hn;induction L with
   |nil=>exact ME
   |cons x L ih=>
    rw[gZ] at nd;rw[dF,gZ];refine⟨λm=>?_,ih nd.2 λi m=>bu i (cL _ m)⟩
    obtain⟨y,my,e⟩:=cG.1 m;have:=Ag (bu y (cL _ my)) (bu x bT) (zS e);exact nd.1 (this ▸ my)
  .intro k m;obtain⟨i,mi,rfl⟩:=cG.1 m;have:=(mH.1 mi).2;exact h i (by simpa using this)
 have h2:∀ L:aam,(L.filter λi=>decide (P i)).length+(L.filter λi=>!decide (P i)).length=L.length:=λL=>by
  induction L with
  |nil=>rfl
  |cons x L ih=>
   rw[wF,wF];by_cases q:P x<;>simp[q]<;>lia
 have:=h2 (lR 1 (ks.length+n));rw[Co] at this
 lia
def iL:List (Option aG)->aam->aah
 |[],_=>[]
 |some k::r,ns=>k::iL r ns
 |none::r,n::ns=>.inr (nS n)::iL r ns
 |none::r,[]=>.inl 0::iL r []
def mergeF {β:Type}(ps:List (Nat×β))(f:Nat->Option β):Nat->Option β:=ps.foldl (λf p=>λx=>if x=p.1 then aa p.2 else f x) f
theorem JH {β:Type}:∀ {ps:List (Nat×β)} {f:Nat->Option β} {x:Nat},(∀ p∈ps,p.1≠x)->mergeF ps f x=f x
 |[],_,_,_=>rfl
 |p::ps,f,x,h=>by
  show mergeF ps (λx=>if x=p.1 then aa p.2 else f x) x=_
  rw[JH λq m=>h q (cL _ m),if_neg λe=>h p bT e.symm]
abbrev Ade (f:Nat->Option aG)(cs:aam):aam:=cs.filter λc=>(f c).isNone
abbrev i8 (ns:aam):aah:=ns.map λn=>.inr (nS n)
theorem JM:∀ {cs:aam} {f:Nat->Option aG} {ns:aam},cs.Nodup->(Ade f cs).length<=ns.length->cs.map (mergeF ((Ade f cs).zip (i8 ns)) f)=(iL (cs.map f) ns).map aa
 |[],_,_,_,_=>rfl
 |c::cs,f,ns,nd,h=>by
  rw[gZ] at nd;cases hf:f c with
  |some k=>
   have e:Ade f (c::cs)=Ade f cs:=by simp[Ade,hf]
   rw[e] at h ⊢;rw[dF,dF,hf,JM nd.2 h,JH,hf]
   .rfl
   .intro p m e;have:=(mH.1 (wB m).1).1;exact nd.1 (e ▸ this)
  |none=>
   have e:Ade f (c::cs)=c::Ade f cs:=by simp[Ade,hf]
   rw[e] at h ⊢;cases ns with
   |nil=>simp at h
   |cons n ns=>
    let g:Nat->Option aG:=λx=>if x=c then aa (.inr (nS n)) else f x
    have gf:∀ x∈cs,g x=f x:=λx m=>if_neg λ(e:x=c)=>nd.1 (e ▸ m)
    have e1:Ade g cs=Ade f cs:=List.filter_congr λx m=>by rw[gf x m]
    have e2:cs.map g=cs.map f:=kZ gf;have ih:=JM (cs:=cs) (f:=g) (ns:=ns) nd.2 (by rw[e1];simp at h;lia)
    rw[e1,e2] at ih;have e3:mergeF ((c::Ade f cs).zip (i8 (n::ns))) f=mergeF ((Ade f cs).zip (i8 ns)) g:=rfl;rw[e3,dF,dF,hf,ih,JH]
    .simp[g,iL]
    .intro p m e;have:=(mH.1 (wB m).1).1;exact nd.1 (e ▸ this)
theorem vJ:∀ (r:List (Option aG)) (ns:aam),(iL r ns).length=r.length
 |[],_=>rfl
 |some k::r,ns=>by simp[iL,vJ r ns]
 |none::r,n::ns=>by simp[iL,vJ r ns]
 |none::r,[]=>by simp[iL,vJ r []]
abbrev KB (ks:aah):am:=ks.map λk=>(kD k,eZ af)
abbrev KP (ks:aah):aaa:=ks.map λk=>(k,eZ af)
theorem ZM (ks:aah)(k:aG):((KB ks).any λkd=>decide (bO kd.1=aa k))=decide (k∈ks):=by
 rw[tV,iW,nE,decide_eq_true_eq];constructor
 .rintro⟨x,m,h⟩;have h:bO (kD x)=aa k:=by simpa using h
  rw[L2.Aa2] at h;exact fM h ▸ m
 .exact λm=>⟨k,m,by simp[L2.Aa2]⟩
theorem Lm (ks:aah)(k:aG):(bL (KB ks) k).isSome=decide (k∈ks):=by
 rw[<-ZM];unfold bL;rw[LX,iW,List.find?_isSome,nE]
theorem Kt (ks:aah)(k:aG):putD (KB ks) k (.bool af)=KB (fS ks k):=by
 unfold putD fS;rw[ZM];by_cases h:k∈ks
 .rw[if_pos (decide_eq_true h),if_pos h,eN];refine kZ λx m=>?_
  show(if bO (kD x)=aa k then(kD x,eZ af) else(kD x,eZ af))=_
  split<;>rfl
 .rw[if_neg (by simp[h]),if_neg h]
  exact(hW (f:=λk=>(kD k,eZ af)) (l₁:=ks) (l₂:=[k])).symm
theorem IA:∀ (xs aq:aah),gE (KP xs) (KB aq)=KB (xs.foldl fS aq)
 |[],_=>rfl
 |x::xs,aq=>by
  show gE (KP xs) (putD (KB aq) x (.bool af))=_;rw[Kt,IA xs]
  rfl
theorem Bd:∀ xs:aah,rZ (xs.map λk=>.tuple [kD k,.bool af])=aa (KP xs)
 |[]=>rfl
 |x::xs=>by
  show((bO (kD x)).bind λk=>(rZ (xs.map λk=>.tuple [kD k,.bool af])).bind λps=>aa ((k,eZ af)::ps))=_
  rw[L2.Aa2,Bd xs]
  rfl
theorem PF:∀ xs:aah,nR (KB xs)=aa (KP xs)
 |[]=>rfl
 |x::xs=>by
  show((bO (kD x)).bind λk=>(nR (KB xs)).bind λps=>aa ((k,eZ af)::ps))=_
  rw[L2.Aa2,PF xs]
  rfl
theorem KL (ks:aah):f6 (KB ks)=af:=by
 cases ks with
 |nil=>rfl
 |cons k ks=>cases k<;>rfl
theorem Au {xs:aah}(h:fi Y=aa (xs.map kD))(hl:xs.length<=1000) :
  aL xA (aE (du [ab] fi (gB 0) cE (cK (aE (aB 0) (aE (eC (.bool af)) aH)))) aH) Y=aa (.dict (KB (dU xs))):=by
 have lc:=iO (cap:=[ab]) (fi:=fi) (T:=gB 0) (t:=cE) (f:=cK (aE (aB 0) (aE (eC (.bool af)) aH))) (Y:=Y) (xs:=xs) (q:=kD) (λ_=>af) (λk=>.tuple [kD k,.bool af]) h () (λk m=>⟨[aa (kD k)],rfl,rfl,λ_=>jQ (ds:=[kD k,.bool af]) rfl⟩)
 rw[nD.2 (by simp)] at lc
 refine aX (aR lc rfl) ?_;show((rZ (xs.map λk=>.tuple [kD k,.bool af])).bind λps=>aa (ED (gE ps [])))=_
 rw[Bd,bR,show([]:am)=KB [] from rfl,IA]
 rfl
theorem Hu {Y:aQ}{aq:aah}(h:f (vS Y)=aa (.dict (KB ks)))(hg:dM i Y=aa (KB aq))(hl:aq.length+ks.length<=1000)(k:P (.nx (Y.set i (aa (1,.dict (KB (ks.foldl fS aq))))))):Goes (uB i .s f) Y P:=⟨_,by
 unfold uB;rw[show eV 0 .s f Y=f (vS Y) from rfl,h,bR,hg,bR]
 show((nR (KB ks)).bind λps=>if f6 (KB ks)=af/\(KB aq).length+(KB ks).length<=sizeLine then aa (Out.nx (Y.set i (aa (1,.dict (gE ps (KB aq)))))) else ab)=_
 rw[PF,bR,if_pos ⟨KL ks,by rw[fA,fA];exact jI ()⟩,IA],k⟩
theorem Fx(h:f Y=aa (.int i))(hi:i<200):vh "n" f Y=aa (.str (nS i)):=by
 obtain⟨h1,h2,h3,h4,h5⟩:=QK ⟨i,hi⟩;unfold vh;rw[h,bR];show(if ((i:Nat):Int).natAbs.log2<1920/\(("n" : aD)++(toString ((i:Nat):Int):aD)).length<=1000/\eY (.str (("n" : aD)++(toString ((i:Nat):Int):aD)))=af then aa (jK (("n" : aD)++(toString ((i:Nat):Int):aD))) else ab)=_
 have qd:(nS i).length<=5:=h2;rw[if_pos ⟨h5,by show(nS i).length<=1000;lia,h4⟩]
 rfl
def frees (tk:aah)(n:Nat):aam:=(lR 1 (tk.length+n)).filter λi=>decide (¬ fX (nS i)∈tk)
abbrev lK (ks:aah):aA:=.list (ks.map kD)
theorem Zv (ks:aah)(m:Nat):cutD (ks.map kD) ab (aa (m:Int))=(ks.take m).map kD:=by rw[ZK,MF]
theorem Te(hh:hd.length<=4)(h6:∀ l∈ls,l.2.length<=3)(wg:ls.length<=24):∃ tk:aah,(∀ k,k∈tk↔k∈hd\/∃ l∈ls,k∈l.2)/\tk.length<=76/\∀ n:Nat,n<=6->yW [aT hd ls,.int n]=aa (lK (i8 ((frees tk n).take n))):=by
 let st:aah->Ln->aah:=λaq l=>(dU l.2).foldl fS aq
 have hmem:∀ (xs:aak) (aq:aah) (k:aG),k∈xs.foldl st aq↔k∈aq\/∃ l∈xs,k∈l.2:=λxs=>by
  induction xs with
  |nil=>intro aq k;simp
  |cons x xs ih=>
   intro aq k;rw[wD,ih];show k∈(dU x.2).foldl fS aq\/_↔_;rw[IZ,Acs];simp[or_assoc]
 have au:∀ (xs:aak) (aq:aah),(∀ l∈xs,l.2.length<=3)->(xs.foldl st aq).length<=aq.length+3*xs.length:=λxs=>by
  induction xs with
  |nil=>intro aq _;simp
  |cons x xs ih=>
   intro aq hx;rw[wD];have h1:=ih (st aq x) λl m=>hx l (cL _ m)
   have h2:=pI (dU x.2) aq;have h3:=pI x.2 [];have h4:=hx x bT;have h5:(st aq x).length=((dU x.2).foldl fS aq).length:=rfl;have h6:(dU x.2).length=(x.2.foldl fS []).length:=rfl;rw[fZ];simp at h3
   lia
 have h0:(dU hd).length<=4:=by
  have:=pI hd [];have e:(dU hd).length=(hd.foldl fS []).length:=rfl;simp at this
  lia
 refine⟨ls.foldl st (dU hd),λk=>by rw[hmem,Acs],by have:=au ls (dU hd) h6;lia,λn hn=>?_⟩
 have hK:=au ls (dU hd) h6;have yz:∀ tk,tk=ls.foldl st (dU hd)->Goes JX [s0 (aT hd ls),s0 (.int n),ab,ab,ab] λo=>o=.rt (lK (i8 ((frees tk n).take n))):=λtk qg=>by
  let A:L2.Slot:=s0 (aT hd ls)
  let M:L2.Slot:=s0 (.int n)
  refine cJ (n:=1) (Au (xs:=hd) (Y:=vS [A,M,ab,ab,ab]) (pG (aJ (a:=aT hd ls) (b:=.int 0) rfl rfl rfl)) ()) (by simp) ?_
  refine fW (λY'=>∃ x3:L2.Slot,Y'=[A,M,aa (1,.dict (KB tk)),x3,ab]) ?_ ?_
  .refine Nc (xs:=ls) (q:=aO) (b0:=dU hd) st (λm aq Y'=>∃ x3:L2.Slot,aq.length<=4+3*m/\Y'=[A,M,aa (1,.dict (KB aq)),x3,ab]) (gm (pG (aJ (a:=aT hd ls) (b:=.int 1) rfl rfl rfl))) ⟨ab,(),rfl⟩ ?_ ?_
   .rintro m l aq _ hx ⟨x3,ee,rfl⟩;have hm:m<ls.length:=(eW.1 hx).1;have ml:=jE hx;refine⟨[A,M,aa (1,.dict (KB aq)),s0 (aO l),ab],rfl,?_⟩;have hl6:=h6 l ml;have hl:(dU l.2).length<=3:=by
     have h3:=pI l.2 [];have e:(dU l.2).length=(l.2.foldl fS []).length:=rfl;simp at h3
     lia
    have h2:=pI (dU l.2) aq;have h5:(st aq l).length=((dU l.2).foldl fS aq).length:=rfl;exact Hu (Au (xs:=l.2) (Y:=vS [A,M,aa (1,.dict (KB aq)),s0 (aO l),ab]) (pG (aJ (a:=aO l) (b:=.int 1) rfl rfl rfl)) ()) rfl () ⟨_,.inl rfl,s0 (aO l),(),rfl⟩
   .rintro _ ⟨x3,_,rfl⟩;exact⟨_,rfl,x3,by rw[qg]⟩
  rintro _ ⟨x3,rfl⟩;refine jH ?_;have N3:tk.length<=76:=by rw[qg];lia
  let D:L2.Slot:=s0 (.dict (KB tk))
  have up:qO 1 (tk.length+n+1)=lR 1 (tk.length+n):=by
   unfold qO;rw[List.range'_eq_map_range,Nat.add_sub_cancel]
  have ir:=YY (fa:=aE (eC (.int 1)) (aE (ah bQ (ah bQ (aL bA (aE (aB 2) aH)) (aB 1)) (eC (.int 1))) aH)) (Y:=vS [A,M,D,x3,ab]) (lo:=1) (n:=tk.length+n+1) (aR (d:=.int ((1:Nat):Int)) rfl (aR (aJ (a:=.int ((tk.length+n:Nat):Int)) (b:=.int 1) (aJ (a:=.int tk.length) (b:=.int n) (aX (ds:=[.dict (KB tk)]) rfl (by simp[bA,KL])) rfl rfl) rfl rfl) rfl)) () ()
  rw[up] at ir;have D9:=iO (cap:=[ab]) (fi:=rn (aE (eC (.int 1)) (aE (ah bQ (ah bQ (aL bA (aE (aB 2) aH)) (aB 1)) (eC (.int 1))) aH))) (T:=gB 0) (t:=cE) (f:=vh "n" (aB 0)) (Y:=vS [A,M,D,x3,ab]) (xs:=lR 1 (tk.length+n)) (q:=λ(k:Nat)=>bC k) (λ_=>af) (λi=>.str (nS i)) ir (by rw[Co];lia) (λi m=>⟨[aa (.int i)],rfl,rfl,λ_=>Fx (i:=i) rfl (by have:=Cn.1 m;lia)⟩)
  rw[show(lR 1 (tk.length+n)).filter (λ_=>af)=lR 1 (tk.length+n) from nD.2 (λ_ _=>rfl)] at D9
  let NM:L2.Slot:=s0 (.list ((lR 1 (tk.length+n)).map λi=>.str (nS i)))
  refine cJ (Y:=[A,M,D,x3,ab]) (n:=1) D9 (by simp) (jH ?_)
  have Ev:=iO (cap:=[ab,aa 2]) (fi:=ay (aB 4)) (T:=gB 0) (t:=aj (ah (fu af) (aB 0) (aB 1))) (f:=aB 0) (Y:=vS [A,M,D,x3,NM]) (xs:=lR 1 (tk.length+n)) (q:=λi=>.str (nS i)) (λi=>decide (¬ fX (nS i)∈tk)) (λi=>kD (.inr (nS i))) (pH rfl) (by rw[Co];lia) (λi m=>⟨[aa (.str (nS i)),aa (.dict (KB tk))],rfl,cH (aJ (a:=.str (nS i)) (b:=.dict (KB tk)) rfl rfl (by
   rw[yD,if_pos (KL tk)];show aa (eZ (af != (bL (KB tk) (.inr (nS i))).isSome))=_;rw[Lm];simp)),λ_=>rfl⟩)
  have e3:((lR 1 (tk.length+n)).filter λi=>decide (¬ fX (nS i)∈tk)).map (λi=>kD (.inr (nS i)))=(i8 (frees tk n)).map kD:=by
   rw[eN]
   rfl
  rw[e3] at Ev;have sl:=xG Ev (lo:=oN) (hi:=oS (aB 1)) (l:=ab) rfl (uF (i:=(n:Int)) rfl);rw[Zv] at sl;refine cO sl ?_;rw[<-MF]
 have:=yz _ rfl;exact gP rfl this
theorem Xi (kds:am)(k k':aG)(v:aA):bL (putD kds k v) k'=if k'=k then aa v else bL kds k':=by
 unfold putD;by_cases h:(kds.any λkd=>decide (bO kd.1=aa k))=af
 .rw[if_pos h];unfold bL;rw[List.find?_map];have hp:((λkd:aA×aA=>decide (bO kd.1=aa k'))∘λkd=>if bO kd.1=aa k then(kd.1,v) else kd)=λkd=>decide (bO kd.1=aa k'):=by
   funext kd;show decide (bO (if bO kd.1=aa k then(kd.1,v) else kd).1=aa k')=_
   split<;>rfl
  rw[hp];by_cases e:k'=k
  .subst e;rw[if_pos rfl];obtain⟨kd,m,hk⟩:=nE.1 h;cases hf:kds.find? λkd=>decide (bO kd.1=aa k') with
   |none=>exact absurd hk (by simpa using EO.1 hf kd m)
   |some q=>
    have:=MJ hf;have:=of_decide_eq_true this;simp[this]
  .rw[if_neg e];cases hf:kds.find? λkd=>decide (bO kd.1=aa k') with
   |none=>rfl
   |some q=>
    have:=MJ hf;have:=of_decide_eq_true this;simp[this,e]
 .rw[if_neg h];unfold bL;rw[List.find?_append];by_cases e:k'=k
  .subst e;have hf:(kds.find? λkd=>decide (bO kd.1=aa k'))=ab:=EO.2 λkd m q=>h (nE.2 ⟨kd,m,q⟩)
   rw[hf,if_pos rfl];simp[L2.Aa2]
  .rw[if_neg e];cases hf:kds.find? λkd=>decide (bO kd.1=aa k') with
   |none=>simp[L2.Aa2,kY e]
   |some q=>rfl
abbrev iK (x:Nat):aG:=.inl (x:Int)
abbrev kz (d:aam)(vs:aae):aaa:=(d.map iK).zip vs
theorem HD:∀ (d:aam) (vs:aae) (kds:am) (x:Nat),bL (gE (kz d vs) kds) (iK x)=mergeF (d.zip vs) (λy=>bL kds (iK y)) x
 |[],_,_,_=>rfl
 |_::_,[],_,_=>rfl
 |c::d,v::vs,kds,x=>by
  show bL (gE (kz d vs) (putD kds (iK c) v)) (iK x)=mergeF (d.zip vs) (λy=>if y=c then aa v else bL kds (iK y)) x
  rw[HD d vs]
  congr 1
  funext y;rw[Xi];have:iK y=iK c↔y=c:=⟨λe=>by have:=LQ e;lia,λe=>by rw[e]⟩
  simp only[this]
theorem JK {α β:Type}(g:α->β):∀ (ps:aam) (vs:List α) (f:Nat->Option α) (x:Nat),mergeF (ps.zip (vs.map g)) (λy=>(f y).map g) x=(mergeF (ps.zip vs) f x).map g
 |[],_,_,_=>rfl
 |_::_,[],_,_=>rfl
 |c::d,v::vs,f,x=>by
  show mergeF (d.zip (vs.map g)) (λy=>if y=c then aa (g v) else(f y).map g) x=(mergeF (d.zip vs) (λy=>if y=c then aa v else f y) x).map g
  rw[<-JK g d vs]
  congr 1
  funext y;split<;>rfl
theorem Iy(h:∀ kd∈kds,kd.1 ≠ .none)(k:aG)(v:aA):∀ kd∈putD kds k v,kd.1 ≠ .none:=by
 unfold putD;split
 .intro kd m;obtain⟨q,mq,rfl⟩:=cG.1 m;split
  .exact h q mq
  .exact h q mq
 .intro kd m;rcases fP.1 m with m|m
  .exact h kd m
  .rw[fN.1 m];cases k<;>simp[kD]
theorem ID:∀ (ps:aaa) {kds:am},(∀ kd∈kds,kd.1 ≠ .none)->∀ kd∈gE ps kds,kd.1 ≠ .none
 |[],_,h=>h
 |p::ps,_,h=>ID ps (Iy h p.1 p.2)
theorem NW(h:∀ kd∈kds,kd.1 ≠ .none):f6 kds=af:=by
 cases kds with
 |nil=>rfl
 |cons p r=>
  obtain⟨k,v⟩:=p;have:=h _ bT;cases k<;>simp_all[f6]
theorem WI:∀ (ps:aaa) (aq:am),(ps.map (·.1)).Nodup->(∀ p∈ps,∀ kd∈aq,bO kd.1≠aa p.1)->gE ps aq=aq++ps.map λp=>(kD p.1,p.2)
 |[],aq,_,_=>by simp[gE]
 |p::ps,aq,nd,h=>by
  rw[dF,gZ] at nd;have e:putD aq p.1 p.2=aq++[(kD p.1,p.2)]:=by
   unfold putD;rw[if_neg];intro q;obtain⟨kd,m,hk⟩:=nE.1 q;exact h p bT kd m (of_decide_eq_true hk)
  show gE ps (putD aq p.1 p.2)=_;rw[e,WI ps _ nd.2]
  .simp
  .intro q mq kd m;rcases fP.1 m with m|m
   .exact h q (cL _ mq) kd m
   .rw[fN.1 m];show bO (kD p.1)≠_;rw[L2.Aa2];exact λe=>nd.1 (cG.2 ⟨q,mq,(fM e).symm⟩)
theorem QP:∀ ps:aaa,nR (ps.map λp=>(kD p.1,p.2))=aa ps
 |[]=>rfl
 |p::ps=>by
  show((bO (kD p.1)).bind λk=>(nR (ps.map λp=>(kD p.1,p.2))).bind λqs=>aa ((k,p.2)::qs))=_
  rw[L2.Aa2,QP ps]
  rfl
theorem QY:∀ d:aam,rX (d.map λ(c:Nat)=>bC c)=aa (d.map iK)
 |[]=>rfl
 |c::d=>by
  show((bO (.int c)).bind λk=>(rX (d.map λ(c:Nat)=>bC c)).bind λks=>aa (k::ks))=_
  rw[QY d]
  rfl
theorem RK {x y:aA}{d:aam}{vs:aae}(hx:mC x=aa (d.map λ(c:Nat)=>bC c))(hy:mC y=aa vs)(hl:d.length<=1000):sU [x,y]=aa (.dict (gE (kz d vs) [])):=by
 show((mC x).bind λxs=>(mC y).bind λys=>(rX xs).bind λks=>if xs.length<=sizeLine then aa (ED (gE (ks.zip ys) [])) else ab)=_
 rw[hx,hy,bR,bR,QY,bR,if_pos (jI (by simp;lia))]
theorem Qw (ps:aaa):∀ kds:am,(gE ps kds).length<=kds.length+ps.length:=by
 induction ps with
 |nil=>exact λkds=>bS _
 |cons p ps ih=>
  intro kds;have h1:=ih (putD kds p.1 p.2);have h2:(putD kds p.1 p.2).length<=kds.length+1:=by
   unfold putD;split<;>simp
  show(gE ps (putD kds p.1 p.2)).length<=_;rw[fZ]
  lia
abbrev nV (ks:aah)(c d:aam):Nat->Option aG:=mergeF (d.zip (pick ks c)) λ_=>ab
theorem map_getD {α:Type}(z:α):∀ R:List α,(bD R.length).map (λx=>R.getD x z)=R:=λR=>by
 refine Cs λi=>?_
 rw[eU];by_cases h:i<R.length
 .rw[pU h,jU h];simp[h]
 .rw[List.getElem?_eq_none (by simp;lia),List.getElem?_eq_none ()]
  rfl
theorem Uc{c d:aam}{w:Nat}{tk:aah}{nums:aam}(hc:∀ x∈c,x<l.2.length)(ua:c.length<=1000)(y7:d.length<=1000)(hw:w<=6)(wg:ls.length<=24)
  (hn:nums.length=(Ade (nV l.2 c d) (bD w)).length) (hN:yW [aT hd ls,.int (Ade (nV l.2 c d) (bD w)).length]=aa (lK (i8 nums))) :
  XM [aT hd ls,bI (.pts t c o d w),aO l]=aa (aT hd (ls++[(o,iL ((bD w).map (nV l.2 c d)) nums)])):=by
 rw[7];generalize sk:Ade (nV l.2 c d) (bD w)=fr at hn hN;generalize hf:nV l.2 c d=f at sk
 let A:L2.Slot:=s0 (aT hd ls)
 let R:L2.Slot:=s0 (bI (.pts t c o d w))
 let L:L2.Slot:=s0 (aO l)
 let DD:am:=gE (kz d ((pick l.2 c).map kD)) []
 have m3:∀ x:Nat,bL DD (iK x)=(f x).map kD:=λx=>by
  rw[<-hf];show bL (gE (kz d ((pick l.2 c).map kD)) []) (iK x)=_;rw[HD];exact JK kD d (pick l.2 c) (λ_=>ab) x
 have y8:f6 DD=af:=NW (ID _ λ_ m=>by simp at m)
 have EQ:DD.length<=1000:=by
  show(gE (kz d ((pick l.2 c).map kD)) []).length<=1000;have:=Qw (kz d ((pick l.2 c).map kD)) [];have h2:(kz d ((pick l.2 c).map kD)).length<=d.length:=by
   rw[zW,fA];exact Nat.min_le_left _ _
  simp only[List.length_nil,Nat.zero_add] at this
  lia
 refine cJ (n:=1) (d:=.dict DD) (aX (ds:=[tN d,tK (pick l.2 c)]) (aR (aJ (a:=bI (.pts t c o d w)) (b:=.int 4) rfl rfl rfl) (aR (aX (ds:=[tK l.2,tN c]) rfl (yI hc ua)) rfl)) (RK rfl rfl y7)) (by simp) ?_
 let Y1:aQ:=[A,R,L,aa (1,.dict DD),ab,ab]
 have iw:∀ σ:bd,σ[1]?=aa (aa (bI (.pts t c o d w)))->i7 (aE (ah ai (aB 1) (eC (.int 5))) aH) σ=aa ((bD w).map λ(k:Nat)=>bC k):=λσ h=>nM (aR (aJ (a:=bI (.pts t c o d w)) (b:=.int 5) (by unfold aB;rw[h];rfl) rfl rfl) rfl) ()
 have lc:=iO (cap:=[ab,aa 3]) (fi:=i7 (aE (ah ai (aB 1) (eC (.int 5))) aH)) (T:=gB 0) (t:=aj (ah (fu af) (aB 0) (aB 1))) (f:=aB 0) (Y:=vA Y1) (xs:=bD w) (q:=λ(k:Nat)=>bC k) (λx=>(f x).isNone) (λ(x:Nat)=>bC x) (iw _ rfl) (by simp;lia) (λx m=>⟨[aa (.int x),aa (.dict DD)],rfl,cH (aJ (a:=.int x) (b:=.dict DD) rfl rfl (by
  rw[yD,if_pos y8];show aa (eZ (af != (bL DD (iK x)).isSome))=_;rw[m3];cases f x<;>rfl)),λ_=>rfl⟩)
 have N4:(bD w).filter (λx=>(f x).isNone)=fr:=sk
 rw[N4] at lc;have N5:cQ 1 (lN fr)=af:=by
  show(fr.map λ(c:Nat)=>bC c).all (cQ 0)=af
  rw[wH];exact iV.2 λ_ _=>rfl
 refine dB (Y':=[A,R,L,aa (1,.dict DD),aa (1,lN fr),ab]) (iY (m:=.a) (n:=1) (wo lc N5) (by simp)) ?_
 refine jH ?_
 let Y2:aQ:=[A,R,L,aa (1,.dict DD),s0 (lN fr),ab]
 show Goes _ Y2 _;have N6:fr.length<=6:=by
  rw[<-sk];exact kK (zX _ _) (by simpa using hw)
 have nd:(fr.map iK).Nodup:=by
  have h1:fr.Nodup:=by rw[<-sk];exact Ct _ List.nodup_range
  refine(Ck).2 (h1.imp λh e=>h ?_)
  have:=LQ e
  lia
 have hm:(kz fr ((i8 nums).map kD)).map (·.1)=fr.map iK:=List.map_fst_zip (by simp;lia)
 have eE:gE (kz fr ((i8 nums).map kD)) []=(kz fr ((i8 nums).map kD)).map λp=>(kD p.1,p.2):=by
  rw[WI _ [] (by rw[hm];exact nd) λ_ _ _ m=>by simp at m]
  simp
 have u1:aL sU (aE (aB 4) (aE (aL yW (aE (aB 0) (aE (aL bA (aE (aB 4) aH)) aH))) aH)) (vS Y2)=aa (.dict ((kz fr ((i8 nums).map kD)).map λp=>(kD p.1,p.2))):=by
  rw[<-eE];exact aX (ds:=[lN fr,lK (i8 nums)]) (aR rfl (aR (aX (ds:=[aT hd ls,.int fr.length]) (aR rfl (aR (aX (ds:=[lN fr]) rfl (by simp[bA])) rfl)) hN) rfl)) (RK rfl rfl ())
 let D2:am:=gE (kz fr ((i8 nums).map kD)) DD
 refine dB (Y':=[A,R,L,aa (1,.dict D2),s0 (lN fr),ab]) (by
  unfold uB;rw[show eV 0 .s (aL sU (aE (aB 4) (aE (aL yW (aE (aB 0) (aE (aL bA (aE (aB 4) aH)) aH))) aH))) Y2=aa (.dict ((kz fr ((i8 nums).map kD)).map λp=>(kD p.1,p.2))) from u1,bR,show dM 3 Y2=aa DD from rfl,bR]
  show((nR ((kz fr ((i8 nums).map kD)).map λp=>(kD p.1,p.2))).bind λps=>if f6 ((kz fr ((i8 nums).map kD)).map λp=>(kD p.1,p.2))=af/\DD.length+((kz fr ((i8 nums).map kD)).map λp=>(kD p.1,p.2)).length<=sizeLine then aa (Out.nx (Y2.set 3 (aa (1,.dict (gE ps DD))))) else ab)=_
  rw[QP,bR,if_pos ⟨by rw[<-eE];exact NW (ID _ λ_ m=>by simp at m),by
   rw[fA,zW,fA];exact jI (by have:=Nat.min_le_left fr.length ((i8 nums).map kD).length;lia)⟩]
  rfl) ?_
 refine jH ?_
 let Y3:aQ:=[A,R,L,s0 (.dict D2),s0 (lN fr),ab]
 show Goes _ Y3 _;have u6:∀ x:Nat,bL D2 (iK x)=(mergeF (fr.zip (i8 nums)) f x).map kD:=λx=>by
  show bL (gE (kz fr ((i8 nums).map kD)) DD) (iK x)=_;rw[HD,show(λy=>bL DD (iK y))=λy=>(f y).map kD from funext m3]
  exact JK kD fr (i8 nums) f x
 let Rw:aah:=iL ((bD w).map f) nums
 have N7:Rw.length=w:=by
  show(iL ((bD w).map f) nums).length=w;rw[vJ];simp
 have E1:=JM (cs:=bD w) (f:=f) (ns:=nums) List.nodup_range (by rw[show Ade f (bD w)=fr from sk,hn];exact bS _)
 rw[show Ade f (bD w)=fr from sk] at E1
 have ze:=iO (cap:=[ab,aa 3]) (fi:=i7 (aE (ah ai (aB 1) (eC (.int 5))) aH)) (T:=gB 0) (t:=cE) (f:=ah ai (aB 1) (aB 0)) (Y:=vS Y3) (xs:=bD w) (q:=λ(k:Nat)=>bC k) (λ_=>af) (λx=>kD (Rw.getD x (.inl 0))) (iw _ rfl) (by simp;lia) (λx m=>⟨[aa (.int x),aa (.dict D2)],rfl,rfl,λ_=>aJ (a:=.dict D2) (b:=.int x) rfl rfl (by
  show bL D2 (iK x)=_;have hx:x<w:=hE.1 m;have h1:=congrArg (λL=>L[x]?) E1
  simp only[eU,pU hx,vY] at h1;have h2:Rw[x]?=aa (Rw.getD x (.inl 0)):=getD_some _ ()
  rw[show iL ((bD w).map f) nums=Rw from rfl,h2] at h1
  rw[u6,fM h1]
  rfl)⟩)
 rw[show(bD w).filter (λ_=>af)=bD w from nD.2 (λ_ _=>rfl)] at ze
 have e5:(bD w).map (λx=>kD (Rw.getD x (.inl 0)))=Rw.map kD:=by
  have:=congrArg (EJ kD) (map_getD (.inl 0:aG) Rw);rw[N7,eN] at this;exact this
 rw[e5] at ze;refine cJ (d:=aO (o,Rw)) (jQ (ds:=[.str o,tK Rw]) (aR (aJ (a:=bI (.pts t c o d w)) (b:=.int 3) rfl rfl rfl) (aR (aX (aR ze rfl) rfl) rfl))) (by simp[Y3]) ?_
 refine cO (d:=aT hd (ls++[(o,Rw)])) ?_ rfl;refine(jQ (ds:=[tK hd,.tuple (ls.map aO++[aO (o,Rw)])]) (aR (aJ (a:=aT hd ls) (b:=.int 0) rfl rfl rfl) (aR (aJ (a:=bc ls) (b:=.tuple [aO (o,Rw)]) (aJ (a:=aT hd ls) (b:=.int 1) rfl rfl rfl) (jQ (ds:=[aO (o,Rw)]) rfl) (Od (by simp;lia))) rfl))).trans ?_
 show _=aa (fO [tK hd,.tuple ((ls++[(o,Rw)]).map aO)]);rw[hW]
 rfl
abbrev bY (ls:aak)(i c:Nat):aG:=(ls.getD i ar).2.getD c (.inl 0)
abbrev zM (hd:aah)(a b:aG):aah:=hd.map (gU (eM a b) (eK a b))
abbrev sA (ls:aak)(a b:aG):aak:=dU (ls.map (kO (eM a b) (eK a b)))
def qG (hd:aah)(ls:aak)(w:aD)(i j c:Nat):aA:=if w = "clash" then aT hd ls else aT (zM hd (bY ls i c) (bY ls j c)) (sA ls (bY ls i c) (bY ls j c))
structure Now (wd:aD->Nat)(hd:List aG)(ls:List Ln):Prop where
 lw:∀ l∈ls,hJ wd l
 six:∀ l∈ls,l.2.length<=3
 few:ls.length<=24
 lay:∀ l∈ls,oY l
 hd4:hd.length<=4
def Fh (wd:aD->Nat):Rl->Prop
 |.key _ _=>True
 |.pts _ _ o _ w=>w=wd o/\w<=3/\eY (.str o)=af
def ij (wd:aD->Nat)(r:Rl):Prop:=lX wd r/\oe r/\Fh wd r
def kE (ls:aak)(rs:List Rl)(n i:Nat):Bool:=decide (n<rs.length)&&(decide (i<ls.length)&&oQ ls (ls.getD i ar) (rs.getD n dr))
theorem tM(W:Now wd hd ls)(h:gV ls rs w n i j c=af):i<j/\j<ls.length/\c<(ls.getD i ar).2.length/\c<(ls.getD j ar).2.length/\w=lE (bY ls i c) (bY ls j c):=by
 unfold gV at h;rw[iG] at h;generalize rs.getD n dr=r at h;cases r with
 |pts t cs o d wd=>cases h.2
 |key t cs=>
  have h2:(decide (i<j)&&decide (j<ls.length)&&iJ t cs (ls.getD i ar) (ls.getD j ar)&&decide (c∈ko (ls.getD i ar).2 (ls.getD j ar).2)&&decide (w=lE (bY ls i c) (bY ls j c)))=af:=h.2;rw[iG,iG,iG,iG] at h2;obtain⟨⟨⟨⟨h1,h3⟩,h4⟩,h5⟩,h6⟩:=h2;have h1:=of_decide_eq_true h1;have h3:=of_decide_eq_true h3;have h5:=of_decide_eq_true h5;have au:=BW (W.lw _ (getD_mem ar (show i<ls.length by lia))) (W.lw _ (getD_mem ar h3)) h4
  have hc:=GE h5;exact⟨h1,h3,hc,(),of_decide_eq_true h6⟩
theorem xJ(W:Now wd hd ls)(hi:i<ls.length)(hc:c<(ls.getD i ar).2.length):jW (bY ls i c):=(W.lay _ (getD_mem ar hi)).2 _ (getD_mem _ hc)
theorem UZ(W:Now wd hd ls)(hr:∀ r∈rs,lX wd r/\oe r)(h:gV ls rs w n i j c=af):lL [aT hd ls,df w n i j c,bx rs]=aa (qG hd ls w i j c):=by
 obtain⟨h1,h2,h3,h4,h5⟩:=tM W h;have u5:w = "same" \/ w = "clash":=by
  rw[h5];unfold lE;split
  .exact .inl rfl
  .exact .inr rfl
 have m4:=Vz W.lw (λl m=>by have:=W.six l m;lia) (by have:=W.few;lia) hr u5 n i j c
 rw[h] at m4;rw[7]
 let A:L2.Slot:=s0 (aT hd ls)
 let ST:L2.Slot:=s0 (df w n i j c)
 let RS:L2.Slot:=s0 (bx rs)
 let R:aQ:=[A,ST,RS,s0 (bc ls)]
 refine dB (Y':=R) (iY (m:=.s) (aJ (a:=aT hd ls) (b:=.int 1) rfl rfl rfl) (by simp)) ?_
 refine dB (Y':=R) (gL (lJ (x:=af) (aX (ds:=[bc ls,df w n i j c,bx rs]) rfl m4))) ?_;have i0:ah ai (aB 1) (eC (.int 0)) (vS R)=aa (.str w):=aJ (a:=df w n i j c) (b:=.int 0) rfl rfl rfl;refine uL (cH (aJ (b:=.str "clash") i0 rfl (iQ _ _))) (λq=>?_) (λq=>?_)
 .refine cO (d:=aT hd ls) rfl ⟨_,rfl,?_⟩;unfold qG;rw[if_pos (of_decide_eq_true q)]
 .have N8:=of_decide_eq_false q;have hp:decide (w = "put")=ag:=by rcases u5 with rfl|rfl<;>decide +kernel
  refine dB (Y':=R) (gL ((cH (aJ (b:=.str "put") i0 rfl (iQ _ _))).trans (by rw[hp]))) ?_
  have kx:i<ls.length:=()
  have i4:ah ai (aB 1) (eC (.int 4)) (vS R)=aa (.int c):=aJ (a:=df w n i j c) (b:=.int 4) rfl rfl rfl;have ea:ah ai (ah ai (ah ai (aB 3) (ah ai (aB 1) (eC (.int 2)))) (eC (.int 1))) (ah ai (aB 1) (eC (.int 4))) (vS R)=aa (kD (bY ls i c)):=aJ (a:=tK (ls.getD i ar).2) (aJ (a:=aO (ls.getD i ar)) (b:=.int 1) (aJ (a:=bc ls) (b:=.int i) rfl (aJ (a:=df w n i j c) (b:=.int 2) rfl rfl rfl) (mT kx)) rfl rfl) i4 (qM h3);have eb:ah ai (ah ai (ah ai (aB 3) (ah ai (aB 1) (eC (.int 3)))) (eC (.int 1))) (ah ai (aB 1) (eC (.int 4))) (vS R)=aa (kD (bY ls j c)):=aJ (a:=tK (ls.getD j ar).2) (aJ (a:=aO (ls.getD j ar)) (b:=.int 1) (aJ (a:=bc ls) (b:=.int j) rfl (aJ (a:=df w n i j c) (b:=.int 3) rfl rfl rfl) (mT h2)) rfl rfl) i4 (qM h4);have es:=Li (hd:=hd) (ls:=ls) (by have:=W.hd4;lia) (by have:=W.few;lia) (λl m=>by have:=W.six l m;lia) W.lay (xJ W kx h3) (xJ W h2 h4)
  refine cO (d:=qG hd ls w i j c) ((aX (ds:=[aT hd ls,kD (bY ls i c),kD (bY ls j c)]) (aR rfl (aR ea (aR eb rfl))) es).trans ?_) rfl;unfold qG;rw[if_neg N8]
theorem Vh (n i:Nat):CI [iA n i]=aa (.bool af):=by
 rw[VI "put" [.int n,.int i] (by simp),show nL "put" = aa 3 by rw[0]]
 simp[YW]
theorem Ou (W:Now wd hd ls)(hr:∀ r∈rs,ij wd r)(n i:Nat):JI [bc ls,iA n i,bx rs]=aa (.bool (kE ls rs n i)):=by
 have wg:=W.few;rw[7]
 let L:L2.Slot:=s0 (bc ls)
 let ST:L2.Slot:=s0 (iA n i)
 let RS:L2.Slot:=s0 (bx rs)
 have i1:∀ x3:L2.Slot,ah ai (aB 1) (eC (.int 1)) (vS [L,ST,RS,x3])=aa (.int n):=λ_=>aJ (a:=iA n i) (b:=.int 1) rfl rfl rfl
 have el:aL bA (aE (aB 2) aH) (vS [L,ST,RS,ab])=aa (.int rs.length):=aX (ds:=[bx rs]) rfl (by simp[bA])
 refine uL (mP (x:=ag) (lJ (aX (ds:=[iA n i]) rfl (Vh n i))) λ_=>cH (aJ (i1 ab) el (FT _ _))) (λq=>?_) (λq=>?_)
 .have:¬ n<rs.length:=by
   have:=of_decide_eq_true (show decide (rs.length<=n)=af by simpa using q)
   lia
  refine cO (d:=.bool ag) rfl ⟨_,rfl,?_⟩;simp[kE,this]
 .have bu:n<rs.length:=by
   have:=of_decide_eq_false (show decide (rs.length<=n)=ag by simpa using q)
   lia
  obtain⟨h1,h2,_⟩:=hr _ (getD_mem dr bu)
  let R:aQ:=[L,ST,RS,s0 (bI (rs.getD n dr))]
  refine dB (Y':=R) (iY (m:=.s) (aJ (a:=bx rs) (b:=.int n) rfl (i1 ab) (nN (q:=bI) (getD_some dr bu))) (by simp)) ?_
  refine kF (fL ((cH (aJ (a:=.str "put") (b:=.str "put") (aJ (a:=iA n i) (b:=.int 0) rfl rfl rfl) rfl (iQ _ _))).trans (by simp)) ?_)
  have ei:ah ai (aB 1) (eC (.int 2)) (vS R)=aa (.int i):=aJ (a:=iA n i) (b:=.int 2) rfl rfl rfl;have e0:ah cy (ah ai (aB 1) (eC (.int 2))) (aL bA (aE (aB 0) aH)) (vS R)=aa (.bool (decide (i<ls.length))):=aJ (b:=.int ls.length) ei (aX (ds:=[bc ls]) rfl (by rw[xT,fA])) (by
   show aa (eZ (decide ((i:Int)<(ls.length:Int))))=_
   congr 2
   rw[decide_eq_decide]
   lia)
  refine cO (d:=.bool (decide (i<ls.length)&&oQ ls (ls.getD i ar) (rs.getD n dr))) (qT e0 λhi=>?_) ⟨_,rfl,by simp[kE,bu]⟩
  have hi:=of_decide_eq_true hi;exact aX (ds:=[bc ls,bI (rs.getD n dr),aO (ls.getD i ar)]) (aR rfl (aR rfl (aR (aJ (a:=bc ls) rfl ei (mT hi)) rfl))) (SB W.lw () h1 h2 (W.lw _ (getD_mem ar hi)))
theorem yJ(hr:∀ r∈rs,ij wd r)(h:kE ls rs n i=af):n<rs.length/\i<ls.length/\∃ t c o d w,rs.getD n dr=.pts t c o d w/\t=(ls.getD i ar).1/\(∀ x∈c,x<wd t)/\(∀ x∈d,x<w)/\c.length<=1000/\d.length<=1000/\w=wd o/\w<=3/\eY (.str o)=af:=by
 unfold kE at h;simp only[iG,decide_eq_true_iff] at h;obtain⟨h1,h2,h3⟩:=h;obtain⟨k1,k2,k3⟩:=hr _ (getD_mem dr h1);refine⟨h1,h2,?_⟩;generalize rs.getD n dr=r at *;cases r with
 |key t c=>cases h3
 |pts t c o d w=>
  simp only[oQ,iG,decide_eq_true_iff] at h3;refine⟨t,c,o,d,w,rfl,h3.1,k1.1,λx m=>?_,k2.1,k2.2,k3.1,k3.2⟩
  rw[k3.1];exact k1.2 x m
def lV:List (Option aG)->Nat
 |[]=>0
 |some _::r=>lV r
 |none::r=>lV r+1
theorem JB:∀ {r:List (Option aG)} {ns:aam} {k:aG},lV r<=ns.length->k∈iL r ns->aa k∈r\/∃ n∈ns,k=.inr (nS n)
 |[],_,_,_,m=>by cases m
 |some x::r,ns,k,h,m=>by
  rcases dJ.1 m with rfl|m
  .exact .inl bT
  .exact(JB (by simpa [lV] using h) m).imp (cL _) id
 |none::r,n::ns,k,h,m=>by
  rcases dJ.1 m with rfl|m
  .exact .inr ⟨n,bT,rfl⟩
  .exact(JB (by simp[lV] at h;lia) m).imp (cL _) λ⟨x,mx,e⟩=>⟨x,cL _ mx,e⟩
 |none::r,[],k,h,m=>by simp[lV] at h
theorem CK (f:Nat->Option aG):∀ cs:aam,lV (cs.map f)=(Ade f cs).length
 |[]=>rfl
 |c::cs=>by
  rw[dF];cases hf:f c with
  |some k=>simp[lV,Ade,hf,CK f cs]
  |none=>simp[lV,Ade,hf,CK f cs]
theorem VP {β:Type}:∀ {ps:List (Nat×β)} {f:Nat->Option β} {x:Nat} {b:β},mergeF ps f x=aa b->f x=aa b\/∃ p∈ps,p.2=b
 |[],_,_,_,h=>.inl h
 |p::ps,f,x,b,h=>by
  rcases VP (ps:=ps) (f:=λx=>if x=p.1 then aa p.2 else f x) (x:=x) h with h|⟨q,mq,e⟩
  .by_cases hx:x=p.1
   .rw[if_pos hx] at h;exact .inr ⟨p,bT,fM h⟩
   .rw[if_neg hx] at h;exact .inl h
  .exact .inr ⟨q,cL _ mq,e⟩
def DJ (hd:aah)(ls:aak)(rs:List Rl)(n i:Nat)(l':Ln):Prop:=∃ t c o d w nums,rs.getD n dr=.pts t c o d w/\l'=(o,iL ((bD w).map (nV (ls.getD i ar).2 c d)) nums)/\nums.Nodup/\(∀ x∈nums,x<200/\∀ k,(k∈hd\/∃ l∈ls,k∈l.2)->k ≠ .inr (nS x))/\lV ((bD w).map (nV (ls.getD i ar).2 c d))<=nums.length
theorem VC (W:Now wd hd ls)(hr:∀ r∈rs,ij wd r)(h:kE ls rs n i=af):∃ l':Ln,lL [aT hd ls,iA n i,bx rs]=aa (aT hd (ls++[l']))/\hJ wd l'/\l'.2.length<=3/\oY l'/\DJ hd ls rs n i l':=by
 obtain⟨hn,hi,t,c,o,d,w,er,et,hc,gn,ua,y7,zf,hw,B9⟩:=yJ hr h;have p6:(ls.getD i ar).2.length=wd (ls.getD i ar).1:=W.lw _ (getD_mem ar hi);have g8:∀ x∈c,x<(ls.getD i ar).2.length:=λx m=>by rw[p6,<-et];exact hc x m
 obtain⟨tk,qg,N9,hN⟩:=Te (hd:=hd) W.hd4 W.six W.few;generalize hm:(Ade (nV (ls.getD i ar).2 c d) (bD w)).length=m;have hm6:m<=3:=by
  rw[<-hm];exact kK (zX _ _) (by simpa using hw)
 have u7:=Zu (P:=λx=>¬ (fX (nS x):aG)∈tk) (ks:=tk) (λx q=>Classical.byContradiction q) (n:=m) ()
 let nums:aam:=(frees tk m).take m
 have zg:nums.length=m:=by
  show((frees tk m).take m).length=m;rw[EK];exact LZ u7
 have bu:∀ x∈nums,x<190:=λx mx=>by
  have:=Cn.1 (mH.1 (EI mx)).1
  lia
 refine⟨(o,iL ((bD w).map (nV (ls.getD i ar).2 c d)) nums),?_,?_,?_,⟨B9,λk mk=>?_⟩,t,c,o,d,w,nums,er,rfl,?_,λx mx=>⟨by have:=bu x mx;lia,λk hk e=>?_⟩,by rw[CK,hm,zg];exact bS _⟩
 .rw[7]
  let A:L2.Slot:=s0 (aT hd ls)
  let ST:L2.Slot:=s0 (iA n i)
  let RS:L2.Slot:=s0 (bx rs)
  let R:aQ:=[A,ST,RS,s0 (bc ls)]
  refine dB (Y':=R) (iY (m:=.s) (aJ (a:=aT hd ls) (b:=.int 1) rfl rfl rfl) (by simp)) ?_
  refine dB (gL (lJ (x:=af) (aX (ds:=[bc ls,iA n i,bx rs]) rfl ((Ou W hr n i).trans (by rw[h]))))) ?_
  have i0:ah ai (aB 1) (eC (.int 0)) (vS R)=aa (.str "put"):=aJ (a:=iA n i) (b:=.int 0) rfl rfl rfl;refine dB (gL ((cH (aJ (b:=.str "clash") i0 rfl (iQ _ _))).trans (congrArg aa (decide_eq_false (by rw[0]))))) ?_
  refine kF (fL ((cH (aJ (b:=.str "put") i0 rfl (iQ _ _))).trans (congrArg aa (decide_eq_true rfl))) ?_);have bp:=Uc (hd:=hd) (ls:=ls) (t:=t) (o:=o) (c:=c) (d:=d) (w:=w) (l:=ls.getD i ar) (tk:=tk) (nums:=nums) g8 ua y7 () W.few (by rw[zg,hm]) (by rw[hm];exact hN m ())
  refine cO (d:=aT hd (ls++[(o,iL ((bD w).map (nV (ls.getD i ar).2 c d)) nums)])) (aX (ds:=[aT hd ls,bI (.pts t c o d w),aO (ls.getD i ar)]) (aR rfl (aR ((aJ (a:=bx rs) (b:=.int n) rfl (aJ (a:=iA n i) (b:=.int 1) rfl rfl rfl) (nN (q:=bI) (getD_some dr hn))).trans (by rw[er])) (aR (aJ (a:=bc ls) (b:=.int i) rfl (aJ (a:=iA n i) (b:=.int 2) rfl rfl rfl) (mT hi)) rfl))) bp) ⟨_,rfl,rfl⟩
 .show(iL _ nums).length=wd o;rw[vJ];simp[zf]
 .show(iL _ nums).length<=3;rw[vJ];simpa using hw
 .rcases JB (by rw[CK,hm,zg];exact bS _) mk with mk|⟨x,mx,rfl⟩
  .obtain⟨x,_,e⟩:=cG.1 mk;rcases VP e with e|⟨p,mp,rfl⟩
   .cases e
   .obtain⟨y,my,e⟩:=cG.1 (wB mp).2;rw[<-e];exact xJ W hi (g8 y my)
  .exact(QK ⟨x,by have:=bu x mx;lia⟩).2.2.2.1
 .exact(Ct _ (List.nodup_range' ..)).sublist (List.take_sublist ..)
 .exact absurd (e ▸ (qg k).2 hk) (of_decide_eq_true (mH.1 (EI mx)).2)
inductive Sk
 |five (w:aD) (n i j c:Nat)
 |put (n i:Nat)
def cq:Sk->aA
 |.five w n i j c=>df w n i j c
 |.put n i=>iA n i
def uI:Sk->Bool
 |.put _ _=>af
 |.five _ _ _ _ _=>ag
def il:Sk->aD
 |.put _ _=>"put"
 |.five w _ _ _ _=>w
def nF (ls:aak)(rs:List Rl):Sk->Prop
 |.five w n i j c=>gV ls rs w n i j c=af
 |.put n i=>kE ls rs n i=af
theorem Pt (ls:aak)(rs:List Rl):eO ls rs=ab\/∃ s,eO ls rs=aa (cq s)/\nF ls rs s:=by
 unfold eO;cases e:(bD rs.length).findSome? λn=>oZ ls n (rs.getD n dr) with
 |some d=>
  right;obtain⟨n,mn,e⟩:=rQ e;have hn:=hE.1 mn;cases hr:rs.getD n dr with
  |pts t c o d w=>rw[hr] at e;cases e
  |key t c=>
   rw[hr] at e;have e:sS ls n t c=aa d:=e;obtain⟨i,mi,e⟩:=rQ e;obtain⟨j,mj,e⟩:=rQ e;unfold uK at e;split at e
   .rename_i hm;obtain⟨k,ek,rfl⟩:=iE.1 e;have mk:=List.mem_of_head? ek;have hj:=Aq9.1 mj;refine⟨.five (lE (bY ls i k) (bY ls j k)) n i j k,rfl,?_⟩;show gV ls rs _ n i j k=af;unfold gV;rw[hr];simp only[rA,iG,decide_eq_true_iff];exact⟨hn,⟨⟨⟨(),hj.2⟩,hm⟩,mk⟩,trivial⟩
   .cases e
 |none=>
  cases e:xB ls rs with
  |none=>exact .inl rfl
  |some d=>
   right;obtain⟨i,mi,e⟩:=rQ e;obtain⟨n,mn,e⟩:=rQ e;split at e
   .rename_i hp;cases e;refine⟨.put n i,rfl,?_⟩;show kE ls rs n i=af;simp only[kE,iG,decide_eq_true_iff];exact⟨hE.1 mn,hE.1 mi,hp⟩
   .cases e
def h9 (ls:aak):aah:=dU ((ls.flatMap (·.2)).filter isS)
theorem Ajn:k∈h9 ls↔isS k=af/\∃ l∈ls,k∈l.2:=by
 unfold h9;rw[Acs,mH,List.mem_flatMap];exact⟨λh=>⟨h.2,h.1⟩,λh=>⟨h.2,h.1⟩⟩
theorem SE {α:Type}[DecidableEq α]:∀ (zs aq:List α),aq.Nodup->(zs.foldl fS aq).Nodup
 |[],_,h=>h
 | z::zs,aq,h=>SE zs _ (by
  unfold fS;split
  .exact h
  .rename_i n;exact rO.2 ⟨h,by simp,λa ma b mb e=>n (by rw[fN.1 mb] at e;exact e ▸ ma)⟩)
theorem Af (ls:aak):(h9 ls).Nodup:=SE _ _ ME
theorem Hj {h7:aak}(hg:g∈h9 ls)(h:∀ k∈h9 h7,k∈h9 ls/\k≠g):(h9 h7).length<(h9 ls).length:=by
 have:=Cu (l₁:=g::h9 h7) (l₂:=h9 ls) (gZ.2 ⟨λm=>(h g m).2 rfl,Af h7⟩) λk m=>by
  rcases dJ.1 m with rfl|m
  .exact hg
  .exact(h k m).1
 rw[fZ] at this
 lia
theorem Og (ls:aak)(l:Ln):(h9 (ls++[l])).length<=(h9 ls).length+l.2.length:=by
 have:=Cu (l₁:=h9 (ls++[l])) (l₂:=h9 ls++l.2) (Af _) λk m=>by
  obtain⟨h1,x,mx,h2⟩:=Ajn.1 m;rcases fP.1 mx with mx|mx
  .exact fP.2 (.inl (Ajn.2 ⟨h1,x,mx,h2⟩))
  .rw[fN.1 mx] at h2;exact fP.2 (.inr h2)
 simpa using this
theorem Mp(h:∀ l∈ls,l.2.length<=3):(h9 ls).length<=3*ls.length:=by
 have h1:(h9 ls).length<=(ls.flatMap (·.2)).length:=by
  have:=pI ((ls.flatMap (·.2)).filter isS) [];have h2:=zX isS (ls.flatMap (·.2));unfold h9 dU;simp at this ⊢;simp at h2
  lia
 have h2:∀ xs:aak,(∀ l∈xs,l.2.length<=3)->(xs.flatMap (·.2)).length<=3*xs.length:=λxs=>by
  induction xs with
  |nil=>intro _;simp
  |cons x xs ih=>
   intro hx;have a:=hx x bT;have b:=ih λl m=>hx l (cL _ m)
   rw[List.flatMap_cons,wC,fZ]
   lia
 exact kK h1 (h2 ls h)
theorem WY (W:Now wd hd ls)(hr:∀ r∈rs,ij wd r)(h:gV ls rs w n i j c=af):(w = "clash" /\ lL [aT hd ls,df w n i j c,bx rs]=aa (aT hd ls)) \/
  (w = "same" /\ ∃ gn h7,lL [aT hd ls,df w n i j c,bx rs]=aa (aT gn h7)/\Now wd gn h7/\h7.length<=ls.length/\(h9 h7).length<(h9 ls).length):=by
 have hb:=UZ W (λr m=>⟨(hr r m).1,(hr r m).2.1⟩) h
 obtain⟨h1,h2,h3,h4,h5⟩:=tM W h;have kx:i<ls.length:=()
 by_cases hc:w = "clash"
 .left;refine⟨hc,hb.trans ?_⟩;unfold qG;rw[if_pos hc]
 .right;have hs:w = "same" /\ (isS (bY ls i c)||isS (bY ls j c))=af:=by
   rw[h5] at hc ⊢;unfold lE at hc ⊢;split at hc
   .rename_i q;rw[if_pos q];exact⟨rfl,q⟩
   .exact absurd rfl hc
  have j':bY ls i c≠bY ls j c:=by
   unfold gV at h;rw[iG] at h;generalize rs.getD n dr=r at h;cases r with
   |pts t cs o d wd=>cases h.2
   |key t cs=>
    have h2:=h.2;simp only[rA,iG,decide_eq_true_iff] at h2;have:=(mH.1 h2.1.2).2;simpa using this
  have ma:bY ls i c∈(ls.getD i ar).2:=getD_mem _ h3;have mb:bY ls j c∈(ls.getD j ar).2:=getD_mem _ h4;have la:=xJ W kx h3;have lb:=xJ W h2 h4;generalize ea:bY ls i c=a at *;generalize eb:bY ls j c=b at *;have hg:isS (eM a b)=af/\∃ l∈ls,eM a b∈l.2:=by
   unfold eM;split
   .rename_i q;exact⟨q,_,getD_mem ar h2,mb⟩
   .rename_i q;exact⟨by simpa [q] using hs.2,_,getD_mem ar kx,ma⟩
  have hk:eK a b≠eM a b/\(∃ l∈ls,eK a b∈l.2)/\jW (eK a b):=by
   unfold eK eM;split
   .exact⟨j',⟨_,getD_mem ar kx,ma⟩,la⟩
   .exact⟨λe=>j' e.symm,⟨_,getD_mem ar h2,mb⟩,lb⟩
  refine⟨hs.1,zM hd a b,sA ls a b,hb.trans ?_,⟨λl m=>?_,λl m=>?_,?_,λl m=>?_,?_⟩,?_,?_⟩
  .unfold qG;rw[if_neg hc,ea,eb]
  .obtain⟨x,mx,rfl⟩:=cG.1 (Acs.1 m);have:=W.lw x mx;show(x.2.map _).length=wd x.1;rw[fA];exact this
  .obtain⟨x,mx,rfl⟩:=cG.1 (Acs.1 m);show(x.2.map _).length<=3;rw[fA];exact W.six x mx
  .have:=pI (ls.map (kO (eM a b) (eK a b))) [];have h:=W.few;show((ls.map (kO (eM a b) (eK a b))).foldl fS []).length<=24;simp at this
   lia
  .obtain⟨x,mx,rfl⟩:=cG.1 (Acs.1 m);refine⟨(W.lay x mx).1,λk mk=>?_⟩
   obtain⟨y,my,rfl⟩:=cG.1 (show k∈x.2.map (gU (eM a b) (eK a b)) from mk)
   exact QU hk.2.2 ((W.lay x mx).2 y my)
  .show(hd.map _).length<=4;rw[fA];exact W.hd4
  .have:=pI (ls.map (kO (eM a b) (eK a b))) [];show((ls.map (kO (eM a b) (eK a b))).foldl fS []).length<=ls.length;simpa using this
  .refine Hj (g:=eM a b) (Ajn.2 hg) λk m=>?_
   obtain⟨q1,l,ml,q2⟩:=Ajn.1 m;obtain⟨x,mx,rfl⟩:=cG.1 (Acs.1 ml);obtain⟨y,my,rfl⟩:=cG.1 (show k∈x.2.map (gU (eM a b) (eK a b)) from q2)
   unfold gU at q1 ⊢;split
   .rename_i e;rw[if_pos e] at q1;exact⟨Ajn.2 ⟨q1,hk.2.1⟩,hk.1⟩
   .rename_i e;rw[if_neg e] at q1;exact⟨Ajn.2 ⟨q1,x,mx,my⟩,e⟩
theorem Ku {a b:EF}(h:a Y=aa (.bool x))(h2:x=ag->b Y=aa (.bool y)):fj a b Y=aa (.bool (x||y)):=by
 unfold fj;rw[h];cases x with
 |true=>rfl
 |false=>exact h2 rfl
def pc (ss:List Sk):Nat:=(ss.filter uI).length
abbrev i9 (ss:List Sk):aA:=.list (ss.map cq)
def xN (ls:aak)(o:aD):Nat:=(ls.filter λl=>decide (l.1=o)).length
def KH (ls:aak)(p:Nat):Rl->Bool
 |.pts _ _ o _ _=>decide (5<=xN ls o)||decide (16<=p)
 |.key _ _=>ag
abbrev sI (ls:aak)(rs:List Rl)(n p:Nat):Bool:=KH ls p (rs.getD n dr)
theorem xW (s:Sk):ai (cq s) (.int 0)=aa (.str (il s)):=by cases s<;>rfl
theorem Ux{cap:lf}{fo:EF}{r:bd}(hi:fi Y=aa (ls.map aO))(hl:ls.length<=1000)(hc:∀ d,gB 0 d (jY cap Y)=aa (aa d::r))(ho:∀ d,fo (aa d::r)=aa (.str o)) :
  ∃ xs:aae,du cap fi (gB 0) (aj (ah aw (ah ai (aB 0) (eC (.int 0))) fo)) (aB 0) Y=aa (.list xs)/\xs.length=xN ls o:=by
 have:=iO (cap:=cap) (fi:=fi) (T:=gB 0) (t:=aj (ah aw (ah ai (aB 0) (eC (.int 0))) fo)) (f:=aB 0) (Y:=Y) (xs:=ls) (q:=aO) (λl=>decide (l.1=o)) aO hi () (λl m=>⟨aa (aO l)::r,hc _,cH (aJ (a:=.str l.1) (b:=.str o) (aJ (a:=aO l) (b:=.int 0) rfl rfl rfl) (ho _) (iQ _ _)),λ_=>rfl⟩)
 exact⟨_,this,by simp[xN]⟩
theorem Mz {ss:List Sk}(hi:fi Y=aa (ss.map cq))(hl:ss.length<=1000)(hw:∀ s∈ss,il s = "put" ↔ uI s=af) :
  ∃ xs:aae,du [ab] fi (gB 0) (aj (ah aw (ah ai (aB 0) (eC (.int 0))) (eC (.str "put")))) (aB 0) Y=aa (.list xs)/\xs.length=pc ss:=by
 have:=iO (cap:=[ab]) (fi:=fi) (T:=gB 0) (t:=aj (ah aw (ah ai (aB 0) (eC (.int 0))) (eC (.str "put")))) (f:=aB 0) (Y:=Y) (xs:=ss) (q:=cq) uI cq hi () (λs m=>⟨[aa (cq s)],rfl,(cH (aJ (a:=.str (il s)) (b:=.str "put") (aJ (a:=cq s) (b:=.int 0) rfl rfl (xW s)) rfl (iQ _ _))).trans (by
  congr 1
  rw[iW,decide_eq_true_iff];exact hw s m),λ_=>rfl⟩)
 exact⟨_,this,by simp[pc]⟩
theorem ZC (a b:Nat)(h:f Y=aa (.list xs))(hl:xs.length=a):ah dw (aL bA (aE f aH)) (eC (.int b)) Y=aa (.bool (decide (b<=a))):=
 aJ (a:=.int a) (b:=.int b) (aX (ds:=[.list xs]) (aR h rfl) (by simp[bA,hl])) rfl (FT a b)
def vi (s:Sk):Prop:=il s = "put" ↔ uI s=af
theorem Um (n i:Nat):vi (.put n i):=⟨λ_=>rfl,λ_=>rfl⟩
theorem Va(h:w = "same" \/ w = "clash"):vi (.five w n i j c):=by
 refine⟨λe=>?_,λe=>nomatch e⟩
 rcases h with rfl|rfl
 .exact absurd (show("same" : aD) = "put" from e) (by rw[0])
 .exact absurd (show("clash" : aD) = "put" from e) (by rw[0])
theorem Xq (W:Now wd hd ls)(hr:∀ r∈rs,ij wd r)(h:kE ls rs n i=af){ss:List Sk}(hl:ss.length<=1000)(hw:∀ s∈ss,vi s):vG [aT hd ls,i9 ss,iA n i,bx rs]=aa (.bool (sI ls rs n (pc ss))):=by
 obtain⟨hn,hi,t,c,o,d,w,er,_⟩:=yJ hr h;rw[7]
 let A:L2.Slot:=s0 (aT hd ls)
 let SS:L2.Slot:=s0 (i9 ss)
 let ST:L2.Slot:=s0 (iA n i)
 let RS:L2.Slot:=s0 (bx rs)
 refine dB (gL ((cH (aJ (a:=.str "put") (b:=.str "put") (aJ (a:=iA n i) (b:=.int 0) rfl rfl rfl) rfl (uS _ _))).trans (by simp))) ?_
 refine cJ (d:=.str o) (aJ (a:=bI (.pts t c o d w)) (b:=.int 3) ((aJ (a:=bx rs) (b:=.int n) rfl (aJ (a:=iA n i) (b:=.int 1) rfl rfl rfl) (nN (q:=bI) (getD_some dr hn))).trans (by rw[er])) rfl rfl) (by simp) ?_
 obtain⟨xs,e1,h1⟩:=Ux (ls:=ls) (o:=o) (cap:=[ab,aa 4]) (fo:=aB 1) (Y:=vS [A,SS,ST,RS,s0 (.str o),ab,ab]) (r:=[aa (.str o)]) (fi:=ay (ah ai (aB 0) (eC (.int 1)))) (pG (aJ (a:=aT hd ls) (b:=.int 1) rfl rfl rfl)) (by have:=W.few;lia) (λ_=>rfl) (λ_=>rfl)
 refine cJ (n:=1) e1 (by simp) (jH ?_)
 obtain⟨ys,e2,h2⟩:=Mz (ss:=ss) (fi:=ay (aB 1)) (Y:=vS [A,SS,ST,RS,s0 (.str o),s0 (.list xs),ab]) (pH rfl) hl hw;refine cJ (Y:=[A,SS,ST,RS,s0 (.str o),s0 (.list xs),ab]) (n:=1) e2 (by simp) (jH ?_)
 refine cO (Y:=[A,SS,ST,RS,s0 (.str o),s0 (.list xs),s0 (.list ys)]) (Ku (ZC (xN ls o) 5 rfl h1) λ_=>ZC (pc ss) 16 rfl h2) ?_
 show Out.rt _=Out.rt (.bool (KH ls (pc ss) (rs.getD n dr)));rw[er]
 rfl
theorem Zk {A SS R:aA}(h:w = "same" \/ w = "clash"):vG [A,SS,df w n i j c,R]=aa (.bool ag):=by
 have hw:w ≠ "put":=by rcases h with rfl|rfl<;>decide +kernel
 rw[7];exact kF (fL ((cH (aJ (a:=.str w) (b:=.str "put") (aJ (a:=df w n i j c) (b:=.int 0) rfl rfl rfl) rfl (uS _ _))).trans (by rw[decide_eq_true hw])) (cO (d:=.bool ag) rfl ⟨_,rfl,rfl⟩))
abbrev Cf:=List aG×aak
structure Stp (wd:aD->Nat)(rs:List Rl)(c:Cf)(p:Nat)(s:Sk)(c':Cf):Prop where
 now:Now wd c.1 c.2
 due:eO c.2 rs=aa (cq s)
 ok:nF c.2 rs s
 few:p<=16
 past:∀ n i,s=.put n i->sI c.2 rs n p=ag
 bh:lL [aT c.1 c.2,cq s,bx rs]=aa (aT c'.1 c'.2)
def Path (wd:aD->Nat)(rs:List Rl)(ss:List Sk)(c0 c:Cf):Prop:=∃ f:Nat->Cf,f 0=c0/\f ss.length=c/\∀ m s,ss[m]?=aa s->Stp wd rs (f m) (pc (ss.take m)) s (f (m+1))
theorem Path.nil {c:Cf}:Path wd rs [] c c:=⟨λ_=>c,rfl,rfl,λm s h=>by simp at h⟩
theorem Path.snoc {ss:List Sk}{c0 c c':Cf}{s:Sk}(P:Path wd rs ss c0 c)(h:Stp wd rs c (pc ss) s c'):Path wd rs (ss++[s]) c0 c':=by
 obtain⟨f,f0,fl,fs⟩:=P;refine⟨λm=>if m<=ss.length then f m else c',by simpa using f0,by simp;lia,λm x hx=>?_⟩
 rcases Nat.lt_or_ge m ss.length with hm|hm
 .rw[zY hm] at hx;have e:(ss++[s]).take m=ss.take m:=by rw[List.take_append_of_le_length ()]
  simp only[e,if_pos (show m<=ss.length by lia),if_pos (show m+1<=ss.length by lia)]
  exact fs m x hx
 .rw[Cp hm] at hx;have sw:m=ss.length:=by
   have:=(eW.1 hx).1;simp at this
   lia
  subst sw;simp at hx;subst hx;simp only[bS,if_true,if_neg (show ¬ ss.length+1<=ss.length by lia),List.take_left]
  rw[fl];exact h
theorem PR (ss:List Sk)(s:Sk):pc (ss++[s])=pc ss+if uI s=af then 1 else 0:=by
 unfold pc;rw[List.filter_append,wC];cases h:uI s<;>simp[h]
theorem IW (W:Now wd hd ls)(h:gV ls rs w n i j c=af):w = "same" \/ w = "clash":=by
 obtain⟨_,_,_,_,e⟩:=tM W h;rw[e];unfold lE;split
 .exact .inl rfl
 .exact .inr rfl
theorem Je (W:Now wd hd ls){s:Sk}(h:nF ls rs s):vi s:=by
 cases s with
 |put n i=>exact Um n i
 |five w n i j c=>exact Va (IW W h)
structure At (wd:aD->Nat)(rs:List Rl)(c0:Cf)(hd:List aG)(ls:List Ln)(ss:List Sk):Prop where
 path:Path wd rs ss c0 (hd,ls)
 now:Now wd hd ls
 puts:pc ss<=16
 few:ls.length<=5+pc ss
 words:∀ s∈ss,vi s
 noClash:∀ s∈ss,il s ≠ "clash"
 len:ss.length<=100
def Jm (ls:aak)(rs:List Rl)(ss:List Sk):Prop:=
 eO ls rs=ab\/(∃ n i j c,eO ls rs=aa (cq (.five "clash" n i j c))/\nF ls rs (.five "clash" n i j c))\/∃ n i,eO ls rs=aa (cq (.put n i))/\nF ls rs (.put n i)/\sI ls rs n (pc ss)=af
theorem Yl {ls:aak}{p:Nat}(h:KH ls p r=ag)(hp:∃ t c o d w,r=.pts t c o d w):p<16:=by
 obtain⟨t,c,o,d,w,rfl⟩:=hp;have h:(decide (5<=xN ls o)||decide (16<=p))=ag:=h;rw[Bool.or_eq_false_iff] at h;have:=of_decide_eq_false h.2
 lia
theorem At.go {c0:Cf}{ss:List Sk}(A:At wd rs c0 hd ls ss)(hr:∀ r∈rs,ij wd r){N:Nat}(hN:(h9 ls).length+4*(16-pc ss)<=N)(hM:ss.length+N<=100){s:Sk}(gn:eO ls rs=aa (cq s))(ok:nF ls rs s)(hc:il s ≠ "clash")(hp:∀ n i,s=.put n i->sI ls rs n (pc ss)=ag) :
  ∃ gn h7,lL [aT hd ls,cq s,bx rs]=aa (aT gn h7)/\At wd rs c0 gn h7 (ss++[s])/\∃ N',N'<N/\(h9 h7).length+4*(16-pc (ss++[s]))<=N'/\(ss++[s]).length+N'<=100:=by
 have key:∀ f7 ls2 N',lL [aT hd ls,cq s,bx rs]=aa (aT f7 ls2)->Now wd f7 ls2->pc (ss++[s])<=16->ls2.length<=5+pc (ss++[s])->N'<N->(h9 ls2).length+4*(16-pc (ss++[s]))<=N'->∃ gn h7,lL [aT hd ls,cq s,bx rs]=aa (aT gn h7)/\At wd rs c0 gn h7 (ss++[s])/\∃ N',N'<N/\(h9 h7).length+4*(16-pc (ss++[s]))<=N'/\(ss++[s]).length+N'<=100:=by
  intro f7 ls2 N' hb hn Op hf bu zh;refine⟨f7,ls2,hb,⟨A.path.snoc ⟨A.now,gn,ok,A.puts,hp,hb⟩,hn,Op,hf,λx m=>?_,λx m=>?_,?_⟩,N',bu,zh,?_⟩
  .rcases fP.1 m with m|m
   .exact A.words x m
   .rw[fN.1 m];exact Je A.now ok
  .rcases fP.1 m with m|m
   .exact A.noClash x m
   .rw[fN.1 m];exact hc
  .simp
   lia
  .simp
   lia
 have a1:=A.puts;have a2:=A.few;cases s with
 |put n i=>
  obtain⟨l',hb,h1,h2,h3,_⟩:=VC A.now hr (show kE ls rs n i=af from ok)
  obtain⟨_,_,t,c,o,d,w,er,_⟩:=yJ hr (show kE ls rs n i=af from ok)
  have bu:=Yl (hp n i rfl) ⟨t,c,o,d,w,er⟩;have q9:pc (ss++[.put n i])=pc ss+1:=PR ss _;have hn:=Og ls l';refine key hd (ls++[l']) (N-1) hb ⟨λl m=>?_,λl m=>?_,?_,λl m=>?_,A.now.hd4⟩ ?_ ?_ ?_ ?_
  .rcases fP.1 m with m|m
   .exact A.now.lw l m
   .rw[fN.1 m];exact h1
  .rcases fP.1 m with m|m
   .exact A.now.six l m
   .rw[fN.1 m];exact h2
  .simp
   lia
  .rcases fP.1 m with m|m
   .exact A.now.lay l m
   .rw[fN.1 m];exact h3
  .rw[q9];lia
  .rw[q9];simp;lia
  .lia
  .rw[q9];lia
 |five w n i j c=>
  rcases WY A.now hr (show gV ls rs w n i j c=af from ok) with⟨e,_⟩|⟨e,f7,ls2,hb,hn,hl,bu⟩
  .exact absurd e hc
  .have q9:pc (ss++[.five w n i j c])=pc ss:=PR ss _;refine key f7 ls2 (N-1) hb hn (by rw[q9];exact a1) (by rw[q9];lia) ?_ ?_
   .lia
   .rw[q9];lia
theorem Zt (k:aG):cB (kD k)=af:=by cases k<;>rfl
theorem OY (ks:aah):cB (tK ks)=af:=by
 show mR (ks.map kD)=af;rw[yN,wH];exact iV.2 λk _=>Zt k
theorem IC (hd:aah)(ls:aak):cB (aT hd ls)=af:=by
 show mR [tK hd,bc ls]=af;have h2:cB (bc ls)=af:=by
  show mR (ls.map aO)=af;rw[yN,wH];refine iV.2 λl _=>?_
  show(af&&(cB (tK l.2)&&af))=af;rw[OY]
  rfl
 rw[yN];simp[OY,h2]
theorem Lw (s:Sk):cB (cq s)=af:=by cases s<;>rfl
theorem Lk (ss:List Sk):cQ 1 (i9 ss)=af:=by
 show(ss.map cq).all (cQ 0)=af;rw[wH];exact iV.2 λs _=>Lw s
theorem GZ {t:aaf}{s:Sk}(h:t=aa (cq s)):fJ t=cq s:=by rw[h];rfl
theorem Kz (s:Sk):kP (cq s) .none=aa (.bool af):=by cases s<;>rfl
theorem ZH (s:Sk):rY (cq s) .none=aa (.bool ag):=by cases s<;>rfl
theorem FX {m:Md}{t:BF}{F:SF}(I:Nat->aQ->Prop)(step:∀ n Y,I n Y->(bV m t Y=aa ag/\P (.nx Y))\/(bV m t Y=aa af/\Goes F Y λo=>∃ Y' n',o=.nx Y'/\n'<n/\I n' Y')):∀ (fuel n:Nat) (Y:aQ),n<fuel->I n Y->Goes (lq m t F fuel) Y P
 |0,n,Y,h,_=>()
 |fuel+1,n,Y,h,i=>by
  rcases step n Y i with⟨e,p⟩|⟨e,o,eo,Y',n',rfl,hn,i'⟩
  .exact⟨_,by
    show((bV m t Y).bind λb=>if b=af then(F Y).bind λo=>match o with
     |.nx Y'=>lq m t F fuel Y'
     |.ct Y'=>lq m t F fuel Y'
     |.bk Y'=>aa (.nx Y')
     |.rt d=>aa (.rt d)
    else aa (.nx Y))=_
    rw[e]
    rfl,p⟩
  .obtain⟨o2,e2,p2⟩:=FX I step fuel n' Y' () i'
   refine⟨o2,?_,p2⟩;show((bV m t Y).bind λb=>if b=af then(F Y).bind λo=>match o with
     |.nx Y'=>lq m t F fuel Y'
     |.ct Y'=>lq m t F fuel Y'
     |.bk Y'=>aa (.nx Y')
     |.rt d=>aa (.rt d)
    else aa (.nx Y))=_
   rw[e,bR,if_pos rfl,eo];exact e2
theorem PQ {f0 f1:EF}{Y:aQ}{d0 d1:aA}{a:aae}(h0:f0 (vS Y)=aa d0)(h1:f1 (vS Y)=aa d1)(hg:getL i Y=aa a)(q0:cB d0=af)(q1:cB d1=af)(k:P (.rt (.tuple [d0,d1,.list a]))):Goes (zJ .s f0 .s f1 i) Y P:=⟨_,by
 unfold zJ eV;simp only[h0,h1,hg,bR,q0,q1,qB,if_true],k⟩
theorem Ol {f0 f1:EF}{Y:aQ}{d0 d1:aA}{a:aae}(h0:f0 (vS Y)=aa d0)(h1:f1 (vS Y)=aa d1)(h2:eV 1 .a f Y=aa (.list a))(q0:cB d0=af)(q1:cB d1=af)(k:P (.rt (.tuple [d0,d1,.list a]))):Goes (DP .s f0 .s f1 .a f) Y P:=⟨_,by
 unfold DP;rw[h2];unfold eV;simp only[h0,h1,bR,q0,q1,qB,if_true],k⟩
def FK (wd:aD->Nat)(rs:List Rl)(c0:Cf)(fw:aD)(hd:aah)(ls:aak)(ss:List Sk):Prop:=∃ jl,At wd rs c0 hd ls jl /\
 ((fw = "still" /\ ss=jl/\eO ls rs=ab)\/(fw = "clash" /\ ∃ n i j c,ss=jl++[.five "clash" n i j c]/\eO ls rs=aa (cq (.five "clash" n i j c))/\nF ls rs (.five "clash" n i j c)) \/
  (fw = "past" /\ ss=jl/\∃ n i,eO ls rs=aa (cq (.put n i))/\nF ls rs (.put n i)/\sI ls rs n (pc jl)=af))
theorem ZV (W:Now wd hd ls)(hr:∀ r∈rs,ij wd r):zL [aT hd ls,bx rs]=aa (fJ (eO ls rs)):=Jn W.lw (λl m=>by have:=W.six l m;lia) (by have:=W.few;lia) (λr m=>⟨(hr r m).1,(hr r m).2.1⟩) (tK hd)
theorem Xd {gy:aah}{gt:aak}(W0:Now wd gy (dU gt))(h5:(dU gt).length<=5)(hy:∀ l∈gt,oY l)(xm:gt.length<=1000)(hr:∀ r∈rs,ij wd r) :
  ∃ fw hd ls ss,HB [aT gy gt,bx rs]=aa (.tuple [.str fw,aT hd ls,i9 ss])/\FK wd rs (gy,dU gt) fw hd ls ss:=by
 have main:∃ d,HB [aT gy gt,bx rs]=aa d/\∃ fw hd ls ss,d=.tuple [.str fw,aT hd ls,i9 ss]/\FK wd rs (gy,dU gt) fw hd ls ss:=by
  refine hU rfl ?_
  let A0:L2.Slot:=s0 (aT gy gt)
  let R:L2.Slot:=s0 (bx rs)
  refine cJ (d:=aT gy (dU gt)) (jQ (ds:=[tK gy,bc (dU gt)]) (aR (aJ (a:=aT gy gt) (b:=.int 0) rfl rfl rfl) (aR (aX (ds:=[bc gt]) (aR (aJ (a:=aT gy gt) (b:=.int 1) rfl rfl rfl) rfl) (VE hy xm)) rfl))) (by simp) ?_
  refine cJ (n:=1) (d:=.list []) (lH (ds:=[]) rfl) (by simp) ?_
  refine dB (Y':=[A0,R,s0 (aT gy (dU gt)),aa (1,i9 []),s0 (fJ (eO (dU gt) rs))]) (iY (m:=.s) (aX (ds:=[aT gy (dU gt),bx rs]) rfl (ZV W0 hr)) (by simp)) ?_
  refine fW (λY'=>∃ hd ls ss,Y'=[A0,R,s0 (aT hd ls),aa (1,i9 ss),s0 (fJ (eO ls rs))]/\At wd rs (gy,dU gt) hd ls ss/\Jm ls rs ss) ?_ ?_
  .refine FX (λN Y=>∃ hd ls ss,Y=[A0,R,s0 (aT hd ls),aa (1,i9 ss),s0 (fJ (eO ls rs))]/\At wd rs (gy,dU gt) hd ls ss/\(h9 ls).length+4*(16-pc ss)<=N/\ss.length+N<=100) ?_ 200 79 _ () ⟨gy,dU gt,[],rfl,⟨Path.nil,W0,by simp[pc],by simp[pc];exact h5,λs m=>by simp at m,λs m=>by simp at m,by simp⟩,by have:=Mp W0.six;simp[pc];lia,by simp⟩
   rintro N _ ⟨hd,ls,ss,rfl,A,hN,hM⟩
   let Y:aQ:=[A0,R,s0 (aT hd ls),aa (1,i9 ss),s0 (fJ (eO ls rs))]
   rcases Pt ls rs with e|⟨s,e,ok⟩
   .left;refine⟨?_,_,rfl,hd,ls,ss,rfl,A,.inl e⟩;exact mV (x:=ag) (y:=af) (cH (aJ (a:=fJ (eO ls rs)) (b:=.none) rfl rfl (by rw[e];rfl))) λq=>nomatch q
   .have eo:=GZ e;have t0:aj (ah kP (aB 4) (eC .none)) (vA Y)=aa af:=cH (aJ (a:=fJ (eO ls rs)) (b:=.none) rfl rfl (by rw[eo];exact Kz s))
    have t1:aj (ah bo (ah ai (aB 4) (eC (.int 0))) (eC (.str "clash"))) (vA Y)=aa (decide (il s ≠ "clash")):=cH (aJ (a:=.str (il s)) (b:=.str "clash") (aJ (a:=fJ (eO ls rs)) (b:=.int 0) rfl rfl (by rw[eo];exact xW s)) rfl (uS _ _))
    by_cases hc:il s = "clash"
    .left;rw[decide_eq_false (by simpa using hc)] at t1
     refine⟨mV (x:=af) t0 λ_=>mV (x:=ag) (y:=af) t1 (λq=>nomatch q),_,rfl,hd,ls,ss,rfl,A,.inr (.inl ?_)⟩
     cases s with
     |put n i=>exact absurd (show("put" : aD) = "clash" from hc) (by rw[0])
     |five w n i j c=>
      have hc:w = "clash":=hc;subst hc;exact⟨n,i,j,c,e,ok⟩
    .rw[decide_eq_true hc] at t1;have u8:∃ pb,vG [aT hd ls,i9 ss,cq s,bx rs]=aa (.bool pb)/\(pb=af->∃ n i,s=.put n i/\sI ls rs n (pc ss)=af)/\(pb=ag->∀ n i,s=.put n i->sI ls rs n (pc ss)=ag):=by
      cases s with
      |put n i=>exact⟨_,Xq A.now hr ok (by have:=A.len;lia) A.words,λq=>⟨n,i,rfl,q⟩,λq n' i' z=>by cases z;exact q⟩
      |five w n i j c=>exact⟨_,Zk (IW A.now ok),(λq=>nomatch q),(λ_ n' i' z=>nomatch z)⟩
     obtain⟨pb,ep,hT,hF⟩:=u8;have t2:cU (aj (aL vG (aE (aB 2) (aE (aB 3) (aE (aB 4) (aE (aB 1) aH)))))) (vA Y)=aa (!pb):=lJ (aX (ds:=[aT hd ls,i9 ss,fJ (eO ls rs),bx rs]) rfl (by rw[eo];exact ep))
     have tt:bV .a (cT (aj (ah kP (aB 4) (eC .none))) (cT (aj (ah bo (ah ai (aB 4) (eC (.int 0))) (eC (.str "clash")))) (cU (aj (aL vG (aE (aB 2) (aE (aB 3) (aE (aB 4) (aE (aB 1) aH))))))))) Y=aa (!pb):=mV (x:=af) t0 λ_=>mV (x:=af) t1 λ_=>t2
     cases pb with
     |true=>
      left;obtain⟨n,i,rfl,hp⟩:=hT rfl;exact⟨tt,_,rfl,hd,ls,ss,rfl,A,.inr (.inr ⟨n,i,e,ok,hp⟩)⟩
     |false=>
      right;obtain⟨gn,h7,hb,A',N',bu,O0,O1⟩:=A.go hr hN hM e ok hc (hF rfl);refine⟨tt,?_⟩;refine fW (λY'=>Y'=[A0,R,s0 (aT hd ls),aa (1,i9 (ss++[s])),s0 (fJ (eO ls rs))]) (qV (d:=fJ (eO ls rs)) (ds:=ss.map cq) rfl rfl (by have:=A.len;simp;lia) ⟨_,rfl,by
       show [A0,R,s0 (aT hd ls),aa (1,kJ (ss.map cq++[fJ (eO ls rs)])),s0 (fJ (eO ls rs))]=_;rw[eo];show _=[A0,R,s0 (aT hd ls),aa (1,kJ ((ss++[s]).map cq)),s0 (cq s)];rw[hW]
       rfl⟩) ?_
      rintro _ rfl;refine dB (Y':=[A0,R,s0 (aT gn h7),aa (1,i9 (ss++[s])),s0 (fJ (eO ls rs))]) (iY (m:=.s) (aX (ds:=[aT hd ls,fJ (eO ls rs),bx rs]) rfl (by rw[eo];exact hb)) (by simp)) ?_
      exact qU (aX (ds:=[aT gn h7,bx rs]) rfl (ZV A'.now hr)) (by simp) ⟨_,N',rfl,bu,gn,h7,ss++[s],rfl,A',O0,O1⟩
  .rintro _ ⟨hd,ls,ss,rfl,A,E⟩
   let Y:aQ:=[A0,R,s0 (aT hd ls),aa (1,i9 ss),s0 (fJ (eO ls rs))]
   rcases E with e|⟨n,i,j,c,e,ok⟩|⟨n,i,e,ok,hp⟩
   .refine kF (fL (cH (aJ (a:=fJ (eO ls rs)) (b:=.none) rfl rfl (by rw[e];rfl))) (PQ (Y:=Y) (d0:=.str "still") (d1:=aT hd ls) rfl rfl rfl rfl (IC hd ls) ⟨_,rfl,_,rfl,"still",hd,ls,ss,rfl,ss,A,.inl ⟨rfl,rfl,e⟩⟩))
   .have eo:=GZ e;refine dB (Y':=Y) (gL (cH (aJ (a:=fJ (eO ls rs)) (b:=.none) rfl rfl (by rw[eo];exact ZH _)))) ?_
    refine dB (Y':=Y) (gL ((cH (aJ (a:=.str "clash") (b:=.str "put") (aJ (a:=fJ (eO ls rs)) (b:=.int 0) rfl rfl (by rw[eo];rfl)) rfl (iQ _ _))).trans (congrArg aa (decide_eq_false (by rw[0]))))) ?_
    refine Ol (Y:=Y) (d0:=.str "clash") (d1:=aT hd ls) (a:=(ss++[Sk.five "clash" n i j c]).map cq) rfl rfl (wo ?_ (Lk _)) rfl (IC hd ls) ⟨_,rfl,"clash",hd,ls,ss++[.five "clash" n i j c],rfl,ss,A,.inr (.inl ⟨rfl,n,i,j,c,rfl,e,ok⟩)⟩;refine(aJ (a:=i9 ss) (b:=.list [fJ (eO ls rs)]) rfl (lH (ds:=[fJ (eO ls rs)]) rfl) (Nh (by have:=A.len;simp;lia))).trans ?_
    rw[eo,hW]
    rfl
   .have eo:=GZ e;refine dB (Y':=Y) (gL (cH (aJ (a:=fJ (eO ls rs)) (b:=.none) rfl rfl (by rw[eo];exact ZH _)))) ?_
    refine kF (fL ((cH (aJ (a:=.str "put") (b:=.str "put") (aJ (a:=fJ (eO ls rs)) (b:=.int 0) rfl rfl (by rw[eo];rfl)) rfl (iQ _ _))).trans (congrArg aa (decide_eq_true rfl))) (PQ (Y:=Y) (d0:=.str "past") (d1:=aT hd ls) rfl rfl rfl rfl (IC hd ls) ⟨_,rfl,_,rfl,"past",hd,ls,ss,rfl,ss,A,.inr (.inr ⟨rfl,rfl,n,i,e,ok,hp⟩)⟩))
 obtain⟨d,e,fw,hd,ls,ss,rfl,F⟩:=main;exact⟨fw,hd,ls,ss,e,F⟩
def val (v:aD->Int):aG->Int
 |.inl i=>i
 |.inr z=>v z
abbrev oO (v:aD->Int)(l:Ln):aai:=l.2.map (val v)
def uD (B:aD->bv)(v:aD->Int)(ls:aak):Prop:=∀ l∈ls,oO v l∈B l.1
abbrev fV (r:aai)(cs:aam):aai:=cs.map λc=>r.getD c 0
def kR (B:aD->bv):Rl->Prop
 |.key t c=>∀ r∈B t,∀ r'∈B t,fV r c=fV r' c->r=r'
 |.pts t c o d _=>∀ r∈B t,∃ r'∈B o,fV r' d=fV r c
def iq (ls:aak)(k:aG):Prop:=∃ l∈ls,k∈l.2
theorem KR (v:aD->Int)(h:c<ks.length):(ks.map (val v)).getD c 0=val v (ks.getD c (.inl 0)):=by
 simp[EL,h]
theorem HZ (v:aD->Int)(h:∀ c∈cs,c<ks.length):fV (ks.map (val v)) cs=(pick ks cs).map (val v):=by
 unfold pick;rw[eN];exact kZ λc m=>KR v (h c m)
section
variable {B:aD->bv}
theorem NL(hi:i<ls.length)(hc:c<(ls.getD i ar).2.length):iq ls (bY ls i c):=⟨_,getD_mem ar hi,getD_mem (.inl 0) hc⟩
theorem TL (W:Now wd hd ls)(hr:∀ r∈rs,ij wd r)(hk:∀ r∈rs,kR B r)(S:uD B v ls)(h:gV ls rs w n i j c=af):val v (bY ls i c)=val v (bY ls j c)/\bY ls i c≠bY ls j c:=by
 obtain⟨h1,h2,h3,h4,h5⟩:=tM W h;have kx:i<ls.length:=()
 have mi:=getD_mem ar kx;have mj:=getD_mem ar h2;unfold gV at h;rw[iG] at h;obtain⟨hn,h⟩:=h;have mr:=getD_mem dr (of_decide_eq_true hn);have hk:=hk _ mr;have hw:=(hr _ mr).1;generalize rs.getD n dr=r at h hk hw;cases r with
 |pts t cs o d w'=>cases h
 |key t cs=>
  simp only[rA,iJ,iG,decide_eq_true_iff] at h;obtain⟨⟨⟨⟨_,_⟩,⟨e1,e2⟩,e3⟩,hu⟩,_⟩:=h;have j':bY ls i c≠bY ls j c:=by
   unfold ko at hu;exact of_decide_eq_true (mH.1 hu).2
  refine⟨?_,j'⟩;have li:(ls.getD i ar).2.length=wd t:=by rw[<-e1];exact W.lw _ mi
  have lj:(ls.getD j ar).2.length=wd t:=by rw[<-e2];exact W.lw _ mj
  have hw:∀ x∈cs,x<wd t:=hw;have si:=S _ mi;have sj:=S _ mj;rw[e1] at si;rw[e2] at sj;have:=hk _ si _ sj (by rw[HZ v (λx m=>by rw[li];exact hw x m),HZ v (λx m=>by rw[lj];exact hw x m),e3])
  have e:=congrArg (λr:aai=>r.getD c 0) this
  have e:(oO v (ls.getD i ar)).getD c 0=(oO v (ls.getD j ar)).getD c 0:=e
  rwa [KR v h3,KR v h4] at e
theorem Wb (W:Now wd hd ls)(hr:∀ r∈rs,ij wd r)(hk:∀ r∈rs,kR B r)(S:uD B v ls)(h:gV ls rs "clash" n i j c=af):False:=by
 obtain⟨e,ne⟩:=TL W hr hk S h;obtain⟨_,_,_,_,h5⟩:=tM W h;generalize bY ls i c=a at e ne h5;generalize bY ls j c=b at e ne h5;unfold lE at h5;cases a with
 |inl a=>
  cases b with
  |inl b=>exact ne (congrArg eR e)
  |inr b=>exact absurd h5 (by rw[if_pos (by rfl)];decide +kernel)
 |inr a=>exact absurd h5 (by rw[if_pos (by rfl)];decide +kernel)
theorem RF(h:val v a=val v b):val v (gU (eM a b) (eK a b) k)=val v k:=by
 unfold gU eM eK;by_cases hb:isS b=af
 .rw[if_pos hb,if_pos hb];split
  .rename_i e;rw[e,h]
  .rfl
 .rw[if_neg hb,if_neg hb];split
  .rename_i e;rw[e,h]
  .rfl
theorem Xr(h:val v a=val v b)(l:Ln):oO v (kO (eM a b) (eK a b) l)=oO v l:=by
 unfold oO kO;rw[eN];exact kZ λk _=>RF h
theorem Wd(h:val v a=val v b)(S:uD B v ls):uD B v (sA ls a b):=λl m=>by
 obtain⟨l0,m0,rfl⟩:=cG.1 (Acs.1 m);rw[Xr h];exact S l0 m0
theorem Mi:iq (sA ls a b) k ↔ ∃ k0,iq ls k0/\gU (eM a b) (eK a b) k0=k:=by
 constructor
 .rintro⟨l,m,mk⟩;obtain⟨l0,m0,rfl⟩:=cG.1 (Acs.1 m);obtain⟨k0,zi,e⟩:=cG.1 mk;exact⟨k0,⟨l0,m0,zi⟩,e⟩
 .rintro⟨k0,⟨l0,m0,zi⟩,e⟩;exact⟨_,Acs.2 (List.mem_map_of_mem m0),cG.2 ⟨k0,zi,e⟩⟩
theorem HN:∀ {os:List (Option aG)} {ns:aam} {row:aai} {v:aD->Int},ns.Nodup->(∀ n∈ns,n<200)->os.length=row.length->lV os<=ns.length ->
  (∀ q k,os[q]?=aa (aa k)->val v k=row.getD q 0/\∀ n∈ns,k ≠ .inr (nS n))->∃ v':aD->Int,(∀ z,(∀ n∈ns,z≠nS n)->v' z=v z)/\(iL os ns).map (val v')=row
 |[],ns,row,v,_,_,hl,_,_=>⟨v,λ_ _=>rfl,by
  cases row with
  |nil=>rfl
  |cons _ _=>cases hl⟩
 |some k::os,ns,[],v,_,_,hl,_,_=>by cases hl
 |some k::os,ns,x::row,v,nd,h2,hl,hc,hk=>by
  obtain⟨v',a,e⟩:=HN (os:=os) (ns:=ns) (row:=row) (v:=v) nd h2 (by simpa using hl) hc λq k' h=>by
   have:=hk (q+1) k' (by simpa using h)
   exact⟨by simpa using this.1,this.2⟩
  refine⟨v',a,?_⟩;obtain⟨k1,k2⟩:=hk 0 k rfl;show val v' k::_=_;rw[e]
  congr 1
  have k1:val v k=x:=k1;rw[<-k1];cases k with
  |inl i=>rfl
  |inr z=>exact a z λn m q=>k2 n m (by rw[q])
 |none::os,ns,[],v,_,_,hl,_,_=>by cases hl
 |none::os,[],x::row,v,_,_,_,hc,_=>by simp[lV] at hc
 |none::os,n::ns,x::row,v,nd,h2,hl,hc,hk=>by
  rw[gZ] at nd;obtain⟨v',a,e⟩:=HN (os:=os) (ns:=ns) (row:=row) (v:=λz=>if z=nS n then x else v z) nd.2 (λm h=>h2 m (cL _ h)) (by simpa using hl) (by simpa [lV] using hc) λq k' h=>by
   obtain⟨k1,k2⟩:=hk (q+1) k' (by simpa using h)
   refine⟨?_,λm h=>k2 m (cL _ h)⟩
   cases k' with
   |inl i=>exact k1.trans (by simp)
   |inr z=>
    have:z≠nS n:=λq=>k2 n bT (by rw[q])
    simpa [val,this] using k1
  refine⟨v',λz hz=>?_,?_⟩
  .rw[a z λm h=>hz m (cL _ h)]
   exact if_neg (hz n bT)
  .show v' (nS n)::_=_;rw[e,a (nS n) λm h q=>?_]
   .simp
   .have:=Ag (h2 n bT) (h2 m (cL _ h)) q;rw[this] at nd;exact nd.1 h
theorem TV {β:Type}:∀ {ps:List (Nat×β)} {f:Nat->Option β} {x:Nat} {b:β},mergeF ps f x=aa b->f x=aa b\/∃ p∈ps,p.1=x/\p.2=b
 |[],_,_,_,h=>.inl h
 |p::ps,f,x,b,h=>by
  rcases TV (ps:=ps) (f:=λx=>if x=p.1 then aa p.2 else f x) (x:=x) h with h|⟨q,mq,e⟩
  .by_cases hx:x=p.1
   .rw[if_pos hx] at h;exact .inr ⟨p,bT,hx.symm,fM h⟩
   .rw[if_neg hx] at h;exact .inl h
  .exact .inr ⟨q,cL _ mq,e⟩
end
section
variable {B:aD->bv}
theorem Pd (W:Now wd hd ls)(hr:∀ r∈rs,ij wd r)(hk:∀ r∈rs,kR B r)(hB:∀ t,∀ r∈B t,r.length=wd t)(S:uD B v ls)(h:kE ls rs n i=af)(F:DJ hd ls rs n i l') :
  ∃ row∈B l'.1,∃ v':aD->Int,(∀ z,fX z∈hd\/iq ls (.inr z)->v' z=v z)/\l'.2.map (val v')=row:=by
 obtain⟨t,c,o,d,w,nums,er,rfl,nd,fr,cn⟩:=F;obtain⟨hn,hi,t',c',o',d',w',E2,et,hc,gn,_,_,zf,hw,_⟩:=yJ hr h;rw[er] at E2;cases E2;have mi:=getD_mem ar hi;have mr:=getD_mem dr hn;have kp:=hk _ mr;rw[er] at kp;have p6:(ls.getD i ar).2.length=wd t:=by rw[et];exact W.lw _ mi
 have si:=S _ mi;rw[<-et] at si;obtain⟨row,m,ep⟩:=kp _ si;have au:row.length=w:=by rw[zf];exact hB o row m
 rw[HZ v λx mx=>by rw[p6];exact hc x mx] at ep
 have at_:∀ p∈d.zip (pick (ls.getD i ar).2 c),val v p.2=row.getD p.1 0:=by
  have:∀ (d:aam) (ks:aah),fV row d=ks.map (val v)->∀ p∈d.zip ks,val v p.2=row.getD p.1 0:=λd=>by
   induction d with
   |nil=>intro ks _ p m;simp at m
   |cons x d ih=>
    intro ks e p m;cases ks with
    |nil=>simp at m
    |cons k ks=>
     obtain⟨e1,e2⟩:=List.cons.inj e;rw[vZ] at m;rcases dJ.1 m with rfl|m
     .exact e1.symm
     .exact ih ks e2 p m
  exact this d _ ep
 obtain⟨v',a,e⟩:=HN (os:=(bD w).map (nV (ls.getD i ar).2 c d)) (ns:=nums) (row:=row) (v:=v) nd (λx mx=>(fr x mx).1) (by simp[au]) cn λq k hq=>by
  rw[eU] at hq;obtain⟨x,ex,ek⟩:=iE.1 hq;have hx:x=q:=by
   have:=(eW.1 ex).2;rw[<-this];simp
  subst hx;rcases TV ek with z|⟨p,mp,e1,e2⟩
  .cases z
  .subst e2;refine⟨by rw[at_ p mp,e1],λn mn=>?_⟩
   obtain⟨y,my,e⟩:=cG.1 (wB mp).2;exact(fr n mn).2 _ (.inr ⟨_,mi,by rw[<-e];exact getD_mem (eR 0:aG) (by rw[p6];exact hc y my)⟩)
 exact⟨row,m,v',λz hz=>a z λn mn q=>(fr n mn).2 (.inr z) hz (by rw[q]),e⟩
end
abbrev Kn:=wn
abbrev bj (kn:Kn):aA:=.dict (DN kn)
def gK (kn:Kn):aG->aG
 |.inl i=>.inl i
 |.inr z=>match cC kn z with
  |some u=>.inl u
  |none=>.inr z
theorem Wt (kn:Kn)(k:aG):(bL (DN kn) k).getD (kD k)=kD (gK kn k):=by
 cases k with
 |inl i=>rw[HM];rfl
 |inr z=>
  rw[xU];show _=kD (match cC kn z with|some u=>.inl u|none=>.inr z)
  cases cC kn z<;>rfl
theorem FW {fd:EF}{kn:Kn}(h1:fd Y=aa (bj kn))(h2:fk Y=aa (kD k)):cR fd fk fk Y=aa (kD (gK kn k)):=by
 rw[BD h1 h2 (Aa2 k) h2 (su kn),Wt]
theorem BP(kn:Kn)(hl:ks.length<=1000):tL [tK ks,bj kn]=aa (tK (ks.map (gK kn))):=by
 rw[7];have:=iO (cap:=[ab,aa 1]) (fi:=ay (aB 0)) (T:=gB 0) (t:=cE) (f:=cR (aB 1) (aB 0) (aB 0)) (Y:=vS [s0 (tK ks),s0 (bj kn)]) (xs:=ks) (q:=kD) (λ_=>af) (λk=>kD (gK kn k)) rfl () (λk m=>⟨[aa (kD k),aa (bj kn)],rfl,rfl,λ_=>FW rfl rfl⟩)
 rw[nD.2 (by simp)] at this
 exact cO (aX (aR this rfl) (by
  show cY [.list (ks.map λk=>kD (gK kn k))]=aa (tK (ks.map (gK kn)))
  unfold tK;rw[eN]
  rfl)) rfl
def ky (kn:Kn)(p:aG×Int):Option Kn:=match p.1 with
 |.inl i=>if i=p.2 then aa kn else ab
 |.inr z=>if (cC kn z).getD p.2=p.2 then aa (putN kn z p.2) else ab
theorem xI:∀ {ps:aad} {kn gq:Kn},jP ky kn ps=aa gq->gq.length<=kn.length+ps.length
 |[],kn,gq,h=>by cases h;simp
 |p::ps,kn,gq,h=>by
  obtain⟨k1,e1,e2⟩:=ao (show(ky kn p).bind (λb=>jP ky b ps)=aa gq from h)
  have:=xI e2;have:k1.length<=kn.length+1:=by
   unfold ky at e1;split at e1
   .obtain⟨_,rfl⟩:=cX e1;lia
   .obtain⟨_,rfl⟩:=cX e1;exact SI _ _ _
  rw[fZ]
  lia
theorem IG:∀ {ps:aad} {kn gq:Kn},jP ky kn ps=aa gq ->
  (∀ z u,cC kn z=aa u->cC gq z=aa u)/\(∀ p∈ps,gK gq p.1=.inl p.2)/\∀ z,(cC gq z).isSome=af↔(cC kn z).isSome=af\/∃ p∈ps,p.1=.inr z
 |[],kn,gq,h=>by cases h;exact⟨λ_ _ e=>e,λp m=>by simp at m,λz=>by simp⟩
 |p::ps,kn,gq,h=>by
  obtain⟨k1,e1,e2⟩:=ao (show(ky kn p).bind (λb=>jP ky b ps)=aa gq from h)
  obtain⟨a,b,c⟩:=IG e2;obtain⟨k,v⟩:=p;cases k with
  |inl i=>
   obtain⟨e,q⟩:=cX (show(if i=v then aa kn else ab)=aa k1 from e1)
   subst q;refine⟨a,λp m=>?_,λz=>?_⟩
   .rcases dJ.1 m with rfl|m
    .show eR i=eR v;rw[e]
    .exact b p m
   .rw[c];simp
  |inr y=>
   obtain⟨e,q⟩:=cX (show(if (cC kn y).getD v=v then aa (putN kn y v) else ab)=aa k1 from e1)
   subst q;refine⟨λz u hz=>a z u ?_,λp m=>?_,λz=>?_⟩
   .rw[vH];split
    .rename_i q;rw[<-q,hz] at e;exact congrArg aa e.symm
    .exact hz
   .rcases dJ.1 m with rfl|m
    .show(match cC gq y with|some u=>eR u|none=>fX y)=eR v
     rw[a y v (by rw[vH,if_pos rfl])]
    .exact b p m
   .rw[c,vH];constructor
    .rintro(q|⟨p,m,e⟩)
     .split at q
      .rename_i e;exact .inr ⟨_,bT,by rw[e]⟩
      .exact .inl q
     .exact .inr ⟨p,cL _ m,e⟩
    .rintro(q|⟨p,m,e⟩)
     .left;split
      .rfl
      .exact q
     .rcases dJ.1 m with rfl|m
      .left;rw[if_pos (zS e).symm]
       rfl
      .exact .inr ⟨p,m,e⟩
theorem OR {v:aD->Int}:∀ {ps:aad} {kn:Kn},(∀ p∈ps,val v p.1=p.2)->(∀ p∈ps,∀ z,p.1=.inr z->∀ u,cC kn z=aa u->u=v z)->∃ gq,jP ky kn ps=aa gq
 |[],kn,_,_=>⟨kn,rfl⟩
 |p::ps,kn,h1,h2=>by
  obtain⟨k,x⟩:=p;have hx:val v k=x:=h1 _ bT;have st:∃ k1,ky kn (k,x)=aa k1/\∀ z u,cC k1 z=aa u->cC kn z=aa u\/u=v z:=by
   cases k with
   |inl i=>exact⟨kn,if_pos hx,λz u e=>.inl e⟩
   |inr z=>
    have e:(cC kn z).getD x=x:=by
     cases q:cC kn z with
     |none=>rfl
     |some u=>exact(h2 _ bT z rfl u q).trans hx
    refine⟨putN kn z x,if_pos e,λy u hy=>?_⟩
    rw[vH] at hy;split at hy
    .rename_i q;right;rw[q];exact(fM hy).symm.trans hx.symm
    .exact .inl hy
  obtain⟨k1,e1,l1⟩:=st;obtain⟨gq,e2⟩:=OR (v:=v) (ps:=ps) (kn:=k1) (λp m=>h1 p (cL _ m)) λp m z ez u hu=>by
   rcases l1 z u hu with q|q
   .exact h2 p (cL _ m) z ez u q
   .exact q
  exact⟨gq,by
   show(ky kn (k,x)).bind _=_;rw[e1];exact e2⟩
theorem Xb (L R K:L2.Slot)(kn:Kn)(E3:kn.length<=1000)(p:aG×Int) :
  Goes (aN (ba .a (ck (aj (ah bo (cR (aB 3) (aB 4) (aB 5)) (aB 5))) (cT (cU (aj (bz (cM "str") (aB 4)))) (aj (ah bo (aB 4) (aB 5))))) (bB 1 .s (eC .none)) bN)
   (ba .s (aj (bz (cM "str") (aB 4))) (eB 3 .s (aB 5) .s (aB 4)) bN)) [L,R,K,aa (1,bj kn),aa (0,kD p.1),aa (0,.int p.2)]
   (sP (λgq Y'=>∃ x4 x5:L2.Slot,Y'=[L,R,K,aa (1,bj gq),x4,x5]) .none (ky kn p)):=by
 obtain⟨k,v⟩:=p
 let Y:aQ:=[L,R,K,aa (1,bj kn),aa (0,kD k),aa (0,.int v)]
 have lz:(DN kn).length<sizeLine:=sX (by simp[DN];lia)
 have b1:aj (ah bo (cR (aB 3) (aB 4) (aB 5)) (aB 5)) (vA Y)=aa (decide (((bL (DN kn) k).getD (.int v)) ≠ .int v)):=by
  have g:=BD (fd:=aB 3) (fk:=aB 4) (fx:=aB 5) (Y:=vA Y) (kds:=DN kn) (kd:=kD k) (x:=.int v) rfl rfl (Aa2 k) rfl (su kn);have:∃ u:Int,(bL (DN kn) k).getD (.int v)=.int u:=by
   cases k with
   |inl i=>rw[HM];exact⟨v,rfl⟩
   |inr z=>rw[xU];cases cC kn z with
    |none=>exact⟨v,rfl⟩
    |some u=>exact⟨u,rfl⟩
  obtain⟨u,eu⟩:=this;rw[eu] at g ⊢;refine cH (aJ (a:=.int u) (b:=.int v) g rfl ?_);rw[ne_int];simp
 have hs:cM "str" (kD k)=aa (.bool (isS k)):=(GM k).trans (by cases k<;>rfl)
 have b2:cT (cU (aj (bz (cM "str") (aB 4)))) (aj (ah bo (aB 4) (aB 5))) (vA Y)=aa (!isS k&&decide (k ≠ .inl v)):=mV (lJ (sM (a:=kD k) rfl hs)) λ_=>cH (aJ (a:=kD k) (b:=.int v) rfl rfl (Oh k v))
 have b:bV .a (ck (aj (ah bo (cR (aB 3) (aB 4) (aB 5)) (aB 5))) (cT (cU (aj (bz (cM "str") (aB 4)))) (aj (ah bo (aB 4) (aB 5))))) Y=_:=mP b1 (λ_=>b2)
 have b3:bV .s (aj (bz (cM "str") (aB 4))) Y=aa (isS k):=cH (sM (a:=kD k) rfl hs);cases k with
 |inl i=>
  rw[HM] at b;have b:=b.trans (show _=aa (decide (i≠v)) by simp[isS])
  by_cases h:i=v
  .refine dB (gL (b.trans (by simp[h]))) (iB b3 (iC ?_))
   show sP _ _ (if i=v then aa kn else ab) _
   rw[if_pos h];exact⟨_,.inl rfl,_,_,rfl⟩
  .refine kF (fL (b.trans (by simp[h])) (cO (d:=.none) rfl ⟨_,rfl,?_⟩))
   show sP _ _ (if i=v then aa kn else ab) _
   rw[if_neg h]
   rfl
 |inr z=>
  have b:=b.trans (show _=aa (decide ((cC kn z).getD v≠v)) by
   rw[xU];cases cC kn z<;>simp[isS])
  by_cases h:(cC kn z).getD v=v
  .refine dB (gL (b.trans (by simp[h]))) (fL b3 ⟨.nx [L,R,K,aa (1,bj (putN kn z v)),aa (0,.str z),aa (0,.int v)],?_,?_⟩)
   .show(if (DN kn).length<sizeLine then aa (Out.nx [L,R,K,aa (1,.dict (putD (DN kn) (.inr z) (.int v))),aa (0,.str z),aa (0,.int v)]) else ab)=_
    rw[if_pos lz,Ah]
   .show sP _ _ (if (cC kn z).getD v=v then aa (putN kn z v) else ab) _
    rw[if_pos h];exact⟨_,.inl rfl,_,_,rfl⟩
  .refine kF (fL (b.trans (by simp[h])) (cO (d:=.none) rfl ⟨_,rfl,?_⟩))
   show sP _ _ (if (cC kn z).getD v=v then aa (putN kn z v) else ab) _
   rw[if_neg h]
   rfl
abbrev jF (l:Ln)(row:aai)(kn:Kn):Option Kn:=jP ky kn (l.2.zip row)
theorem YT (l:Ln)(row:aai)(kn:Kn)(hk:l.2.length<=100)(hn:kn.length<=800):JL [aO l,bF row,bj kn]=aa (mK (jF l row kn)):=by
 rw[7];refine cJ (aX rfl (by show(if f6 (DN kn)=af then aa (ED (DN kn)) else ab)=_;rw[su];rfl)) (by simp) ?_
 have lz:(l.2.zip row).length<=100:=by rw[zW];lia
 refine Of (λgq Y'=>∃ x4 x5:L2.Slot,Y'=[s0 (aO l),s0 (bF row),s0 (bj kn),aa (1,bj gq),x4,x5]) .none (jF l row kn) (Lf (q:=OI) ky _ .none (gm ?_) ⟨ab,ab,rfl⟩ ?_) ?_ ?_
 .show iZ (aE (ah ai (aB 0) (eC (.int 1))) (aE (aB 1) aH)) (vS [s0 (aO l),s0 (bF row),s0 (bj kn),aa (1,bj kn),ab,ab])=_;unfold iZ;rw[show aE (ah ai (aB 0) (eC (.int 1))) (aE (aB 1) aH) (vS [s0 (aO l),s0 (bF row),s0 (bj kn),aa (1,bj kn),ab,ab])=aa [tK l.2,tI row] from rfl,<-Wr]
  rfl
 .rintro pre p post gq _ kr hf ⟨x4,x5,rfl⟩;have zh:gq.length<=1000:=by
   have h1:=xI hf;have h2:pre.length<=(l.2.zip row).length:=by rw[kr];simp
   lia
  exact⟨[s0 (aO l),s0 (bF row),s0 (bj kn),aa (1,bj gq),aa (0,kD p.1),aa (0,.int p.2)],rfl,Xb _ _ _ gq zh p⟩
 .intro hf;rw[hf]
  rfl
 .rintro gq hf _ ⟨x4,x5,rfl⟩;rw[hf];exact⟨_,rfl,rfl⟩
theorem HU {α β γ:Type}(f:α->Option β)(g:β->γ):∀ xs:List α,(xs.findSome? λx=>(f x).map g)=(xs.findSome? f).map g
 |[]=>rfl
 |x::xs=>by
  rw[Cq,Cq];cases f x with
  |none=>exact HU f g xs
  |some b=>rfl
theorem QL (o:Option Kn):kP (mK o) .none=aa (.bool o.isSome):=by cases o<;>rfl
theorem Mx (o:Option Kn):rY (mK o) .none=aa (.bool o.isNone):=by cases o<;>rfl
section
variable {B:aD->bv}{kn:Kn}
theorem Ig (b:Bk kds B wd)(hk:l.2.length<=100)(hn:kn.length<=800):VF [.dict kds,aT hd (ls++[l]),bj kn]=aa (mK ((B l.1).findSome? λrow=>jF l row kn)):=by
 rw[7]
 let R:aQ:=[s0 (.dict kds),s0 (aT hd (ls++[l])),s0 (bj kn)]
 have e0:ah ai (ah ai (aB 1) (eC (.int 1))) (ah dP (aL bA (aE (ah ai (aB 1) (eC (.int 1))) aH)) (eC (.int 1))) (vS (R++[ab,ab,ab]))=aa (aO l):=by
  refine aJ (a:=bc (ls++[l])) (b:=.int (ls.length:Nat)) rfl (aJ (a:=.int ((ls++[l]).length:Nat)) (b:=.int 1) (aX (ds:=[bc (ls++[l])]) rfl (by simp[bA])) rfl ?_) (mT (by simp) |>.trans ?_)
  .show aa (bC _)=_;simp
  .simp
 refine cJ e0 (by simp[R]) ?_
 refine yA (λY'=>∃ x4 x5:L2.Slot,Y'=R++[s0 (aO l),x4,x5]) ((B l.1).findSome? λrow=>(jF l row kn).map bj) (sY (q:=bF) _ _ (gm (pH (b.get (t:=l.1) rfl rfl))) ⟨ab,ab,rfl⟩ ?_) ?_ ?_
 .rintro row m _ ⟨x4,x5,rfl⟩;refine⟨R++[s0 (aO l),s0 (bF row),x5],rfl,?_⟩;refine cJ (d:=mK (jF l row kn)) (aX (ds:=[aO l,bF row,bj kn]) rfl (YT l row kn hk hn)) (by simp[R]) ?_
  have t1:bV .s (aj (ah kP (aB 5) (eC .none))) (R++[s0 (aO l),s0 (bF row),s0 (mK (jF l row kn))])=aa (jF l row kn).isSome:=cH (aJ (a:=mK (jF l row kn)) (b:=.none) rfl rfl (QL _));cases e:jF l row kn with
  |none=>
   rw[e] at t1;exact iB t1 (iC ⟨_,.inl rfl,_,_,rfl⟩)
  |some k=>
   rw[e] at t1;exact fL t1 (cO (d:=bj k) rfl rfl)
 .intro r h;rw[HU] at h;obtain⟨k,e,rfl⟩:=iE.1 h;rw[e]
  rfl
 .rintro h _ ⟨x4,x5,rfl⟩;rw[HU] at h;rw[Cg.1 h];exact cO (d:=.none) rfl rfl
theorem Uy (b:Bk kds B wd)(neg:Bool)(ks:aah)(t:aD):fu neg (tK ks) (cN (B t))=aa (.bool (neg != decide (∃ r∈B t,r.map eR=ks))):=by
 show(if (bP (tK ks)&&noDicts ((B t).map bF))=af then aa (eZ (neg != ((B t).map bF).any λz=>bE z (tK ks))) else ab)=_
 rw[GU,WJ,qB,if_pos rfl];have e:∀ r:aai,bE (bF r) (tK ks)=decide (r.map eR=ks):=λr=>by
  rw[show bF r=tK (r.map eR) by unfold bF tK;rw[eN];rfl]
  show iU _ _=_;exact vL _ _
 have:(((B t).map bF).any λz=>bE z (tK ks))=decide (∃ r∈B t,r.map eR=ks):=by
  rw[tV,iW,nE];simp[e]
 rw[this]
def sV (B:aD->bv)(kn:Kn)(l:Ln):Bool:=decide (∃ r∈B l.1,r.map eR=l.2.map (gK kn))
theorem Pf (b:Bk kds B wd)(hl:∀ l∈ls,l.2.length<=100):YA [.dict kds,bc ls,bj kn]=aa (.bool (ls.all (sV B kn))):=by
 rw[7]
 let R:aQ:=[s0 (.dict kds),s0 (bc ls),s0 (bj kn)]
 refine yA (λY'=>∃ x3 x4:L2.Slot,Y'=R++[x3,x4]) (ls.findSome? λl=>if sV B kn l=af then ab else aa (.bool ag)) (sY (q:=aO) _ _ (gm rfl) ⟨ab,ab,rfl⟩ ?_) ?_ ?_
 .rintro l m _ ⟨x3,x4,rfl⟩;refine⟨R++[s0 (.str l.1),s0 (tK l.2)],rfl,?_⟩;have t1:bV .s (aj (ah (fu af) (aL tL (aE (aB 4) (aE (aB 2) aH))) (cR (aB 0) (aB 3) (cD aH)))) (R++[s0 (.str l.1),s0 (tK l.2)])=aa (af != sV B kn l):=cH (aJ (a:=tK (l.2.map (gK kn))) (b:=cN (B l.1)) (aX (ds:=[tK l.2,bj kn]) rfl (BP kn (by have:=hl l m;lia))) (b.get rfl rfl) (Uy b af _ _))
  cases e:sV B kn l with
  |true=>
   rw[e] at t1;exact iB t1 (iC ⟨_,.inl rfl,_,_,rfl⟩)
  |false=>
   rw[e] at t1;exact fL t1 (cO (d:=.bool ag) rfl rfl)
 .intro r h;obtain⟨l,m,e⟩:=rQ h;split at e
  .cases e
  .rename_i q;cases e;rw[show ls.all (sV B kn)=ag from by
    rw[Bool.eq_false_iff];intro z;exact q (iV.1 z l m)]
 .rintro h _ ⟨x3,x4,rfl⟩;have:ls.all (sV B kn)=af:=iV.2 λl m=>by
   have:=List.findSome?_eq_none_iff.1 h l m;split at this
   .assumption
   .cases this
  rw[this];exact cO (d:=.bool af) rfl rfl
end
section
variable {B:aD->bv}{kn:Kn}
structure MatchE (B:aD->List (List Int))(kn:Kn)(ls:List Ln)(k:Kn):Prop where
 more:∀ z u,cC kn z=aa u->cC k z=aa u
 sat:∀ l∈ls,∃ r∈B l.1,l.2.map (gK k)=r.map eR
 dom:∀ z,(cC k z).isSome=af↔(cC kn z).isSome=af\/iq ls (.inr z)
 len:k.length<=kn.length+3*ls.length
theorem Qn {k k':Kn}{x:aG}{v:Int}(h:∀ z u,cC k z=aa u->cC k' z=aa u)(e:gK k x=.inl v):gK k' x=.inl v:=by
 cases x with
 |inl i=>exact e
 |inr z=>
  have e:(match cC k z with|some u=>(eR u:aG)|none=>.inr z)=.inl v:=e
  show(match cC k' z with|some u=>(eR u:aG)|none=>.inr z)=.inl v
  cases q:cC k z with
  |none=>rw[q] at e;cases e
  |some u=>rw[q] at e;rw[h z u q];exact e
theorem RM{row:aai}{k:Kn}(hl:row.length=ks.length)(h:∀ p∈ks.zip row,gK k p.1=.inl p.2):ks.map (gK k)=row.map eR:=by
 induction ks generalizing row with
 |nil=>
  cases row with
  |nil=>rfl
  |cons _ _=>cases hl
 |cons x ks ih=>
  cases row with
  |nil=>cases hl
  |cons r row=>
   rw[vZ] at h;rw[dF,dF,h _ bT,ih (by simpa using hl) λp m=>h p (cL _ m)]
theorem OP{row:aai}(hl:row.length=ks.length){x:aG}:(∃ p∈ks.zip row,p.1=x)↔x∈ks:=by
 induction ks generalizing row with
 |nil=>simp
 |cons y ks ih=>
  cases row with
  |nil=>cases hl
  |cons r row=>
   have:=ih (row:=row) (by simpa using hl)
   simp only[vZ,dJ,exists_eq_or_imp,this];constructor
   .rintro(h|h)
    .exact .inl h.symm
    .exact .inr h
   .rintro(h|h)
    .exact .inl h.symm
    .exact .inr h
theorem Pr{row:aai}{k1 k:Kn}(hr:row∈B l.1)(hl:row.length=l.2.length)(h3:l.2.length<=3)(e:jF l row kn=aa k1)(M:MatchE B k1 ls k):MatchE B kn (l::ls) k:=by
 obtain⟨a,b,c⟩:=IG e;refine⟨λz u h=>M.more z u (a z u h),λl' m=>?_,λz=>?_,?_⟩
 .rcases dJ.1 m with rfl|m
  .exact⟨row,hr,RM hl λp mp=>Qn M.more (b p mp)⟩
  .exact M.sat l' m
 .rw[M.dom,c,OP hl];unfold iq;simp only[dJ,exists_eq_or_imp];exact or_assoc
 .have h1:=xI e;have h2:=M.len;rw[zW] at h1;rw[fZ]
  lia
theorem WH (b:Bk kds B wd):∀ (ls:aak) (n:Nat) (kn:Kn),ls.length<n->(∀ l∈ls,l.2.length<=3/\l.2.length=wd l.1)->kn.length+3*ls.length<=90 ->
  ∃ ks:List Kn,vM n [.dict kds,.list (ls.map aO),bj kn]=aa (.list (ks.map bj))/\ks.length<=40/\∀ k∈ks,MatchE B kn ls k
 |_,0,_,h,_,_=>()
 |[],n+1,kn,_,_,_=>by
  refine⟨[kn],?_,by simp,λk m=>?_⟩
  .rw[7];exact kF (fL (cH (aJ (a:=.int 0) (b:=.int 0) rfl rfl (uY 0 0))) (cO (d:=.list [bj kn]) rfl ⟨_,rfl,rfl⟩))
  .rw[fN.1 m];exact⟨λ_ _ e=>e,λl m=>by simp at m,λz=>by simp[iq],by simp⟩
 |l::ls,n+1,kn,h,hw,hk=>by
  obtain⟨h3,p6⟩:=hw l bT;rw[fZ] at h hk;have E4:ai (.list ((l::ls).map aO)) (.int 0)=aa (aO l):=nN (q:=aO) (j:=0) rfl
  let R:aQ:=[s0 (.dict kds),s0 (.list ((l::ls).map aO)),s0 (bj kn)]
  have main:∃ d,vM (n+1) [.dict kds,.list ((l::ls).map aO),bj kn]=aa d/\∃ ks:List Kn,d=.list (ks.map bj)/\ks.length<=40/\∀ k∈ks,MatchE B kn (l::ls) k:=by
   refine hU rfl ?_;refine dB (gL (cH (aJ (a:=.int ((l::ls).length:Nat)) (b:=.int 0) (aX (ds:=[.list ((l::ls).map aO)]) rfl (by simp[bA])) rfl (uY _ _))|>.trans (by simp;lia))) ?_
   refine cJ (n:=1) (d:=.list []) (lH (ds:=[]) rfl) (by simp) ?_
   refine fW (λY'=>∃ (fs:List Kn) (x4 x5:L2.Slot),Y'=R++[aa (1,.list (fs.map bj)),x4,x5]/\fs.length<=80/\∀ k∈fs,MatchE B kn (l::ls) k) (lG (ds:=(B l.1).map bF) (λ_ Y'=>∃ (fs:List Kn) (x4 x5:L2.Slot),Y'=R++[aa (1,.list (fs.map bj)),x4,x5]/\fs.length<=80/\∀ k∈fs,MatchE B kn (l::ls) k) (gm (pH (b.get (t:=l.1) rfl (aJ (a:=aO l) (b:=.int 0) (aJ (a:=.list ((l::ls).map aO)) (b:=.int 0) rfl rfl E4) rfl rfl)))) ⟨[],ab,ab,rfl,by simp,λk m=>by simp at m⟩ ?_ λY' i=>⟨Y',rfl,i⟩) ?_
   .rintro i d _ hd ⟨fs,x4,x5,rfl,zj,iy⟩;rw[eU] at hd;obtain⟨row,er,rfl⟩:=iE.1 hd;have mr:=jE er;have O2:row.length=l.2.length:=by rw[p6];exact b.wid _ _ mr
    let Y1:aQ:=R++[aa (1,.list (fs.map bj)),s0 (bF row),x5]
    refine⟨Y1,rfl,?_⟩;refine cJ (d:=mK (jF l row kn)) (aX (ds:=[aO l,bF row,bj kn]) (aR (aJ (a:=.list ((l::ls).map aO)) (b:=.int 0) rfl rfl E4) rfl) (YT l row kn () ())) (by simp[Y1,R]) ?_
    have t1:bV .a (cT (aj (ah kP (aB 5) (eC .none))) (aj (ah cy (aL bA (aE (aB 3) aH)) (eC (.int 40))))) (R++[aa (1,.list (fs.map bj)),s0 (bF row),s0 (mK (jF l row kn))])=aa ((jF l row kn).isSome&&decide (fs.length<40)):=mV (cH (aJ (a:=mK (jF l row kn)) (b:=.none) rfl rfl (QL _))) λ_=>cH (aJ (a:=.int (fs.length:Nat)) (b:=.int 40) (aX (ds:=[.list (fs.map bj)]) rfl (by simp[bA])) rfl (by
     show aa (eZ (decide ((fs.length:Int)<40)))=_
     congr 2
     rw[iW];simp
     lia))
    cases e:jF l row kn with
    |none=>
     rw[e] at t1;exact iB t1 (iC ⟨_,.inl rfl,fs,_,_,rfl,zj,iy⟩)
    |some k1=>
     rw[e] at t1;by_cases bu:fs.length<40
     .have hk1:k1.length<=kn.length+3:=by
       have:=xI e;rw[zW] at this
       lia
      obtain⟨ks,e2,l2,a2⟩:=WH b ls n k1 () (λl' m=>hw l' (cL _ m)) ()
      refine fL (t1.trans (by simp[bu])) (Km (ds:=fs.map bj) (ts:=ks.map bj) (aX (ds:=[.dict kds,.list (ls.map aO),bj k1]) (aR rfl (aR (xG rfl (uF rfl) rfl |>.trans (by rw[show(1:Int)=((1:Nat):Int) from rfl,YZ];rfl)) rfl)) e2) rfl (by simp;lia) ⟨_,.inl rfl,fs++ks,s0 (bF row),s0 (mK (aa k1)),?_,by simp;lia,λk m=>?_⟩)
      .show R++[aa (1,kJ (fs.map bj++ks.map bj)),s0 (bF row),s0 (mK (aa k1))]=_;rw[<-hW]
      .rcases fP.1 m with m|m
       .exact iy k m
       .exact Pr mr O2 h3 e (a2 k m)
     .exact iB (t1.trans (by simp[bu])) (iC ⟨_,.inl rfl,fs,_,_,rfl,zj,iy⟩)
   .rintro _ ⟨fs,x4,x5,rfl,zj,iy⟩;have:Goes (bB 1 .s (nU (aB 3) oN (oS (eC (.int 40))))) (R++[s0 (.list (fs.map bj)),x4,x5]) λo=>∃ d,o=.rt d/\∃ ks:List Kn,d=.list (ks.map bj)/\ks.length<=40/\∀ k∈ks,MatchE B kn (l::ls) k:=cO (xG rfl rfl (uF rfl) |>.trans (by rw[show(40:Int)=((40:Nat):Int) from rfl,ZK,<-MF])) ⟨_,rfl,fs.take 40,rfl,by rw[EK];lia,λk m=>iy k (EI m)⟩
    exact this
  obtain⟨d,e,ks,rfl,h1,h2⟩:=main;exact⟨ks,e,h1,h2⟩
end
theorem Pl(h:aO l=aO l'):l=l':=by
 have:=yG l l';rw[<-h] at this;have e:=yG l l;rw[this] at e;simpa using e
theorem UC:∀ {xs ys:aak},xs.map aO=ys.map aO->xs=ys
 |[],[],_=>rfl
 |[],y::ys,h=>by cases h
 |x::xs,[],h=>by cases h
 |x::xs,y::ys,h=>by
  injection h with h1 h2;rw[Pl h1,UC h2]
theorem IF {gn:aah}{h7:aak}(h:aT hd ls=aT gn h7):hd=gn/\ls=h7:=by
 injection h with h;injection h with h1 h2;injection h1 with h1;injection h2 with h2 _;injection h2 with h2;exact⟨JJ h1,UC h2⟩
inductive Beh (wd:aD->Nat)(rs:List Rl)(hd:List aG)(ls:List Ln):Sk->Cf->Prop
 |clash {n i j c:Nat}:gV ls rs "clash" n i j c=af->Beh wd rs hd ls (.five "clash" n i j c) (hd,ls)
 |same {n i j c:Nat}:gV ls rs "same" n i j c=af->Beh wd rs hd ls (.five "same" n i j c) (zM hd (bY ls i c) (bY ls j c),sA ls (bY ls i c) (bY ls j c))
 |put {n i:Nat} {l:Ln}:kE ls rs n i=af->DJ hd ls rs n i l->l.2.length<=3->hJ wd l->Beh wd rs hd ls (.put n i) (hd,ls++[l])
theorem KM{s:Sk}{c':Cf}(W:Now wd hd ls)(hr:∀ r∈rs,ij wd r)(ok:nF ls rs s)(h:lL [aT hd ls,cq s,bx rs]=aa (aT c'.1 c'.2)):Beh wd rs hd ls s c':=by
 cases s with
 |put n i=>
  obtain⟨l,e,p6,h3,_,fr⟩:=VC W hr (show kE ls rs n i=af from ok)
  obtain⟨e1,e2⟩:=IF (fM (h.symm.trans e));rw[show c'=(hd,ls++[l]) from EE e1 e2]
  exact .put ok fr h3 p6
 |five w n i j c=>
  have ok:gV ls rs w n i j c=af:=ok;have e:=UZ W (λr m=>⟨(hr r m).1,(hr r m).2.1⟩) ok
  have hw:=IW W ok;have e:=fM (h.symm.trans e);rcases hw with rfl|rfl
  .unfold qG at e;rw[if_neg (by rw[0])] at e
   obtain⟨e1,e2⟩:=IF e;rw[show c'=(_,_) from EE e1 e2]
   exact .same ok
  .unfold qG at e;rw[if_pos rfl] at e;obtain⟨e1,e2⟩:=IF e;rw[show c'=(hd,ls) from EE e1 e2]
   exact .clash ok
abbrev iu:Sk:=.put 0 0
structure Pth (wd:aD->Nat)(rs:List Rl)(ss:List Sk)(f:Nat->Cf):Prop where
 step:∀ m,m<ss.length->Now wd (f m).1 (f m).2/\nF (f m).2 rs (ss.getD m iu)/\lL [aT (f m).1 (f m).2,cq (ss.getD m iu),bx rs]=aa (aT (f (m+1)).1 (f (m+1)).2)
abbrev Sd:=Cf×Sk×aG×aG
def fq (s:Sd):aA:=.tuple [aT s.1.1 s.1.2,cq s.2.1,.tuple [kD s.2.2.1,kD s.2.2.2]]
def pairOf (ls:aak):Sk->aG×aG
 |.five w _ i j c=>if w = "same" then(eK (bY ls i c) (bY ls j c),eM (bY ls i c) (bY ls j c)) else(.inr "",.inr "")
 |.put _ _=>(.inr "",.inr "")
theorem II (ls:aak)(n i j c:Nat):pairOf ls (.five "same" n i j c)=(eK (bY ls i c) (bY ls j c),eM (bY ls i c) (bY ls j c)):=by
 show(if ("same" : aD) = "same" then(eK (bY ls i c) (bY ls j c),eM (bY ls i c) (bY ls j c)) else(.inr "",.inr ""))=_
 rw[if_pos rfl]
theorem Uo (ls:aak){s:Sk}(h:il s ≠ "same"):pairOf ls s=(.inr "",.inr ""):=by
 cases s with
 |put _ _=>rfl
 |five w n i j c=>
  exact if_neg (show ¬ w = "same" from h)
def oP (f:Nat->Cf)(ss:List Sk)(m:Nat):Sd:=(f (m+1),ss.getD m iu,pairOf (f m).2 (ss.getD m iu))
def fG (f:Nat->Cf)(ss:List Sk)(n:Nat):List Sd:=(bD n).map (oP f ss)
theorem RJ (f:Nat->Cf)(ss:List Sk)(n:Nat):fG f ss (n+1)=fG f ss n++[oP f ss n]:=by
 unfold fG;rw[Cj,hW]
 rfl
def gA (cw:List Sd)(k:aG):aG:=cw.foldl (λk s=>if il s.2.1 = "same" /\ k=s.2.2.2 then s.2.2.1 else k) k
theorem QE (cw:List Sd)(s:Sd)(k:aG):gA (cw++[s]) k=if il s.2.1 = "same" /\ gA cw k=s.2.2.2 then s.2.2.1 else gA cw k:=by
 unfold gA;rw[EN]
 rfl
theorem UJ {ss:List Sk}{f:Nat->Cf}(P:Pth wd rs ss f)(hr:∀ r∈rs,ij wd r):∀ n,n<=ss.length->(∀ l∈(f 0).2,(l.1,l.2.map (gA (fG f ss n)))∈(f n).2)/\(f n).1=(f 0).1.map (gA (fG f ss n))
 |0,_=>⟨λl m=>by
   show(l.1,l.2.map λk=>k)∈_
   rw[List.map_id'];exact m,by
   show _=(f 0).1.map λk=>k
   rw[List.map_id']⟩
 |n+1,h=>by
  obtain⟨i1,i2⟩:=UJ P hr n ()
  obtain⟨W,ok,bh⟩:=P.step n ()
  have b:=KM W hr ok bh;rw[RJ];have st:∀ k,gA (fG f ss n++[oP f ss n]) k=if il (ss.getD n iu) = "same" /\ gA (fG f ss n) k=(pairOf (f n).2 (ss.getD n iu)).2 then(pairOf (f n).2 (ss.getD n iu)).1 else gA (fG f ss n) k:=λk=>QE _ _ k
  generalize ss.getD n iu=s at b st;generalize hc:f (n+1)=c' at b;have same:il s ≠ "same" -> ∀ ks:aah,ks.map (gA (fG f ss n++[oP f ss n]))=ks.map (gA (fG f ss n)):=λq ks=>kZ λk _=>by rw[st,if_neg λz=>q z.1]
  cases b with
  |clash _=>
   have q:=same (show("clash" : aD) ≠ "same" by rw[0])
   exact⟨λl m=>by rw[q];exact i1 l m,by rw[q];exact i2⟩
  |put _ _ _ _=>
   have q:=same (show("put" : aD) ≠ "same" by rw[0])
   exact⟨λl m=>by rw[q];exact fP.2 (.inl (i1 l m)),by rw[q];exact i2⟩
  |@same n' i j c _=>
   have q:∀ ks:aah,ks.map (gA (fG f ss n++[oP f ss n]))=(ks.map (gA (fG f ss n))).map (gU (eM (bY (f n).2 i c) (bY (f n).2 j c)) (eK (bY (f n).2 i c) (bY (f n).2 j c))):=λks=>by
    rw[eN];refine kZ λk _=>?_
    rw[st];rw[II];show(if ("same" : aD) = "same" /\ _ then _ else _)=gU _ _ _
    unfold gU;simp
   refine⟨λl m=>?_,?_⟩
   .rw[q];exact Acs.2 (cG.2 ⟨_,i1 l m,rfl⟩)
   .show zM (f n).1 _ _=_;rw[q,i2]
theorem FQ (k:aG):cM "str" (kD k)=aa (.bool (isS k)):=(GM k).trans (by cases k<;>rfl)
theorem Yd {ss:List Sk}{f:Nat->Cf}(P:Pth wd rs ss f)(hr:∀ r∈rs,ij wd r)(hl:ss.length<=1000):XG [aT (f 0).1 (f 0).2,i9 ss,bx rs]=aa (.list ((fG f ss ss.length).map fq)):=by
 rw[7]
 let A:L2.Slot:=s0 (aT (f 0).1 (f 0).2)
 let SS:L2.Slot:=s0 (i9 ss)
 let RS:L2.Slot:=s0 (bx rs)
 refine cJ (d:=aT (f 0).1 (f 0).2) rfl (by simp) ?_
 refine cJ (n:=1) (d:=.list []) (lH (ds:=[]) rfl) (by simp) ?_
 refine fW (λY'=>∃ x5 x6:L2.Slot,Y'=[A,SS,RS,s0 (aT (f ss.length).1 (f ss.length).2),aa (1,.list ((fG f ss ss.length).map fq)),x5,x6]) (lG (ds:=ss.map cq) (λm Y'=>m<=ss.length/\∃ x5 x6:L2.Slot,Y'=[A,SS,RS,s0 (aT (f m).1 (f m).2),aa (1,.list ((fG f ss m).map fq)),x5,x6]) (gm rfl) ⟨fY _,ab,ab,rfl⟩ ?_ λY' i=>⟨Y',rfl,by rw[fA] at i;exact i.2⟩) ?_
 .rintro m d _ hd ⟨_,x5,x6,rfl⟩;have hm:m<ss.length:=by
   have:=(eW.1 hd).1
   rwa [fA] at this
  rw[eU,getD_some iu hm] at hd;cases hd;obtain⟨W,ok,bh⟩:=P.step m hm;have hs:oP f ss m=(f (m+1),ss.getD m iu,pairOf (f m).2 (ss.getD m iu)):=rfl;rw[RJ,hs];generalize ss.getD m iu=s at ok bh;generalize f (m+1)=c' at bh
  let L4:L2.Slot:=aa (1,.list ((fG f ss m).map fq))
  let N:L2.Slot:=s0 (aT (f m).1 (f m).2)
  refine⟨[A,SS,RS,N,L4,s0 (cq s),x6],rfl,?_⟩;refine cJ (d:=.tuple [.str "",.str ""]) (jQ (ds:=[.str "",.str ""]) rfl) (by simp) ?_
  have fin:Goes (aN (aU 3 0 .s (aL lL (aE (aB 3) (aE (aB 5) (aE (aB 2) aH))))) (dE 4 .s (cK (aE (aB 3) (aE (aB 5) (aE (aB 6) aH)))))) [A,SS,RS,N,L4,s0 (cq s),s0 (.tuple [kD (pairOf (f m).2 s).1,kD (pairOf (f m).2 s).2])] λo=>∃ Y2,(o=.nx Y2\/o=.ct Y2)/\m+1<=ss.length/\∃ x5 x6:L2.Slot,Y2=[A,SS,RS,s0 (aT c'.1 c'.2),aa (1,.list ((fG f ss m++[(c',s,pairOf (f m).2 s)]).map fq)),x5,x6]:=by
   refine cJ (d:=aT c'.1 c'.2) (aX (ds:=[aT (f m).1 (f m).2,cq s,bx rs]) rfl bh) (by simp) ?_
   refine qV (d:=fq (c',s,pairOf (f m).2 s)) (ds:=(fG f ss m).map fq) (jQ (ds:=[aT c'.1 c'.2,cq s,.tuple [kD (pairOf (f m).2 s).1,kD (pairOf (f m).2 s).2]]) rfl) rfl (by simp[fG];lia) ⟨_,.inl rfl,(),s0 (cq s),s0 (.tuple [kD (pairOf (f m).2 s).1,kD (pairOf (f m).2 s).2]),?_⟩
   rw[hW]
   rfl
  have t1:bV .s (aj (ah aw (ah ai (aB 5) (eC (.int 0))) (eC (.str "same")))) [A,SS,RS,N,L4,s0 (cq s),s0 (.tuple [.str "",.str ""])]=aa (decide (il s = "same")):=cH (aJ (a:=.str (il s)) (b:=.str "same") (aJ (a:=cq s) (b:=.int 0) rfl rfl (xW s)) rfl (iQ _ _));by_cases hw:il s = "same"
  .cases s with
   |put n i=>exact absurd hw (show("put" : aD) ≠ "same" by rw[0])
   |five w n i j c=>
    have hw:w = "same":=hw;subst hw;obtain⟨h1,h2,h3,h4,h5⟩:=tM W (show gV (f m).2 rs "same" n i j c=af from ok)
    have hi:i<(f m).2.length:=()
    rw[II] at fin ⊢;generalize ha:bY (f m).2 i c=a at fin;generalize hb:bY (f m).2 j c=b at fin;have ga:∀ x6:L2.Slot,ah ai (ah ai (ah ai (ah ai (aB 3) (eC (.int 1))) (ah ai (aB 5) (eC (.int 2)))) (eC (.int 1))) (ah ai (aB 5) (eC (.int 4))) (vS [A,SS,RS,N,L4,s0 (cq (.five "same" n i j c)),x6])=aa (kD a):=λx6=>aJ (a:=tK ((f m).2.getD i ar).2) (b:=.int c) (aJ (a:=aO ((f m).2.getD i ar)) (b:=.int 1) (aJ (a:=bc (f m).2) (b:=.int i) (aJ (a:=aT (f m).1 (f m).2) (b:=.int 1) rfl rfl rfl) (aJ (a:=df "same" n i j c) (b:=.int 2) rfl rfl rfl) (mT hi)) rfl rfl) (aJ (a:=df "same" n i j c) (b:=.int 4) rfl rfl rfl) (by rw[qM h3];exact congrArg (λk=>aa (kD k)) ha)
    have gb:∀ x6:L2.Slot,ah ai (ah ai (ah ai (ah ai (aB 3) (eC (.int 1))) (ah ai (aB 5) (eC (.int 3)))) (eC (.int 1))) (ah ai (aB 5) (eC (.int 4))) (vS [A,SS,RS,N,L4,s0 (cq (.five "same" n i j c)),x6])=aa (kD b):=λx6=>aJ (a:=tK ((f m).2.getD j ar).2) (b:=.int c) (aJ (a:=aO ((f m).2.getD j ar)) (b:=.int 1) (aJ (a:=bc (f m).2) (b:=.int j) (aJ (a:=aT (f m).1 (f m).2) (b:=.int 1) rfl rfl rfl) (aJ (a:=df "same" n i j c) (b:=.int 3) rfl rfl rfl) (mT h2)) rfl rfl) (aJ (a:=df "same" n i j c) (b:=.int 4) rfl rfl rfl) (by rw[qM h4];exact congrArg (λk=>aa (kD k)) hb)
    refine fW (λY'=>Y'=[A,SS,RS,N,L4,s0 (cq (.five "same" n i j c)),s0 (.tuple [kD (eK a b),kD (eM a b)])]) (fL (t1.trans (congrArg aa (decide_eq_true rfl))) ?_) (λY' e=>by rw[e];exact fin)
    refine cJ (d:=.tuple [kD a,kD b]) (jQ (ds:=[kD a,kD b]) (aR (ga _) (aR (gb _) rfl))) (by simp) ?_
    have t2:bV .s (cU (aj (bz (cM "str") (ah ai (aB 6) (eC (.int 1)))))) [A,SS,RS,N,L4,s0 (cq (.five "same" n i j c)),s0 (.tuple [kD a,kD b])]=aa (!isS b):=lJ (sM (a:=kD b) (aJ (a:=.tuple [kD a,kD b]) (b:=.int 1) rfl rfl rfl) (FQ b));unfold eK eM;cases q:isS b with
    |true=>
     rw[q] at t2;exact iB t2 (iC ⟨_,rfl,rfl⟩)
    |false=>
     rw[q] at t2;exact fL t2 (qU (d:=.tuple [kD b,kD a]) (jQ (ds:=[kD b,kD a]) (aR (aJ (a:=.tuple [kD a,kD b]) (b:=.int 1) rfl rfl rfl) (aR (aJ (a:=.tuple [kD a,kD b]) (b:=.int 0) rfl rfl rfl) rfl))) (by simp) ⟨_,rfl,rfl⟩)
  .rw[Uo _ hw] at fin ⊢;exact dB (gL (t1.trans (congrArg aa (decide_eq_false hw)))) fin
 .rintro _ ⟨x5,x6,rfl⟩;exact OU rfl rfl
theorem Iz (cw:List Sd)(k:aG):zF [.list (cw.map fq),kD k]=aa (kD (gA cw k)):=by
 rw[7];refine fW (λY'=>∃ x2 x3 x4:L2.Slot,Y'=[s0 (.list (cw.map fq)),s0 (kD (gA cw k)),x2,x3,x4]) (lG (ds:=cw.map fq) (λm Y'=>∃ x2 x3 x4:L2.Slot,Y'=[s0 (.list (cw.map fq)),s0 (kD (gA (cw.take m) k)),x2,x3,x4]) (gm rfl) ⟨ab,ab,ab,rfl⟩ ?_ λY' i=>⟨Y',rfl,by rw[fA,wA] at i;exact i⟩) ?_
 .rintro m d _ hd ⟨x2,x3,x4,rfl⟩;rw[eU] at hd;obtain⟨s,es,rfl⟩:=iE.1 hd;rw[tU,es];show ∃ Y1,_/\Goes _ _ λo=>∃ Y2,_/\∃ x2 x3 x4:L2.Slot,Y2=[_,s0 (kD (gA (cw.take m++[s]) k)),x2,x3,x4]
  rw[QE];generalize gA (cw.take m) k=k';refine⟨[s0 (.list (cw.map fq)),s0 (kD k'),s0 (aT s.1.1 s.1.2),s0 (cq s.2.1),s0 (.tuple [kD s.2.2.1,kD s.2.2.2])],rfl,?_⟩;have t1:bV .s (cT (aj (ah aw (ah ai (aB 3) (eC (.int 0))) (eC (.str "same")))) (aj (ah aw (aB 1) (ah ai (aB 4) (eC (.int 1)))))) [s0 (.list (cw.map fq)),s0 (kD k'),s0 (aT s.1.1 s.1.2),s0 (cq s.2.1),s0 (.tuple [kD s.2.2.1,kD s.2.2.2])]=aa (decide (il s.2.1 = "same")&&decide (k'=s.2.2.2)):=mV (cH (aJ (a:=.str (il s.2.1)) (b:=.str "same") (aJ (a:=cq s.2.1) (b:=.int 0) rfl rfl (xW _)) rfl (iQ _ _))) λ_=>cH (aJ (a:=kD k') (b:=kD s.2.2.2) rfl (aJ (a:=.tuple [kD s.2.2.1,kD s.2.2.2]) (b:=.int 1) rfl rfl rfl) (Ap _ _))
  by_cases h:il s.2.1 = "same" /\ k'=s.2.2.2
  .rw[if_pos h];exact fL (t1.trans (by simp[h.1,h.2])) (qU (d:=kD s.2.2.1) (aJ (a:=.tuple [kD s.2.2.1,kD s.2.2.2]) (b:=.int 0) rfl rfl rfl) (by simp) ⟨_,.inl rfl,_,_,_,rfl⟩)
  .rw[if_neg h];refine iB (t1.trans (congrArg aa ?_)) (iC ⟨_,.inl rfl,_,_,_,rfl⟩);rw[<-Bool.decide_and];exact decide_eq_false h
 .rintro _ ⟨x2,x3,x4,rfl⟩;exact cO rfl rfl
theorem Zs (neg:Bool)(l:Ln)(ls:aak):fu neg (aO l) (bc ls)=aa (.bool (neg != decide (l∈ls))):=TU neg l ls
theorem PB (cw:List Sd)(hl:ks.length<=1000)(hi:fi Y=aa (ks.map kD))(hc:jY [ab,aa 1] Y=[ab,aa (.list (cw.map fq))]):aL cY (aE (du [ab,aa 1] fi (gB 0) cE (aL zF (aE (aB 1) (aE (aB 0) aH)))) aH) Y=aa (tK (ks.map (gA cw))):=by
 have:=iO (cap:=[ab,aa 1]) (fi:=fi) (T:=gB 0) (t:=cE) (f:=aL zF (aE (aB 1) (aE (aB 0) aH))) (Y:=Y) (xs:=ks) (q:=kD) (λ_=>af) (λk=>kD (gA cw k)) hi () (λk m=>⟨[aa (kD k),aa (.list (cw.map fq))],by rw[hc];rfl,rfl,λ_=>aX (ds:=[.list (cw.map fq),kD k]) rfl (Iz cw k)⟩)
 rw[nD.2 (by simp)] at this
 exact aX (aR this rfl) (by
  show cY [.list (ks.map λk=>kD (gA cw k))]=aa (tK (ks.map (gA cw)))
  unfold tK;rw[eN]
  rfl)
theorem Yx {gy:aah}{gt:aak}(cw:List Sd)(h6:∀ l∈gt,l.2.length<=100)(h4:gy.length<=100)(h1:∀ l∈gt,(l.1,l.2.map (gA cw))∈ls)(h2:hd=gy.map (gA cw)):XQ [aT gy gt,.list (cw.map fq),aT hd ls]=aa (.bool af):=by
 rw[7]
 let R:aQ:=[s0 (aT gy gt),s0 (.list (cw.map fq)),s0 (aT hd ls)]
 refine fW (λY'=>∃ x3 x4:L2.Slot,Y'=R++[x3,x4]) (lG (ds:=gt.map aO) (λ_ Y'=>∃ x3 x4:L2.Slot,Y'=R++[x3,x4]) (gm rfl) ⟨ab,ab,rfl⟩ ?_ λY' i=>⟨Y',rfl,i⟩) ?_
 .rintro m d _ hd ⟨x3,x4,rfl⟩;rw[eU] at hd;obtain⟨l,es,rfl⟩:=iE.1 hd;have ml:=jE es;refine⟨R++[s0 (.str l.1),s0 (tK l.2)],rfl,?_⟩;refine iB (cH (aJ (a:=aO (l.1,l.2.map (gA cw))) (b:=bc ls) (jQ (ds:=[.str l.1,tK (l.2.map (gA cw))]) (aR rfl (aR (PB cw (by have:=h6 l ml;lia) rfl rfl) rfl))) (aJ (a:=aT _ ls) (b:=.int 1) rfl rfl rfl) (Zs af _ _)) |>.trans (by simp[h1 l ml])) (iC ⟨_,.inl rfl,_,_,rfl⟩)
 .rintro _ ⟨x3,x4,rfl⟩;exact cO (aJ (a:=tK (gy.map (gA cw))) (b:=tK hd) (PB cw () rfl rfl) (aJ (a:=aT hd ls) (b:=.int 0) rfl rfl rfl) ((DK _ _).trans (by simp[h2]))) rfl
section
variable {B:aD->bv}
structure RelK (kn:Kn)(v:aD->Int)(ls:List Ln):Prop where
 to:∀ z,iq ls (.inr z)->cC kn z=aa (v z)
 dom:∀ z,(cC kn z).isSome=af->iq ls (.inr z)
theorem RelK.at {kn:Kn}(R:RelK kn v ls)(h:iq ls k\/isS k=ag):gK kn k=.inl (val v k):=by
 cases k with
 |inl i=>rfl
 |inr z=>
  rcases h with h|h
  .show(match cC kn z with|some u=>(eR u:aG)|none=>.inr z)=_
   rw[R.to z h]
   rfl
  .cases h
theorem RelK.row {kn:Kn}(R:RelK kn v ls)(h:∀ z,fX z∈ks->iq ls (.inr z)):ks.map (gK kn)=(ks.map (val v)).map eR:=by
 rw[eN];refine kZ λk m=>?_
 cases k with
 |inl i=>rfl
 |inr z=>exact R.at (.inl (h z m))
structure Led (B:aD->List (List Int))(ans:List Int)(hd:List aG)(ls:List Ln)(kn:Kn):Prop where
 ex:∃ v,RelK kn v ls/\uD B v ls/\hd.map (val v)=ans
 hn:∀ z,fX z∈hd->iq ls (.inr z)
def qC (kn:Kn)(g:aD):Kn:=kn.filter λp=>decide (p.1≠g)
theorem Ii (kn:Kn)(g:aD):rV (DN kn) (.inr g)=DN (qC kn g):=by
 unfold rV DN qC;rw[List.filter_map]
 congr 1
 refine List.filter_congr λp _=>?_
 show decide (bO (.str p.1)≠aa (.inr g))=decide (p.1≠g);rw[iW];simp[bO]
theorem QT (kn:Kn)(g z:aD):cC (qC kn g) z=if z=g then ab else cC kn z:=by
 unfold cC qC;induction kn with
 |nil=>simp
 |cons p r ih=>
  rw[wF];by_cases h:p.1=g
  .rw[if_neg (by simp[h]),ih,gF]
   by_cases hz:z=g
   .rw[if_pos hz,if_pos hz]
   .rw[if_neg hz,if_neg hz,show decide (p.1=z)=ag from decide_eq_false λq=>hz (q.symm.trans h)]
  .rw[if_pos (by simp[h]),gF,gF]
   by_cases hz:p.1=z
   .rw[show decide (p.1=z)=af from decide_eq_true hz,if_neg λq=>h (hz.trans q)]
   .rw[show decide (p.1=z)=ag from decide_eq_false hz]
    exact ih
theorem Xt(h:isS a=af\/isS b=af):∃ g,eM a b=.inr g:=by
 unfold eM;cases b with
 |inr z=>exact⟨z,rfl⟩
 |inl i=>
  cases a with
  |inr z=>exact⟨z,rfl⟩
  |inl j=>simp[isS] at h
theorem Led.same {ans:aai}{kn:Kn}(L:Led B ans hd ls kn)(W:Now wd hd ls)(hr:∀ r∈rs,ij wd r)(hk:∀ r∈rs,kR B r)(ok:gV ls rs "same" n i j c=af) :
  ∃ g,eM (bY ls i c) (bY ls j c)=.inr g/\gK kn (eK (bY ls i c) (bY ls j c))=gK kn (eM (bY ls i c) (bY ls j c))/\(cC kn g).isSome=af/\Led B ans (zM hd (bY ls i c) (bY ls j c)) (sA ls (bY ls i c) (bY ls j c)) (qC kn g):=by
 obtain⟨v,R,S,ea⟩:=L.ex;obtain⟨ev,ne⟩:=TL W hr hk S ok;obtain⟨h1,h2,h3,h4,h5⟩:=tM W ok;have ia:=NL (ls:=ls) (i:=i) (c:=c) () h3
 have ib:=NL (ls:=ls) (i:=j) (c:=c) h2 h4;have hw:isS (bY ls i c)=af\/isS (bY ls j c)=af:=by
  unfold lE at h5;by_cases q:(isS (bY ls i c)||isS (bY ls j c))=af
  .exact Bool.or_eq_true_iff.1 q
  .rw[if_neg q] at h5;exact absurd h5 (by rw[0])
 generalize bY ls i c=a at *;generalize bY ls j c=b at *;obtain⟨g,eg⟩:=Xt hw;have ig:iq ls (eM a b):=by unfold eM;split<;>assumption
 have ik:iq ls (eK a b):=by unfold eK;split<;>assumption
 have O3:val v (eK a b)=val v (eM a b):=by
  unfold eK eM;split
  .exact ev
  .exact ev.symm
 have nk:eK a b ≠ .inr g:=by
  rw[<-eg];unfold eK eM;split
  .exact ne
  .exact ne.symm
 have tn:∀ z,iq (sA ls a b) (.inr z)↔z≠g/\iq ls (.inr z):=λz=>by
  rw[Mi,eg];constructor
  .rintro⟨k0,i0,e⟩;unfold gU at e;split at e
   .refine⟨λq=>nk (by rw[e,q]),?_⟩
    rw[<-e];exact ik
   .rename_i q;subst e;exact⟨λz=>q (by rw[z]),i0⟩
  .rintro⟨q,i0⟩;exact⟨.inr z,i0,if_neg λe=>q (zS e)⟩
 refine⟨g,eg,by rw[R.at (.inl ik),R.at (.inl ig),O3],by rw[R.to g (eg ▸ ig)];rfl,⟨v,⟨λz hz=>?_,λz hz=>?_⟩,Wd ev S,?_⟩,λz hz=>?_⟩
 .obtain⟨q,i0⟩:=(tn z).1 hz;rw[QT,if_neg q];exact R.to z i0
 .rw[QT] at hz;split at hz
  .cases hz
  .rename_i q;exact(tn z).2 ⟨q,R.dom z hz⟩
 .rw[<-ea,eN];exact kZ λk _=>RF ev
 .obtain⟨k0,m0,e⟩:=cG.1 hz;rw[tn];rw[eg] at e;unfold gU at e;split at e
  .exact⟨λq=>nk (by rw[e,q]),by rw[<-e];exact ik⟩
  .rename_i q;subst e;exact⟨λz=>q (by rw[z]),L.hn z m0⟩
theorem Led.put {ans:aai}{kn:Kn}(L:Led B ans hd ls kn)(W:Now wd hd ls)(hr:∀ r∈rs,ij wd r)(hk:∀ r∈rs,kR B r)(hB:∀ t,∀ r∈B t,r.length=wd t)(ok:kE ls rs n i=af)(F:DJ hd ls rs n i l)(hl:l.2.length=wd l.1) :
  ∃ k2,((B l.1).findSome? λrow=>jF l row kn)=aa k2/\k2.length<=kn.length+l.2.length/\Led B ans hd (ls++[l]) k2:=by
 obtain⟨v,R,S,ea⟩:=L.ex;obtain⟨row,mr,v',av,er⟩:=Pd W hr hk hB S ok F;have O4:row.length=l.2.length:=by rw[<-er,fA]
 have zv:∀ p∈l.2.zip row,val v' p.1=p.2:=by
  rw[<-er];have:∀ ks:aah,∀ p∈ks.zip (ks.map (val v')),val v' p.1=p.2:=λks=>by
   induction ks with
   |nil=>intro p m;simp at m
   |cons k ks ih=>
    intro p m;rw[dF,vZ] at m;rcases dJ.1 m with rfl|m
    .rfl
    .exact ih p m
  exact this l.2
 obtain⟨k1,e1⟩:=OR (v:=v') (ps:=l.2.zip row) (kn:=kn) zv λp _ z _ u hu=>by
  have iz:=R.dom z (by rw[hu];rfl)
  have:=R.to z iz;rw[hu] at this;rw[fM this];exact(av z (.inr iz)).symm
 have u9:((B l.1).findSome? λrow=>jF l row kn).isSome=af:=by
  rw[List.findSome?_isSome_iff];exact⟨row,mr,by rw[show jF l row kn=aa k1 from e1];rfl⟩
 obtain⟨k2,e2⟩:=pS.1 u9;obtain⟨va,m2,f2⟩:=rQ e2;have ql:va.length=l.2.length:=by rw[hl];exact hB _ _ m2
 obtain⟨a,b,c⟩:=IG f2;have dm:∀ z,(cC k2 z).isSome=af↔(cC kn z).isSome=af\/fX z∈l.2:=λz=>by rw[c,OP ql]
 have ap:∀ {k:aG},iq (ls++[l]) k↔iq ls k\/k∈l.2:=by
  intro k;unfold iq;constructor
  .rintro⟨x,m,h⟩;rcases fP.1 m with m|m
   .exact .inl ⟨x,m,h⟩
   .rw[fN.1 m] at h;exact .inr h
  .rintro(⟨x,m,h⟩|h)
   .exact⟨x,fP.2 (.inl m),h⟩
   .exact⟨l,by simp,h⟩
 let v2:aD->Int:=λz=>(cC k2 z).getD 0
 have dL:∀ z,iq ls (.inr z)->v2 z=v z:=λz iz=>by
  show(cC k2 z).getD 0=v z;rw[a z _ (R.to z iz)]
  rfl
 have vk:∀ {k:aG},(∀ z,k=.inr z->iq ls (.inr z))->val v2 k=val v k:=λ{k} h=>by
  cases k with
  |inl i=>rfl
  |inr z=>exact dL z (h z rfl)
 have R2:RelK k2 v2 (ls++[l]):=by
  refine⟨λz hz=>?_,λz hz=>ap.2 ?_⟩
  .have:(cC k2 z).isSome=af:=(dm z).2 ((ap.1 hz).imp (λi=>by rw[R.to z i];rfl) id)
   obtain⟨u,hu⟩:=pS.1 this;show cC k2 z=aa ((cC k2 z).getD 0);rw[hu]
   rfl
  .exact((dm z).1 hz).imp (R.dom z) id
 refine⟨k2,e2,by have:=xI f2;rw[zW] at this;lia,⟨v2,R2,λx m=>?_,?_⟩,λz hz=>ap.2 (.inl (L.hn z hz))⟩
 .rcases fP.1 m with m|m
  .have:oO v2 x=oO v x:=kZ λk mk=>vk λz e=>⟨x,m,e ▸ mk⟩
   rw[this];exact S x m
  .rw[fN.1 m];have e3:=RM (k:=k2) ql b;rw[R2.row λz hz=>ap.2 (.inr hz)] at e3
   have:oO v2 l=va:=by
    have inj:∀ (x y:aai),x.map (eR:Int->aG)=y.map eR->x=y:=λx=>by
     induction x with
     |nil=>intro y h;cases y with
      |nil=>rfl
      |cons _ _=>cases h
     |cons p x ih=>intro y h;cases y with
      |nil=>cases h
      |cons q y=>
       injection h with h1 h2;rw[LQ h1,ih y h2]
    exact inj _ _ e3
   rw[this];exact m2
 .rw[<-ea];exact kZ λk mk=>vk λz e=>L.hn z (e ▸ mk)
end
theorem Uv {Y:aQ}{g:EF}{kd:aA}{key:aG}(h1:dM i Y=aa kds)(h2:g (vS Y)=aa kd)(h3:bO kd=aa key)(h4:(bL kds key).isSome=af)(k:P (.nx (Y.set i (aa (1,.dict (rV kds key)))))):Goes (BB i .s g) Y P:=⟨_,by
 unfold BB;rw[h1,bR];show((g (vS Y)).bind λk=>(bO k).bind λk=>if (bL kds k).isSome=af then aa (Out.nx (Y.set i (aa (1,.dict (rV kds k))))) else ab)=_
 rw[h2,bR,h3,bR,if_pos h4],k⟩
section
variable {B:aD->bv}
theorem Hi {ss:List Sk}{f:Nat->Cf}(P:Pth wd rs ss f)(b:Bk kds B wd)(hr:∀ r∈rs,ij wd r)(hk:∀ r∈rs,kR B r)(hl:ss.length<=120)(h6:∀ l∈(f ss.length).2,l.2.length<=100)(h4:(f 0).1.length<=100)(h4':(f ss.length).1.length<=100)
  {ans:aai} {kn:Kn} (L0:Led B ans (f 0).1 (f 0).2 kn) (E3:kn.length<=100):VW [aT (f 0).1 (f 0).2,bj kn,.list ((fG f ss ss.length).map fq),.dict kds]=aa (.bool af):=by
 have ans_of:∀ {hd:aah} {ls:aak} {k:Kn},Led B ans hd ls k->hd.map (gK k)=ans.map eR:=λ{hd ls k} L=>by
  obtain⟨v,R,_,e⟩:=L.ex;rw[R.row L.hn,e]
 rw[7]
 let A:L2.Slot:=s0 (aT (f 0).1 (f 0).2)
 let S:L2.Slot:=s0 (.list ((fG f ss ss.length).map fq))
 let K:L2.Slot:=s0 (.dict kds)
 let Z:L2.Slot:=s0 (tK (ans.map eR))
 refine cJ (d:=tK (ans.map eR)) ((aX (ds:=[tK (f 0).1,bj kn]) (aR (aJ (a:=aT (f 0).1 (f 0).2) (b:=.int 0) rfl rfl rfl) rfl) (BP kn ())).trans (by rw[ans_of L0])) (by simp) ?_
 refine fW (λY'=>∃ (k:Kn) (x5 x6 x7:L2.Slot),Led B ans (f ss.length).1 (f ss.length).2 k/\Y'=[A,s0 (bj k),S,K,Z,x5,x6,x7,ab]) (lG (ds:=(fG f ss ss.length).map fq) (λm Y'=>m<=ss.length/\∃ (k:Kn) (x5 x6 x7:L2.Slot),k.length<=100+3*m/\Led B ans (f m).1 (f m).2 k/\Y'=[A,s0 (bj k),S,K,Z,x5,x6,x7,ab]) (gm rfl) ⟨fY _,kn,ab,ab,ab,E3,L0,rfl⟩ ?_ λY' ⟨_,k,x5,x6,x7,_,i,e⟩=>⟨Y',rfl,k,x5,x6,x7,by simpa [fG] using i,e⟩) ?_
 .rintro m d _ hd ⟨_,k,x5,x6,x7,v8,L,rfl⟩;have hm:m<ss.length:=by
   have:=(eW.1 hd).1;simpa [fG] using this
  have hd:d=fq (oP f ss m):=by
   unfold fG at hd;rw[eN,eU,pU hm] at hd;exact(fM hd).symm
  subst hd;obtain⟨W,ok,bh⟩:=P.step m hm;have be:=KM W hr ok bh;have hs:oP f ss m=(f (m+1),ss.getD m iu,pairOf (f m).2 (ss.getD m iu)):=rfl;rw[hs];generalize ss.getD m iu=s at ok be;generalize f (m+1)=c' at be
  let Y1:aQ:=[A,s0 (bj k),S,K,Z,s0 (aT c'.1 c'.2),s0 (cq s),s0 (.tuple [kD (pairOf (f m).2 s).1,kD (pairOf (f m).2 s).2]),ab]
  refine⟨Y1,rfl,?_⟩;have w0:ah ai (aB 6) (eC (.int 0)) (vS Y1)=aa (.str (il s)):=aJ (a:=cq s) (b:=.int 0) rfl rfl (xW s);have t1:∀ x:aD,bV .s (aj (ah aw (ah ai (aB 6) (eC (.int 0))) (eC (.str x)))) Y1=aa (decide (il s=x)):=λx=>cH (aJ (a:=.str (il s)) (b:=.str x) w0 rfl (iQ _ _))
  cases be with
  |clash h=>
   obtain⟨v,_,Sa,_⟩:=L.ex;exact(Wb W hr hk Sa h).elim
  |@put n i l h F h3 hw=>
   refine dB (gL ((t1 "clash").trans (congrArg aa (decide_eq_false (show ¬ ("put" : aD) = "clash" by rw[0]))))) ?_
   refine fL ((t1 "put").trans (congrArg aa (decide_eq_true rfl))) ?_;obtain⟨k2,e2,l2,L2⟩:=L.put W hr hk b.wid h F hw;refine cJ (d:=bj k2) ((aX (ds:=[.dict kds,aT (f m).1 ((f m).2++[l]),bj k]) rfl (Ig b () ())).trans (by rw[e2];rfl)) (by simp[Y1]) ?_
   exact iB (cH (aJ (a:=bj k2) (b:=.none) rfl rfl (Mx (aa k2)))) (iC ⟨_,.inl rfl,(),k2,_,_,_,(),L2,rfl⟩)
  |@same n i j c h=>
   refine dB (gL ((t1 "clash").trans (congrArg aa (decide_eq_false (show ¬ ("same" : aD) = "clash" by rw[0]))))) ?_
   refine iB ((t1 "put").trans (congrArg aa (decide_eq_false (show ¬ ("same" : aD) = "put" by rw[0])))) ?_
   obtain⟨g,eg,ew,lg,L2⟩:=L.same W hr hk h;have ep:=II (f m).2 n i j c;have p0:ah ai (aB 7) (eC (.int 0)) (vS Y1)=aa (kD (eK (bY (f m).2 i c) (bY (f m).2 j c))):=(aJ (a:=.tuple [kD (pairOf (f m).2 (.five "same" n i j c)).1,kD (pairOf (f m).2 (.five "same" n i j c)).2]) (b:=.int 0) rfl rfl rfl).trans (by rw[ep])
   have p1:∀ x1,ah ai (aB 7) (eC (.int 1)) (vS (Y1.set 1 x1))=aa (.str g):=λx1=>(aJ (a:=.tuple [kD (pairOf (f m).2 (.five "same" n i j c)).1,kD (pairOf (f m).2 (.five "same" n i j c)).2]) (b:=.int 1) rfl rfl rfl).trans (by rw[ep,eg];rfl)
   have t2:bV .s (aj (ah bo (cR (aB 1) (ah ai (aB 7) (eC (.int 0))) (ah ai (aB 7) (eC (.int 0)))) (cR (aB 1) (ah ai (aB 7) (eC (.int 1))) (ah ai (aB 7) (eC (.int 1)))))) Y1=aa ag:=cH ((aJ (a:=kD (gK k (eK (bY (f m).2 i c) (bY (f m).2 j c)))) (b:=kD (gK k (.inr g))) (FW rfl p0) (FW rfl (p1 (s0 (bj k)))) (Bh _ _)).trans (by rw[ew,eg];simp))
   refine dB (gL t2) ?_;refine cJ (n:=1) (d:=bj k) (aX rfl (by show(if f6 (DN k)=af then aa (ED (DN k)) else ab)=_;rw[su];rfl)) (by simp[Y1]) ?_
   refine fW (λY'=>Y'=Y1.set 1 (aa (1,bj (qC k g)))) (Uv (kds:=DN k) (key:=.inr g) rfl (p1 _) rfl (by rw[xU];obtain⟨u,hu⟩:=pS.1 lg;rw[hu];rfl) ⟨_,rfl,by rw[Ii];rfl⟩) ?_
   rintro _ rfl;exact jH (iC ⟨_,.inl rfl,(),qC k g,_,_,_,by have:(qC k g).length<=k.length:=zX _ _;lia,L2,rfl⟩)
 .rintro _ ⟨k,x5,x6,x7,L,rfl⟩;refine cJ (d:=aT (f 0).1 (f 0).2) rfl (by simp) ?_
  have au:(fG f ss ss.length).length=ss.length:=by simp[fG]
  refine fW (λY'=>Y'=[A,s0 (bj k),S,K,Z,x5,x6,x7,s0 (aT (f ss.length).1 (f ss.length).2)]) ?_ ?_
  .have t3:bV .s (aj (ah cz (aL bA (aE (aB 2) aH)) (eC (.int 0)))) [A,s0 (bj k),S,K,Z,x5,x6,x7,s0 (aT (f 0).1 (f 0).2)]=aa (decide (0<ss.length)):=cH (aJ (a:=.int ((ss.length:Nat):Int)) (b:=.int 0) (aX (ds:=[.list ((fG f ss ss.length).map fq)]) rfl (by simp[bA,au])) rfl (by
    show aa (eZ (decide ((ss.length:Int) > 0)))=_
    congr 2
    rw[iW];simp))
   by_cases h0:0<ss.length
   .refine fL (t3.trans (by simp[h0])) (qU (d:=aT (f ss.length).1 (f ss.length).2) ?_ (by simp) ⟨_,rfl,rfl⟩)
    refine aJ (a:=fq (oP f ss (ss.length-1))) (b:=.int 0) (aJ (a:=.list ((fG f ss ss.length).map fq)) (b:=.int ((ss.length-1:Nat):Int)) rfl (aJ (a:=.int ((ss.length:Nat):Int)) (b:=.int 1) (aX (ds:=[.list ((fG f ss ss.length).map fq)]) rfl (by simp[bA,au])) rfl (by
     show aa (bC ((ss.length:Int)-1))=_
     congr 2
     lia)) (nN (q:=fq) (by unfold fG;rw[eU,pU ()];rfl))) rfl ?_
    show aa (aT (f (ss.length-1+1)).1 (f (ss.length-1+1)).2)=_;rw[Nat.sub_add_cancel h0]
   .have e0:ss.length=0:=()
    refine iB (t3.trans (by simp[h0])) (iC ⟨_,rfl,?_⟩)
    have e1:f ss.length=f 0:=by rw[e0]
    show _=[A,s0 (bj k),S,K,Z,x5,x6,x7,s0 (aT (f ss.length).1 (f ss.length).2)];rw[e1]
    rfl
  .rintro _ rfl;obtain⟨v,R,Sa,e⟩:=L.ex;have sb:(f ss.length).2.all (sV B k)=af:=iV.2 λl m=>decide_eq_true ⟨_,Sa l m,(R.row λz hz=>⟨l,m,hz⟩).symm⟩
   exact cO (d:=.bool af) ((qT (x:=af) (y:=af) ((aX (ds:=[.dict kds,bc (f ss.length).2,bj k]) (aR rfl (aR (aJ (a:=aT (f ss.length).1 (f ss.length).2) (b:=.int 1) rfl rfl rfl) rfl)) (Pf b h6)).trans (by rw[sb])) λ_=>aJ (a:=tK ((f ss.length).1.map (gK k))) (b:=tK (ans.map eR)) (aX (ds:=[tK (f ss.length).1,bj k]) (aR (aJ (a:=aT (f ss.length).1 (f ss.length).2) (b:=.int 0) rfl rfl rfl) rfl) (BP k ())) rfl ((DK _ _).trans (by rw[ans_of L];simp)))) rfl
end
theorem CH {r:aai}(h:∀ c∈cs,c<r.length)(hl:cs.length<=1000):oK [bF r,tN cs]=aa (lI (fV r cs)):=by
 rw[7];have:=iO (cap:=[ab,aa 0]) (fi:=ay (aB 1)) (T:=gB 0) (t:=cE) (f:=ah ai (aB 1) (aB 0)) (Y:=vS [s0 (bF r),s0 (tN cs)]) (xs:=cs) (q:=λ(c:Nat)=>bC c) (λ_=>af) (λc=>.int (r.getD c 0)) rfl () (λc m=>⟨[aa (.int c),aa (bF r)],rfl,rfl,λ_=>aJ (a:=bF r) (b:=.int c) rfl rfl (Ip (h c m))⟩)
 rw[nD.2 (by simp)] at this
 exact cO this (by
  unfold fV lI;rw[eN]
  rfl)
theorem RN (neg:Bool)(x:aai)(X:bv):fu neg (lI x) (.list (X.map lI))=aa (.bool (neg != decide (x∈X))):=by
 have lk:∀ y:aai,lI y=.list ((y.map eR).map kD):=λy=>by unfold lI;rw[eN];rfl
 have nd:noDicts (X.map lI)=af:=rB λt m=>by
  obtain⟨y,_,rfl⟩:=cG.1 m;rw[lk];exact yS _
 show(if (bP (lI x)&&noDicts (X.map lI))=af then aa (eZ (neg != (X.map lI).any λz=>bE z (lI x))) else ab)=_
 rw[nd,lk x,Nw,qB,if_pos rfl];have e:∀ y:aai,bE (lI y) (.list ((x.map eR).map kD))=decide (y=x):=λy=>by
  rw[lk];show iU _ _=_;rw[vL,iW];simp only[decide_eq_true_eq];constructor
  .intro h;have:=congrArg (EJ λk:aG=>match k with|.inl i=>i|.inr _=>0) h
   simpa [eN,Function.comp_def] using this
  .intro h;rw[h]
 congr 3
 rw[tV,iW,nE,decide_eq_true_eq];constructor
 .rintro⟨y,my,h⟩;have h:bE (lI y) (.list ((x.map eR).map kD))=af:=h;rw[e] at h;exact of_decide_eq_true h ▸ my
 .intro m;refine⟨x,m,?_⟩;show bE (lI x) (.list ((x.map eR).map kD))=af;rw[e];simp
section
variable {B:aD->bv}
def jg:Rl->aD
 |.key t _=>t
 |.pts t _ _ _ _=>t
theorem GG (r:Rl):ai (bI r) (.int 1)=aa (.str (jg r)):=by cases r<;>rfl
theorem Nd (r:Rl):ai (bI r) (.int 0)=aa (.str (uN r)):=by cases r<;>rfl
theorem Kw (b:Bk kds B wd)(hw:lX wd r)(hc:oe r):∃ G:bv,JE [.dict kds,bI r]=aa (cN G)/\(∀ x∈G,x∈B (jg r))/\(G=[]->kR B r):=by
 have main:∃ d,JE [.dict kds,bI r]=aa d/\∃ G:bv,d=cN G/\(∀ x∈G,x∈B (jg r))/\(G=[]->kR B r):=by
  refine hU rfl ?_
  let K:L2.Slot:=s0 (.dict kds)
  let R:L2.Slot:=s0 (bI r)
  let S:=qc (B (jg r))
  refine cJ (d:=cN S) (aX (ds:=[cN (B (jg r))]) (aR (b.get rfl (aJ (a:=bI r) (b:=.int 1) rfl rfl (GG r))) rfl) (b.sort _)) (by simp) ?_
  have t1:bV .s (aj (ah aw (ah ai (aB 1) (eC (.int 0))) (eC (.str "points")))) [K,R,s0 (cN S),ab,ab,ab,ab]=aa (decide (uN r = "points")):=cH (aJ (a:=.str (uN r)) (b:=.str "points") (aJ (a:=bI r) (b:=.int 0) rfl rfl (Nd r)) rfl (iQ _ _));have lS:S.length<64:=by show(qc _).length<64;rw[Oj];exact b.few _
  have wS:∀ x∈S,x.length=wd (jg r):=λx m=>b.wid _ x (Ajw.1 m)
  cases r with
  |pts t c o d w=>
   obtain⟨O5,O6⟩:(∀ x∈c,x<wd t)/\∀ x∈d,x<wd o:=hw;obtain⟨pj,j8⟩:c.length<=1000/\d.length<=1000:=hc;refine kF (fL (t1.trans (congrArg aa (decide_eq_true rfl))) ?_);have e1:=iO (cap:=[ab,aa 1]) (fi:=ay (cR (aB 0) (ah ai (aB 1) (eC (.int 3))) (cD aH))) (T:=gB 0) (t:=cE) (f:=aL oK (aE (aB 0) (aE (ah ai (aB 1) (eC (.int 4))) aH))) (Y:=vS [K,R,s0 (cN S),ab,ab,ab,ab]) (xs:=B o) (q:=bF) (λ_=>af) (λx=>lI (fV x d)) (pH (b.get rfl (aJ (a:=bI (.pts t c o d w)) (b:=.int 3) rfl rfl rfl))) (by have:=b.few o;lia) (λx m=>⟨[aa (bF x),aa (bI (.pts t c o d w))],rfl,rfl,λ_=>aX (ds:=[bF x,tN d]) (aR rfl (aR (aJ (a:=bI (.pts t c o d w)) (b:=.int 4) rfl rfl rfl) rfl)) (CH (λy my=>by rw[b.wid o x m];exact O6 y my) j8)⟩)
   rw[nD.2 (by simp),show((B o).map λx=>lI (fV x d))=((B o).map λx=>fV x d).map lI by rw[eN];rfl] at e1
   refine cJ (n:=1) e1 (by simp) (jH ?_)
   have e2:=iO (cap:=[ab,aa 3,aa 1]) (fi:=ay (aB 2)) (T:=gB 0) (t:=aj (ah (fu af) (aL oK (aE (aB 0) (aE (ah ai (aB 2) (eC (.int 2))) aH))) (aB 1))) (f:=aB 0) (Y:=vS [K,R,s0 (cN S),s0 (.list (((B o).map λx=>fV x d).map lI)),ab,ab,ab]) (xs:=S) (q:=bF) (λx=>af != decide (fV x c∈(B o).map λx=>fV x d)) bF rfl () (λx m=>⟨[aa (bF x),aa (.list (((B o).map λx=>fV x d).map lI)),aa (bI (.pts t c o d w))],rfl,cH (aJ (a:=lI (fV x c)) (b:=.list (((B o).map λx=>fV x d).map lI)) (aX (ds:=[bF x,tN c]) (aR rfl (aR (aJ (a:=bI (.pts t c o d w)) (b:=.int 2) rfl rfl rfl) rfl)) (CH (λy my=>by rw[wS x m];exact O5 y my) pj)) rfl (RN af _ _)),λ_=>rfl⟩)
   refine cO e2 ⟨_,rfl,_,rfl,_,rfl,λx m=>Ajw.1 (mH.1 m).1,λh x mx=>?_⟩
   have:=List.filter_eq_nil_iff.1 h x (Ajw.2 mx);have:fV x c∈(B o).map λx=>fV x d:=by simpa using this
   obtain⟨y,my,ey⟩:=cG.1 this;exact⟨y,my,ey⟩
  |key t c=>
   have hw:∀ x∈c,x<wd t:=hw;have hc:c.length<=1000:=hc;refine dB (gL (t1.trans (congrArg aa (decide_eq_false (show ¬ ("key" : aD) = "points" by rw[0]))))) ?_
   refine cJ (n:=1) (d:=.list []) (lH (ds:=[]) rfl) (by simp) ?_
   refine cJ (n:=1) (d:=.list []) (lH (ds:=[]) rfl) (by simp) ?_
   let J:Nat->aQ->Prop:=λm Y'=>∃ (G:bv) (x6:L2.Slot),Y'=[K,R,s0 (cN S),ab,aa (1,cN G),aa (1,.list (((S.take m).map λx=>fV x c).map lI)),x6]/\G.length<=m/\(∀ x∈G,x∈S)/\(G=[]->((S.take m).map λx=>fV x c).Nodup)
   refine fW (J S.length) (lG (ds:=S.map bF) J (gm rfl) ⟨[],ab,rfl,bS _,λx m=>by simp at m,λ_=>by simp⟩ ?_ λY' i=>⟨Y',rfl,by rw[fA] at i;exact i⟩) ?_
   .rintro m d _ hd ⟨G,x6,rfl,hG,mG,nG⟩;rw[eU] at hd;obtain⟨x,ex,rfl⟩:=iE.1 hd;have mx:x∈S:=jE ex;have hm:m<S.length:=(eW.1 ex).1;have et:S.take (m+1)=S.take m++[x]:=by rw[tU,ex];rfl
    let T:=(S.take m).map λx=>fV x c
    have at_:∀ (G':bv) (x5:L2.Slot),aL oK (aE (aB 6) (aE (ah ai (aB 1) (eC (.int 2))) aH)) (vS [K,R,s0 (cN S),ab,aa (1,cN G'),x5,s0 (bF x)])=aa (lI (fV x c)):=λG' x5=>aX (ds:=[bF x,tN c]) (aR rfl (aR (aJ (a:=bI (.key t c)) (b:=.int 2) rfl rfl rfl) rfl)) (CH (λy my=>by rw[wS x mx];exact hw y my) hc)
    refine⟨[K,R,s0 (cN S),ab,aa (1,cN G),aa (1,.list (T.map lI)),s0 (bF x)],rfl,?_⟩;have t2:bV .a (aj (ah (fu ag) (aL oK (aE (aB 6) (aE (ah ai (aB 1) (eC (.int 2))) aH))) (aB 5))) [K,R,s0 (cN S),ab,aa (1,cN G),aa (1,.list (T.map lI)),s0 (bF x)]=aa (ag != decide (fV x c∈T)):=cH (aJ (a:=lI (fV x c)) (b:=.list (T.map lI)) (aX (ds:=[bF x,tN c]) (aR rfl (aR (aJ (a:=bI (.key t c)) (b:=.int 2) rfl rfl rfl) rfl)) (CH (λy my=>by rw[wS x mx];exact hw y my) hc)) rfl (RN ag _ _))
    have fin:∀ G':bv,G'.length<=m+1->(∀ x∈G',x∈S)->(G'=[]->((S.take (m+1)).map λx=>fV x c).Nodup)->Goes (dE 5 .s (aL oK (aE (aB 6) (aE (ah ai (aB 1) (eC (.int 2))) aH)))) [K,R,s0 (cN S),ab,aa (1,cN G'),aa (1,.list (T.map lI)),s0 (bF x)] λo=>∃ Y2,(o=.nx Y2\/o=.ct Y2)/\J (m+1) Y2:=λG' h1 h2 h3=>by
     refine qV (ds:=T.map lI) (at_ G' _) rfl (by simp[T];lia) ⟨_,.inl rfl,G',s0 (bF x),?_,h1,h2,h3⟩
     rw[et,hW,hW]
     rfl
    by_cases h:fV x c∈T
    .refine fW (λY'=>Y'=[K,R,s0 (cN S),ab,aa (1,cN (G++[x])),aa (1,.list (T.map lI)),s0 (bF x)]) (fL (t2.trans (by simp[h])) (qV (d:=bF x) (ds:=G.map bF) rfl rfl (by simp;lia) ⟨_,rfl,by
      show [K,R,s0 (cN S),ab,aa (1,kJ (G.map bF++[bF x])),aa (1,.list (T.map lI)),s0 (bF x)]=_;unfold cN;rw[hW]
      rfl⟩)) ?_
     rintro _ rfl;refine fin _ (by simp;lia) (λy my=>?_) (λz=>by simp at z)
     rcases fP.1 my with my|my
     .exact mG y my
     .rw[fN.1 my];exact mx
    .refine dB (gL (t2.trans (by simp[h]))) (fin G () mG λz=>?_)
     rw[et,hW,rO];refine⟨nG z,by simp,λa ha b' hb e=>?_⟩
     have:b'=fV x c:=by simpa using hb
     exact h (this ▸ e ▸ ha)
   .rintro _ ⟨G,x6,rfl,hG,mG,nG⟩;rw[wA] at nG;exact jH (OU rfl ⟨_,rfl,G,rfl,λx m=>Ajw.1 (mG x m),λz x mx y my e=>IL (nG z) x (Ajw.2 mx) y (Ajw.2 my) e⟩)
 obtain⟨d,e,G,rfl,h1,h2⟩:=main;exact⟨G,e,h1,h2⟩
end
def mQ (L:aaq):Nat:=(L.map λp=>p.2.length).sum
theorem Ai {t:aD}{R:bv}:∀ {L:aaq},t∈L.map (·.1)->mQ (jZ L t R)+(gv L t).length=mQ L+R.length
 |[],h=>by simp at h
 |p::L,h=>by
  unfold mQ gv at *;show(((if p.1=t then(p.1,R)::L else p::jZ L t R).map λp=>p.2.length).sum)+_=_
  by_cases hp:p.1=t
  .rw[if_pos hp,gF,show decide (p.1=t)=af from decide_eq_true hp]
   simp
   lia
  .rw[if_neg hp,gF,show decide (p.1=t)=ag from decide_eq_false hp]
   have h':t∈L.map (·.1):=by
    rcases dJ.1 h with e|e
    .exact absurd e.symm hp
    .exact e
   have ih:=Ai (R:=R) h';unfold mQ gv at ih;simp only[dF,List.sum_cons]
   lia
theorem Kc {L:aaq}(nd:(L.map (·.1)).Nodup):(qF (bt L)).Nodup:=by
 have e:qF (bt L)=(L.map (·.1)).map λz=>aa (.inr z:aG):=by
  unfold qF bt;rw[eN,eN]
  rfl
 rw[e];exact Ck.2 (nd.imp λh e=>h (zS (fM e)))
structure LOk (wd:aD->Nat)(L:List Tb):Prop where
 nd:(L.map (·.1)).Nodup
 few:L.length<=10
 rows:∀ p∈L,p.2.length<=8/\∀ r∈p.2,r.length=wd p.1
section
variable {L:aaq}
theorem LOk.bk (o:LOk wd L)(hp:∀ t,1<=wd t):Bk (bt L) (gv L) wd:=R7 hp λp m=>⟨by have:=(o.rows p m).1;lia,(o.rows p m).2⟩
theorem LOk.sum (o:LOk wd L):mQ L<=80:=by
 have:∀ L:aaq,(∀ p∈L,p.2.length<=8)->mQ L<=8*L.length:=λL=>by
  induction L with
  |nil=>intro _;simp[mQ]
  |cons p L ih=>
   intro h;have a:=h p bT;have b:=ih λq m=>h q (cL _ m)
   unfold mQ at *;simp only[dF,List.sum_cons,fZ]
   lia
 have h:=this L λp m=>(o.rows p m).1
 have:=o.few
 lia
theorem LOk.upd (o:LOk wd L)(h1:R.length<=8)(h2:∀ r∈R,r.length=wd t):LOk wd (jZ L t R):=by
 refine⟨by rw[BY];exact o.nd,by rw[Us];exact o.few,λp m=>?_⟩
 rcases BI m with m|⟨e1,e2⟩
 .exact o.rows p m
 .rw[e2,e1];exact⟨h1,h2⟩
theorem VD (G:bv):cQ 1 (cN G)=af:=by
 show(G.map bF).all (cQ 0)=af;rw[wH];exact iV.2 λr _=>QM r
theorem Yn (hr:∀ r∈rs,lX wd r/\oe r)(hp:∀ t,1<=wd t)(o:LOk wd L):∃ L',XR [.dict (bt L),bx rs]=aa (.dict (bt L'))/\LOk wd L'/\∀ r∈rs,kR (gv L') r:=by
 let RS:L2.Slot:=s0 (bx rs)
 have main:Goes zG [aa (2,.dict (bt L)),RS,ab,ab,ab] λout=>∃ L',out=.rt (.dict (bt L'))/\LOk wd L'/\∀ r∈rs,kR (gv L') r:=by
  refine cJ (d:=.bool af) rfl (by simp) ?_
  refine fW (λY'=>∃ (L':aaq) (x3 x4:L2.Slot),Y'=[aa (2,.dict (bt L')),RS,s0 (.bool ag),x3,x4]/\LOk wd L'/\∀ r∈rs,kR (gv L') r) (FX (λn Y=>∃ (L':aaq) (fl:Bool) (x3 x4:L2.Slot),Y=[aa (2,.dict (bt L')),RS,s0 (.bool fl),x3,x4]/\LOk wd L'/\(fl=ag->∀ r∈rs,kR (gv L') r)/\mQ L'+fl.toNat<=n) ?_ 200 81 _ () ⟨L,af,ab,ab,rfl,o,(λz=>nomatch z),by have:=o.sum;simp;lia⟩) ?_
  .rintro n _ ⟨L1,fl,x3,x4,rfl,o1,k1,hn⟩;cases fl with
   |false=>exact .inl ⟨rfl,_,rfl,L1,x3,x4,rfl,o1,k1 rfl⟩
   |true=>
    right;refine⟨rfl,?_⟩;refine cJ (d:=.bool ag) rfl (by simp) ?_
    let J:Nat->aQ->Prop:=λm Y'=>∃ (M2:aaq) (fl:Bool) (x3 x4:L2.Slot),Y'=[aa (2,.dict (bt M2)),RS,s0 (.bool fl),x3,x4]/\LOk wd M2/\mQ M2+fl.toNat<=mQ L1/\(fl=ag->∀ q r,q<m->rs[q]?=aa r->kR (gv M2) r)
    refine lG (ds:=rs.map bI) J (gm rfl) ⟨L1,ag,x3,x4,rfl,o1,by simp,λ_ q r h=>()⟩ ?_ ?_
    .rintro m d _ hd ⟨M2,fl,y3,y4,rfl,o2,h2,k2⟩;rw[eU] at hd;obtain⟨r,er,rfl⟩:=iE.1 hd;have mr:=jE er;have b:=o2.bk hp;obtain⟨G,eG,mG,kG⟩:=Kw b (hr r mr).1 (hr r mr).2
     let D:L2.Slot:=aa (2,.dict (bt M2))
     refine⟨[D,RS,s0 (.bool fl),s0 (bI r),y4],rfl,?_⟩;refine Lg (n:=1) (d:=cN G) (aX (ds:=[.dict (bt M2),bI r]) rfl eG) (VD G) (by simp) ?_
     have t1:bV .a (aj (ah cz (aL bA (aE (aB 4) aH)) (eC (.int 0)))) [D,RS,s0 (.bool fl),s0 (bI r),aa (1,cN G)]=aa (decide (0<G.length)):=cH (aJ (a:=.int (G.length:Nat)) (b:=.int 0) (aX (ds:=[cN G]) rfl (by simp[bA,cN])) rfl (GF _))
     by_cases h0:0<G.length
     .refine fL (t1.trans (by simp[h0])) ?_
      refine cJ (d:=.bool af) rfl (by simp) ?_
      obtain⟨g,mg⟩:∃ g,g∈G:=by
       cases G with
       |nil=>simp at h0
       |cons g G=>exact⟨g,bT⟩
      have zk:=mG g mg;obtain⟨p,mp,ep,_⟩:=BM zk;have ht:jg r∈M2.map (·.1):=cG.2 ⟨p,mp,ep⟩
      let R':=(gv M2 (jg r)).filter λx=>af != decide (x∈G)
      have bu:R'.length<(gv M2 (jg r)).length:=by
       have:R'.length<=(gv M2 (jg r)).length:=zX _ _;refine Nat.lt_of_le_of_ne this λe=>?_
       have:=List.length_filter_eq_length_iff.1 e g zk;simp[mg] at this
      have hw8:(gv M2 (jg r)).length<=8:=by
       obtain⟨q,mq,_,eq⟩:=BM zk;rw[<-eq];exact(o2.rows q mq).1
      have tb:∀ x4 x2:L2.Slot,ah ai (aB 3) (eC (.int 1)) (vS [D,RS,x2,s0 (bI r),x4])=aa (.str (jg r)):=λx4 x2=>aJ (a:=bI r) (b:=.int 1) rfl rfl (GG r)
      have e2:=iO (cap:=[ab,aa 4]) (fi:=ay (ah ai (aB 0) (ah ai (aB 3) (eC (.int 1))))) (T:=gB 0) (t:=aj (ah (fu af) (aB 0) (aB 1))) (f:=aB 0) (Y:=vA [D,RS,s0 (.bool af),s0 (bI r),aa (1,cN G)]) (xs:=gv M2 (jg r)) (q:=bF) (λx=>af != decide (x∈G)) bF (pH (aJ (a:=.dict (bt M2)) (b:=.str (jg r)) rfl (aJ (a:=bI r) (b:=.int 1) rfl rfl (GG r)) (by
       show(bL (bt M2) (.inr (jg r)))=_;exact CA ht))) () (λx m=>⟨[aa (bF x),aa (cN G)],rfl,cH (aJ (a:=bF x) (b:=cN G) rfl rfl (Bf af _ _)),λ_=>rfl⟩)
      have O7:=Ai (R:=R') ht;refine⟨.nx [aa (2,.dict (bt (jZ M2 (jg r) R'))),RS,s0 (.bool af),s0 (bI r),aa (1,cN G)],?_,_,.inl rfl,jZ M2 (jg r) R',af,_,_,rfl,o2.upd () (λx mx=>b.wid _ x (mH.1 mx).1),?_,λz=>nomatch z⟩
      .have ev:eV 1 .a (du [ab,aa 4] (ay (ah ai (aB 0) (ah ai (aB 3) (eC (.int 1))))) (gB 0) (aj (ah (fu af) (aB 0) (aB 1))) (aB 0)) [D,RS,s0 (.bool af),s0 (bI r),aa (1,cN G)]=aa (cN R'):=wo e2 (VD R');have ek:eV 0 .s (ah ai (aB 3) (eC (.int 1))) [D,RS,s0 (.bool af),s0 (bI r),aa (1,cN G)]=aa (.str (jg r)):=tb _ _;show BH 0 .a _ .s _ 2 1 [D,RS,s0 (.bool af),s0 (bI r),aa (1,cN G)]=_;unfold BH;rw[ev,bR,show lB 0 [D,RS,s0 (.bool af),s0 (bI r),aa (1,cN G)]=aa (bt M2) from rfl,bR,ek,bR]
       show(if ((bL (bt M2) (.inr (jg r))).isSome=af/\(qF (bt M2)).Nodup)/\(bt M2).length<sizeLine then aa (Out.nx ([D,RS,s0 (.bool af),s0 (bI r),aa (1,cN G)].set 0 (aa (2,.dict (kM (bt M2) (.inr (jg r)) (cN R')))))) else ab)=_
       rw[if_pos ⟨⟨by rw[CA ht];rfl,Kc o2.nd⟩,sX (by have:=o2.few;simp[bt];lia)⟩,GY]
       rfl
      .have:fl.toNat<=1:=Bool.toNat_le fl;simp
       lia
     .have eg:G=[]:=List.eq_nil_of_length_eq_zero ()
      refine iB (t1.trans (by simp[h0])) (iC ⟨_,.inl rfl,M2,fl,_,_,rfl,o2,h2,λz q r' hq eq=>?_⟩)
      rcases Nat.lt_succ_iff_lt_or_eq.1 hq with hq|hq
      .exact k2 z q r' hq eq
      .subst hq;rw[er] at eq;cases eq;exact kG eg
    .rintro _ ⟨M2,fl,y3,y4,rfl,o2,h2,k2⟩;refine⟨_,mQ M2+fl.toNat,rfl,by simp at hn;lia,M2,fl,y3,y4,rfl,o2,λz r mr=>?_,bS _⟩
     obtain⟨q,hq⟩:=List.getElem?_of_mem mr;exact k2 z q r (by rw[fA];exact(eW.1 hq).1) hq
  .rintro _ ⟨L',x3,x4,rfl,o',k'⟩;exact jH (cO (d:=.dict (bt L')) rfl ⟨L',rfl,o',k'⟩)
 obtain⟨out,e,L',rfl,o',k'⟩:=main;exact⟨L',by
  show(z6 2 5 [.dict (bt L),bx rs]).bind (λY=>outD (zG Y))=_
  show outD (zG [aa (2,.dict (bt L)),RS,ab,ab,ab])=_;rw[e]
  rfl,o',k'⟩
end
theorem OC {α:Type}[DecidableEq α]:∀ (xs ys:List α),xs.Nodup->(∀ x∈xs,x∈ys)->xs.length<=ys.length
 |[],_,_,_=>fY _
 |x::xs,ys,nd,h=>by
  rw[gZ] at nd;have hx:=h x bT;have:=OC xs (ys.erase x) nd.2 λy my=>(List.mem_erase_of_ne (show y≠x from λe=>nd.1 (e ▸ my))).2 (h y (cL _ my))
  rw[List.length_erase_of_mem hx] at this;have:0<ys.length:=List.length_pos_of_mem hx;rw[fZ]
  lia
structure LOt (wd:aD->Nat)(dt:List aD)(L:List Tb):Prop where
 nd:(L.map (·.1)).Nodup
 tab:∀ p∈L,p.1∈dt
 rows:∀ p∈L,p.2.length<=8/\∀ r∈p.2,r.length=wd p.1
section
variable {dt:aan}{L:aaq}
theorem LOt.ok (o:LOt wd dt L)(h:dt.length<=10):LOk wd L:=⟨o.nd,by
 have:=OC (L.map (·.1)) dt o.nd λx m=>by
  obtain⟨p,mp,rfl⟩:=cG.1 m;exact o.tab p mp
 rw[fA] at this
 lia,o.rows⟩
def Ahk (L:aaq)(t:aD):aaq:=if t∈L.map (·.1) then L else L++[(t,[])]
theorem Ny (L:aaq)(t:aD):ng (bt L) (.inr t)=bt (Ahk L t):=by
 unfold ng Ahk;by_cases h:t∈L.map (·.1)
 .rw[if_pos h,CA h]
 .rw[if_neg h,BU,Ro h];show bt L++[(kD (.inr t),kJ [])]=bt (L++[(t,[])]);unfold bt;rw[hW]
  rfl
theorem Zb (L:aaq)(t:aD):t∈(Ahk L t).map (·.1):=by
 unfold Ahk;split
 .assumption
 .simp
theorem LOt.Ahk (o:LOt wd dt L)(ht:t∈dt):LOt wd dt (Ahk L t):=by
 unfold Aw.Ahk;split
 .exact o
 .rename_i h;refine⟨?_,λp m=>?_,λp m=>?_⟩
  .rw[hW,rO];refine⟨o.nd,by simp,λa ha b hb e=>?_⟩
   have:b=t:=by simpa using hb
   exact h (this ▸ e ▸ ha)
  .rcases fP.1 m with m|m
   .exact o.tab p m
   .rw[fN.1 m];exact ht
  .rcases fP.1 m with m|m
   .exact o.rows p m
   .rw[fN.1 m];exact⟨by simp,λr m=>by simp at m⟩
theorem LOt.upd (o:LOt wd dt L)(ht:t∈dt)(h1:R.length<=8)(h2:∀ r∈R,r.length=wd t):LOt wd dt (jZ L t R):=by
 refine⟨by rw[BY];exact o.nd,λp m=>?_,λp m=>?_⟩
 .rcases BI m with m|⟨e1,_⟩
  .exact o.tab p m
  .rw[e1];exact ht
 .rcases BI m with m|⟨e1,e2⟩
  .exact o.rows p m
  .rw[e2,e1];exact⟨h1,h2⟩
theorem ZQ (o:LOt wd dt L)(wg:dt.length<=10){row:aai}(ht:t∈dt)(hw:row.length=wd t):∃ L',CO [.dict (bt L),.str t,bF row]=aa (.dict (bt L'))/\LOt wd dt L':=by
 have o1:=o.Ahk ht;have mt:=Zb L t
 let R:=gv (Ahk L t) t
 have hR:R.length<=8/\∀ r∈R,r.length=wd t:=by
  obtain⟨p,ep⟩:=find_key mt;have mp:=c9 ep;have v7:p.1=t:=by simpa using MJ ep
  have:R=p.2:=by
   show(((Ahk L t).find? λp=>decide (p.1=t)).map (·.2)).getD []=_
   rw[ep]
   rfl
  rw[this,<-v7];exact o1.rows p mp
 have lz:(bt L).length<sizeLine:=sX (by have:=(o.ok wg).few;simp[bt];lia)
 let Y2:aQ:=[aa (2,.dict (bt (Ahk L t))),s0 (.str t),s0 (bF row),ab]
 have jd:bL (bt (Ahk L t)) (.inr t)=aa (.list (R.map bF)):=CA mt;have start:CO [.dict (bt L),.str t,bF row]=(DM 0 3 (.inr t) (bt (Ahk L t)) (R.map bF) yV yU Y2).bind λo=>match o with
   |.nx Y'=>(lB 0 Y').map .dict
   |_=>ab:=by
  show(FA 0 3 .s CU yV yU [aa (2,.dict (bt L)),s0 (.str t),s0 (bF row),ab]).bind _=_
  congr 1
  unfold FA;rw[show lB 0 [aa (2,.dict (bt L)),s0 (.str t),s0 (bF row),ab]=aa (bt L) from rfl,bR,show eV 0 .s CU [aa (2,.dict (bt L)),s0 (.str t),s0 (bF row),ab]=aa (.str t) from rfl,bR,show bO (.str t)=aa (.inr t) from rfl,bR,if_pos ⟨lz,by simp⟩,Ny,jd]
  rfl
 have tb:yV (vA (Y2.set 3 (aa (1,.list (R.map bF)))))=aa ((af != decide (row∈R))&&decide (R.length<8)):=mV (cH (aJ (a:=bF row) (b:=cN R) rfl rfl (Bf af _ _))) λ_=>cH (aJ (a:=.int (R.length:Nat)) (b:=.int 8) (aX (ds:=[cN R]) rfl (by simp[bA,cN])) rfl (by
  show aa (eZ (decide ((R.length:Int)<8)))=_
  congr 2
  rw[iW];simp
  lia))
 rw[start];unfold DM;rw[tb,bR];by_cases h:((af != decide (row∈R))&&decide (R.length<8))=af
 .rw[if_pos h];have h8:R.length<8:=by simp at h;exact h.2
  refine⟨jZ (Ahk L t) t (R++[row]),?_,o1.upd ht (by simp;lia) λr m=>?_⟩
  .rw[show eV 0 .s yU Y2=aa (bF row) from rfl,bR,if_pos ⟨QM row,sX (by simp;lia)⟩,bR]
   show aa (ED (kM (bt (Ahk L t)) (.inr t) (.list (R.map bF++[bF row]))))=_;rw[show kJ (R.map bF++[bF row])=cN (R++[row]) by unfold cN;rw[hW];rfl,GY]
  .rcases fP.1 m with m|m
   .exact hR.2 r m
   .rw[fN.1 m];exact hw
 .rw[if_neg h];exact⟨Ahk L t,rfl,o1⟩
end
abbrev wu (p:aD×aai):aA:=.tuple [.str p.1,bF p.2]
theorem Hl (kn:Kn):bA [bj kn]=aa (.int kn.length):=by
 show(if f6 (DN kn)=af then aa (bC (DN kn).length) else ab)=_
 rw[if_pos (su kn)];simp[DN]
theorem Ph (ls:aak)(c:Int)(hl:ls.length<=60)(h3:∀ l∈ls,l.2.length<=3):∃ ps:List (aD×aai),KD [.list (ls.map aO),.int c]=aa (.list (ps.map wu))/\ps.length<=60/\∀ p∈ps,∃ l∈ls,p.1=l.1/\p.2.length=l.2.length:=by
 have main:∃ d,KD [.list (ls.map aO),.int c]=aa d/\∃ ps:List (aD×aai),d=.list (ps.map wu)/\ps.length<=60/\∀ p∈ps,∃ l∈ls,p.1=l.1/\p.2.length=l.2.length:=by
  refine hU rfl ?_
  let A:L2.Slot:=s0 (.list (ls.map aO))
  let C:L2.Slot:=s0 (.int c)
  refine cJ (n:=1) (d:=.dict []) rfl (by simp) ?_
  let J:Nat->aQ->Prop:=λm Y'=>∃ (kn:Kn) (x3 x4 x5:L2.Slot),Y'=[A,C,aa (1,bj kn),x3,x4,x5]/\kn.length<=3*m/\∀ l∈ls.take m,∀ z,fX z∈l.2->(cC kn z).isSome=af
  refine fW (J ls.length) (lG (ds:=ls.map aO) J (gm rfl) ⟨[],ab,ab,ab,rfl,by simp,λl m=>by simp at m⟩ ?_ λY' i=>⟨Y',rfl,by rw[fA] at i;exact i⟩) ?_
  .rintro m d _ hd ⟨kn,x3,x4,x5,rfl,hk,hz⟩;rw[eU] at hd;obtain⟨l,el,rfl⟩:=iE.1 hd;have ml:=jE el;have hm:m<ls.length:=(eW.1 el).1;have et:ls.take (m+1)=ls.take m++[l]:=by rw[tU,el];rfl
   let T:L2.Slot:=s0 (.str l.1)
   let Q:L2.Slot:=s0 (tK l.2)
   refine⟨[A,C,aa (1,bj kn),T,Q,x5],rfl,?_⟩
   let I:Nat->aQ->Prop:=λq Y'=>∃ (k2:Kn) (x5:L2.Slot),Y'=[A,C,aa (1,bj k2),T,Q,x5]/\k2.length<=3*m+q/\(∀ z,(cC kn z).isSome=af->(cC k2 z).isSome=af)/\∀ z,fX z∈l.2.take q->(cC k2 z).isSome=af
   refine lG (ds:=l.2.map kD) I (gm rfl) ⟨kn,x5,rfl,hk,λz h=>h,λz h=>by simp at h⟩ ?_ ?_
   .rintro q d _ hd ⟨k2,y5,rfl,E5,mono,hq⟩;rw[eU] at hd;obtain⟨k,ek,rfl⟩:=iE.1 hd;have hq3:q<l.2.length:=(eW.1 ek).1;have O8:=h3 l ml;have zl:l.2.take (q+1)=l.2.take q++[k]:=by rw[tU,ek];rfl
    let Y1:aQ:=[A,C,aa (1,bj k2),T,Q,s0 (kD k)]
    refine⟨Y1,rfl,?_⟩;cases k with
    |inl i=>
     have t1:bV .a (cT (aj (bz (cM "str") (aB 5))) (aj (ah (fu af) (aB 5) (aB 2)))) Y1=aa (ag&&af):=mV (cH (sM (a:=.int i) rfl (FQ (.inl i)))) λz=>nomatch z
     refine iB t1 (iC ⟨_,.inl rfl,k2,_,rfl,(),mono,λz h=>?_⟩)
     rw[zl] at h;rcases fP.1 h with h|h
     .exact hq z h
     .simp at h
    |inr y=>
     have t1:bV .a (cT (aj (bz (cM "str") (aB 5))) (aj (ah (fu af) (aB 5) (aB 2)))) Y1=aa (af&&(af != (cC k2 y).isSome)):=mV (cH (sM (a:=.str y) rfl (FQ (.inr y)))) λ_=>cH (aJ (a:=.str y) (b:=bj k2) rfl rfl (by
      rw[yD,if_pos (su k2)];show aa (eZ (af != (bL (DN k2) (.inr y)).isSome))=_;rw[xU];cases cC k2 y<;>rfl))
     cases hy:cC k2 y with
     |some u=>
      rw[hy] at t1;refine iB t1 (iC ⟨_,.inl rfl,k2,_,rfl,(),mono,λz h=>?_⟩)
      rw[zl] at h;rcases fP.1 h with h|h
      .exact hq z h
      .have:z=y:=by simpa using h
       rw[this,hy]
       rfl
     |none=>
      rw[hy] at t1;refine fL t1 ?_;obtain⟨x,ex,xv⟩:∃ x:Nat,ai (.list [.int 3,.int 7,.int 1000]) (.int (c%3))=aa (.int (x:Int))/\0<x:=by
       have h1:=Int.emod_nonneg c (b:=3) ()
       have h2:=Int.emod_lt_of_pos c (b:=3) ()
       have:c%3=0\/c%3=1\/c%3=2:=()
       rcases this with e|e|e<;>rw[e]
       .exact⟨3,rfl,()⟩
       .exact⟨7,rfl,()⟩
       .exact⟨1000,rfl,()⟩
      have ev:ah bK (ah bZ (ah bK (aB 1) (eC (.int 2147483647))) (ah bQ (aL bA (aE (aB 2) aH)) (eC (.int 1)))) (ah ai (cD (aE (eC (.int 3)) (aE (eC (.int 7)) (aE (eC (.int 1000)) aH)))) (ah bK (aB 1) (eC (.int 3)))) (vA Y1)=aa (.int (c%2147483647/((k2.length+1:Nat):Int)%x)):=by
       refine aJ (a:=.int (c%2147483647/((k2.length+1:Nat):Int))) (b:=.int (x:Int)) (aJ (a:=.int (c%2147483647)) (b:=.int ((k2.length+1:Nat):Int)) (aJ (a:=.int c) (b:=.int 2147483647) rfl rfl (kA c 2147483647 ())) (aJ (a:=.int (k2.length:Nat)) (b:=.int 1) (aX (ds:=[bj k2]) rfl (Hl k2)) rfl (by show aa (bC _)=_;simp)) (pC _ _ () ())) (aJ (a:=.list [.int 3,.int 7,.int 1000]) (b:=.int (c%3)) (lH (ds:=[.int 3,.int 7,.int 1000]) rfl) (aJ (a:=.int c) (b:=.int 3) rfl rfl (kA c 3 ())) ex) (kA _ x xv)
      refine⟨.nx [A,C,aa (1,bj (putN k2 y (c%2147483647/((k2.length+1:Nat):Int)%x))),T,Q,s0 (.str y)],?_,_,.inl rfl,_,_,rfl,by have:=SI k2 y (c%2147483647/((k2.length+1:Nat):Int)%x);lia,λz h=>?_,λz h=>?_⟩
      .show eB 2 .a _ .s _ Y1=_;unfold eB;rw[wo ev rfl,bR,show dM 2 Y1=aa (DN k2) from rfl,bR,show eV 0 .s (aB 5) Y1=aa (.str y) from rfl,bR]
       show(if (DN k2).length<sizeLine then aa (Out.nx [A,C,aa (1,.dict (putD (DN k2) (.inr y) (.int _))),T,Q,s0 (.str y)]) else ab)=_
       rw[if_pos (sX (by simp[DN];lia)),Ah]
      .rw[vH];split
       .rfl
       .exact mono z h
      .rw[vH];split
       .rfl
       .rename_i j';rw[zl] at h;rcases fP.1 h with h|h
        .exact hq z h
        .exact absurd (by simpa using h) j'
   .rintro _ ⟨k2,y5,rfl,E5,mono,hq⟩;rw[fA] at E5 hq;have O8:=h3 l ml;refine⟨_,.inl rfl,k2,_,_,_,rfl,(),λl' m' z p7=>?_⟩
    rw[et] at m';rcases fP.1 m' with m'|m'
    .exact mono z (hz l' m' z p7)
    .rw[fN.1 m'] at p7;exact hq z (by rw[wA];exact p7)
  .rintro _ ⟨kn,x3,x4,x5,rfl,hk,hz⟩;rw[wA] at hz;refine jH ?_;have wl:∀ l∈ls,l.2.map (gK kn)=(l.2.map λk=>match gK kn k with|.inl i=>i|.inr _=>0).map eR:=λl ml=>by
    rw[eN];refine kZ λk mk=>?_
    cases k with
    |inl i=>rfl
    |inr z=>
     obtain⟨u,hu⟩:=pS.1 (hz l ml z mk);show(match cC kn z with|some u=>(eR u:aG)|none=>.inr z)=eR (match (match cC kn z with|some u=>(eR u:aG)|none=>.inr z) with|.inl i=>i|.inr _=>0)
     rw[hu]
   let g:Ln->aD×aai:=λl=>(l.1,l.2.map λk=>match gK kn k with|.inl i=>i|.inr _=>0)
   have e:=iO (cap:=[ab,ab,aa 2]) (fi:=ay (aB 0)) (T:=rm 0 1) (t:=cE) (f:=cK (aE (aB 0) (aE (aL tL (aE (aB 1) (aE (aB 2) aH))) aH))) (Y:=vS [A,C,s0 (bj kn),x3,x4,x5]) (xs:=ls) (q:=aO) (λ_=>af) (λl=>wu (g l)) rfl () (λl ml=>⟨[aa (.str l.1),aa (tK l.2),aa (bj kn)],rfl,rfl,λ_=>jQ (ds:=[.str l.1,bF (g l).2]) (aR rfl (aR ((aX (ds:=[tK l.2,bj kn]) rfl (BP kn (by have:=h3 l ml;lia))).trans (by
    rw[wl l ml];show aa (fO (((g l).2.map eR).map kD))=aa (fO ((g l).2.map bC));rw[eN]
    rfl)) rfl))⟩)
   rw[nD.2 (by simp)] at e
   refine cO e ⟨_,rfl,ls.map g,by rw[eN];rfl,by rw[fA];exact hl,λp m=>?_⟩
   obtain⟨l,ml,rfl⟩:=cG.1 m;exact⟨l,ml,rfl,by simp[g]⟩
 obtain⟨d,e,ps,rfl,h1,h2⟩:=main;exact⟨ps,e,h1,h2⟩
theorem BO(hb:qN ns){k:Int}(h0:0<=k)(h1:k<=1000):∃ c,kU [lI ns,.int k]=aa (.int c):=by
 have:∃ d,kU [lI ns,.int k]=aa d/\∃ c,d=.int c:=by
  refine hU rfl ?_;have au:bA [lI ns]=aa (.int ns.length):=by simp[bA]
  have at_:∀ i:Int,0<=i->i<ns.length->∃ c,ai (lI ns) (.int i)=aa (.int c)/\c∈ns:=λi a b=>by
   obtain⟨j,rfl⟩:=kL a;have hj:j<ns.length:=()
   exact⟨ns[j],nN (jU hj),MH hj⟩
  by_cases hl:k<(ns.length:Int)
  .obtain⟨c,e,_⟩:=at_ k h0 hl;exact kF (fL (by simp[az,aN,aU,bB,dS,ba,dE,fI,fK,eB,cV,frz,bN,eV,bV,aV,vS,vA,ah,bz,aB,eC,aL,cK,cD,aE,aH,aj,cU,cT,ck,dg,cZ,fj,eD,cR,fF,dh,cg,getL,dM,outD,ay,itemsOf,bQ,dP,cS,bK,bZ,fC,ff,dq,cy,fy,cz,dw,bA,cM,dW,dz,cY,eJ,eQ,aw,bo,bP,noDict,noDicts,dC,cI,bE,cQ,cB,cE,gB,hl]) (cO (d:=.int c) (aJ (a:=lI ns) (b:=.int k) rfl rfl e) ⟨_,rfl,_,rfl,c,rfl⟩))
  .refine dB (gL (by simp[az,aN,aU,bB,dS,ba,dE,fI,fK,eB,cV,frz,bN,eV,bV,aV,vS,vA,ah,bz,aB,eC,aL,cK,cD,aE,aH,aj,cU,cT,ck,dg,cZ,fj,eD,cR,fF,dh,cg,getL,dM,outD,ay,itemsOf,bQ,dP,cS,bK,bZ,fC,ff,dq,cy,fy,cz,dw,bA,cM,dW,dz,cY,eJ,eQ,aw,bo,bP,noDict,noDicts,dC,cI,bE,cQ,cB,cE,gB,hl])) ?_
   have hk:k.natAbs<18446744073709551616:=()
   refine cJ (d:=.int (k*k*7919+11*k+5)) (by simp[az,aN,aU,bB,dS,ba,dE,fI,fK,eB,cV,frz,bN,eV,bV,aV,vS,vA,ah,bz,aB,eC,aL,cK,cD,aE,aH,aj,cU,cT,ck,dg,cZ,fj,eD,cR,fF,dh,cg,getL,dM,outD,ay,itemsOf,bQ,dP,cS,bK,bZ,fC,ff,dq,cy,fy,cz,dw,bA,cM,dW,dz,cY,eJ,eQ,aw,bo,bP,noDict,noDicts,dC,cI,bE,cQ,cB,cE,gB,mM,hk]) (by simp) ?_
   have b0:(k*k*7919+11*k+5).natAbs<2^64:=by
    have h2:k*k<=1000*1000:=Cw h1 h1 h0 ()
    have h3:0<=k*k:=Cv h0 h0;generalize k*k=q at *
    lia
   generalize k*k*7919+11*k+5=n0 at b0;refine fW (λY'=>∃ N,jM N+jM N<=134217728/\Y'=[s0 (lI ns),s0 (.int k),s0 (.int N)]) ?_ ?_
   .by_cases hz:0<ns.length
    .have p7:(0:Int)<ns.length:=()
     obtain⟨v,e,mv⟩:=at_ (k*7%(ns.length:Int)) (dX _ p7).1 (dX _ p7).2;have hv:=Wc (n0:=n0) () b0 (hb v mv)
     refine fL (by simp[az,aN,aU,bB,dS,ba,dE,fI,fK,eB,cV,frz,bN,eV,bV,aV,vS,vA,ah,bz,aB,eC,aL,cK,cD,aE,aH,aj,cU,cT,ck,dg,cZ,fj,eD,cR,fF,dh,cg,getL,dM,outD,ay,itemsOf,bQ,dP,cS,bK,bZ,fC,ff,dq,cy,fy,cz,dw,bA,cM,dW,dz,cY,eJ,eQ,aw,bo,bP,noDict,noDicts,dC,cI,bE,cQ,cB,cE,gB,hz]) (qU (d:=.int (n0+v*48271)) (aJ (a:=.int n0) (b:=.int (v*48271)) rfl (aJ (a:=.int v) (b:=.int 48271) (aJ (a:=lI ns) (b:=.int (k*7%(ns.length:Int))) rfl (aJ (a:=.int (k*7)) (b:=.int ns.length) (by simp[az,aN,aU,bB,dS,ba,dE,fI,fK,eB,cV,frz,bN,eV,bV,aV,vS,vA,ah,bz,aB,eC,aL,cK,cD,aE,aH,aj,cU,cT,ck,dg,cZ,fj,eD,cR,fF,dh,cg,getL,dM,outD,ay,itemsOf,bQ,dP,cS,bK,bZ,fC,ff,dq,cy,fy,cz,dw,bA,cM,dW,dz,cY,eJ,eQ,aw,bo,bP,noDict,noDicts,dC,cI,bE,cQ,cB,cE,gB,mM]) (aX (ds:=[lI ns]) rfl au) (by simp[az,aN,aU,bB,dS,ba,dE,fI,fK,eB,cV,frz,bN,eV,bV,aV,vS,vA,ah,bz,aB,eC,aL,cK,cD,aE,aH,aj,cU,cT,ck,dg,cZ,fj,eD,cR,fF,dh,cg,getL,dM,outD,ay,itemsOf,bQ,dP,cS,bK,bZ,fC,ff,dq,cy,fy,cz,dw,bA,cM,dW,dz,cY,eJ,eQ,aw,bo,bP,noDict,noDicts,dC,cI,bE,cQ,cB,cE,gB,hz])) e) rfl (by simp[az,aN,aU,bB,dS,ba,dE,fI,fK,eB,cV,frz,bN,eV,bV,aV,vS,vA,ah,bz,aB,eC,aL,cK,cD,aE,aH,aj,cU,cT,ck,dg,cZ,fj,eD,cR,fF,dh,cg,getL,dM,outD,ay,itemsOf,bQ,dP,cS,bK,bZ,fC,ff,dq,cy,fy,cz,dw,bA,cM,dW,dz,cY,eJ,eQ,aw,bo,bP,noDict,noDicts,dC,cI,bE,cQ,cB,cE,gB,mM])) rfl) (by simp) ⟨_,rfl,_,?_,rfl⟩)
     lia
    .have p7:ns=[]:=by
      cases ns with
      |nil=>rfl
      |cons a r=>exact absurd (by simp) hz
     subst p7;have:=bits_le (n:=64) b0;exact iB (by simp[az,aN,aU,bB,dS,ba,dE,fI,fK,eB,cV,frz,bN,eV,bV,aV,vS,vA,ah,bz,aB,eC,aL,cK,cD,aE,aH,aj,cU,cT,ck,dg,cZ,fj,eD,cR,fF,dh,cg,getL,dM,outD,ay,itemsOf,bQ,dP,cS,bK,bZ,fC,ff,dq,cy,fy,cz,dw,bA,cM,dW,dz,cY,eJ,eQ,aw,bo,bP,noDict,noDicts,dC,cI,bE,cQ,cB,cE,gB]) (iC ⟨_,rfl,n0,(),rfl⟩)
   .rintro _ ⟨N,hN,rfl⟩;refine cO (d:=.int (N*N%2147483629)) (aJ (a:=.int (N*N)) (b:=.int 2147483629) (aJ (a:=.int N) (b:=.int N) rfl rfl (Ni hN)) rfl (by simp[az,aN,aU,bB,dS,ba,dE,fI,fK,eB,cV,frz,bN,eV,bV,aV,vS,vA,ah,bz,aB,eC,aL,cK,cD,aE,aH,aj,cU,cT,ck,dg,cZ,fj,eD,cR,fF,dh,cg,getL,dM,outD,ay,itemsOf,bQ,dP,cS,bK,bZ,fC,ff,dq,cy,fy,cz,dw,bA,cM,dW,dz,cY,eJ,eQ,aw,bo,bP,noDict,noDicts,dC,cI,bE,cQ,cB,cE,gB])) ⟨_,rfl,_,rfl⟩
 obtain⟨d,e,c,rfl⟩:=this;exact⟨c,e⟩
def sg (f:Int)(at':Nat)(k j:Nat):Nat:=97+((f+((j:Int)*j+(if j=at' then 1 else 0)*((k:Int)+1)))%26).toNat
def hZ (f:Int)(at' k j:Nat):aD:=⟨((bD j).map (sg f at' k)).toArray⟩
theorem Zz (f:Int)(at' k j:Nat):hZ f at' k j++(⟨#[sg f at' k j]⟩:aD)=hZ f at' k (j+1):=by
 show(⟨(hZ f at' k j).cps ++ #[sg f at' k j]⟩:aD)=_;unfold hZ;rw[Cj,hW];simp
theorem Wl {f:Int}{at' k k' L:Nat}(ha:at'<L)(hk:k<26)(jo:k'<26)(h:hZ f at' k L=hZ f at' k' L):k=k':=by
 have h1:((bD L).map (sg f at' k))=((bD L).map (sg f at' k')):=by
  have:(hZ f at' k L).cps=(hZ f at' k' L).cps:=by rw[h]
  unfold hZ at this;simpa using congrArg Array.toList this
 have h2:=congrArg (λl=>l[at']?) h1
 simp only[eU,pU ha,vY] at h2;have h3:=fM h2;unfold sg at h3;rw[if_pos rfl,Int.one_mul,Int.one_mul] at h3;generalize f+(at':Int)*at'=g at *;have e1:f+((at':Int)*at'+((k:Int)+1))=(f+(at':Int)*at')+(k+1):=()
 have e2:f+((at':Int)*at'+((k':Int)+1))=(f+(at':Int)*at')+(k'+1):=()
 rw[e1,e2] at h3;generalize f+(at':Int)*at'=g at *
 lia
theorem Xz:("abcdefghijklmnopqrstuvwxyz" : aD).cps.toList=(bD 26).map (97 + ·):=by rw[0]
theorem Jq {A:aD}(hA:A.cps.toList=(bD 26).map (97 + ·))(hl:A.length=26)(h:i<26):ai (.str A) (.int i)=aa (.str ⟨#[97+i]⟩):=by
 show(if A.length<=sizeLine then(jf A.cps.toList (i:Int)).bind λc=>aa (jK ⟨#[c]⟩) else ab)=_
 rw[if_pos (jI ()),qS (v:=97+i) (by rw[hA,eU,pU h];rfl)]
 rfl
theorem Vf (f:Int)(at' k j:Nat):(hZ f at' k j).length=j:=by simp[hZ,Str.length]
def j1 (c:Int):Nat:=(1+c%12).toNat
def n9 (c:Int):Nat:=(c/12%(1+c%12)).toNat
def nm (c:Int)(k:Nat):aD:=hZ (c/144%26) (n9 c) k (j1 c)
theorem KW {c:Int}{k k':Nat}(hk:k<26)(jo:k'<26)(h:nm c k=nm c k'):k=k':=by
 have b:=dX c (show(0:Int)<12 by decide)
 have b2:=dX (c/12) (show(0:Int)<1+c%12 by lia)
 exact Wl (L:=j1 c) (by unfold n9 j1;lia) hk jo h
theorem SH (c:Int)(hn:n<=20):CV [.int c,.int n]=aa (.list (((bD n).map (nm c)).map jK)):=by
 have:∃ d,CV [.int c,.int n]=aa d/\d=.list (((bD n).map (nm c)).map jK):=by
  refine hU rfl ?_;obtain⟨A,hA,al,as⟩:∃ A:aD,A = "abcdefghijklmnopqrstuvwxyz" /\ A.length=26/\A.cps.toList=(bD 26).map (97 + ·):=⟨_,rfl,He,Xz⟩;refine cJ (d:=.str A) (by rw[hA];rfl) (by simp) ?_
  clear hA;have b:=dX c (show(0:Int)<12 by decide)
  have b2:=dX (c/12) (show(0:Int)<1+c%12 by lia)
  have eL:(1+c%12:Int)=(j1 c:Nat):=by unfold j1;lia
  have eA:(c/12%(1+c%12):Int)=(n9 c:Nat):=by unfold n9;lia
  have hL:j1 c<=12:=by unfold j1;lia
  have O9:0<j1 c:=by unfold j1;lia
  refine cJ (d:=.int (j1 c)) (by rw[<-eL];simp[az,aN,aU,bB,dS,ba,dE,fI,fK,eB,cV,frz,bN,eV,bV,aV,vS,vA,ah,bz,aB,eC,aL,cK,cD,aE,aH,aj,cU,cT,ck,dg,cZ,fj,eD,cR,fF,dh,cg,getL,dM,outD,ay,itemsOf,bQ,dP,cS,bK,bZ,fC,ff,dq,cy,fy,cz,dw,bA,cM,dW,dz,cY,eJ,eQ,aw,bo,bP,noDict,noDicts,dC,cI,bE,cQ,cB,cE,gB]) (by simp) ?_
  refine cJ (d:=.int (n9 c)) (aJ (a:=.int (c/12)) (b:=.int (j1 c)) (by simp[az,aN,aU,bB,dS,ba,dE,fI,fK,eB,cV,frz,bN,eV,bV,aV,vS,vA,ah,bz,aB,eC,aL,cK,cD,aE,aH,aj,cU,cT,ck,dg,cZ,fj,eD,cR,fF,dh,cg,getL,dM,outD,ay,itemsOf,bQ,dP,cS,bK,bZ,fC,ff,dq,cy,fy,cz,dw,bA,cM,dW,dz,cY,eJ,eQ,aw,bo,bP,noDict,noDicts,dC,cI,bE,cQ,cB,cE,gB]) rfl (by
   show(if 0<((j1 c:Nat):Int) then aa (bC (c/12%(j1 c:Nat))) else ab)=_
   rw[if_pos (),<-eL,eA])) (by simp) ?_
  refine cJ (d:=.int (c/144%26)) (by simp[az,aN,aU,bB,dS,ba,dE,fI,fK,eB,cV,frz,bN,eV,bV,aV,vS,vA,ah,bz,aB,eC,aL,cK,cD,aE,aH,aj,cU,cT,ck,dg,cZ,fj,eD,cR,fF,dh,cg,getL,dM,outD,ay,itemsOf,bQ,dP,cS,bK,bZ,fC,ff,dq,cy,fy,cz,dw,bA,cM,dW,dz,cY,eJ,eQ,aw,bo,bP,noDict,noDicts,dC,cI,bE,cQ,cB,cE,gB]) (by simp) ?_
  have bf:=dX (c/144) (show(0:Int)<26 by decide)
  have uh:∀ k,nm c k=hZ (c/144%26) (n9 c) k (j1 c):=λ_=>rfl
  generalize c/144%26=f at bf uh;generalize n9 c=at' at uh;generalize j1 c=L at hL O9 uh;clear eL eA;refine cJ (d:=.list []) rfl (by simp) ?_
  refine fW (λY'=>∃ x7 x8 x9 gu:L2.Slot,Y'=[s0 (.int c),s0 (.int n),s0 (.str A),s0 (.int L),s0 (.int at'),s0 (.int f),aa (1,.list (((bD n).map (nm c)).map jK)),x7,x8,x9,gu]) ?_ ?_
  .refine qQ (n:=n) (λk Y'=>∃ x7 x8 x9 gu:L2.Slot,Y'=[s0 (.int c),s0 (.int n),s0 (.str A),s0 (.int L),s0 (.int at'),s0 (.int f),aa (1,.list (((bD k).map (nm c)).map jK)),x7,x8,x9,gu]) (gm (nM rfl ())) ⟨ab,ab,ab,ab,rfl⟩ ?_ ?_
   .rintro k _ hk ⟨x7,x8,x9,gu,rfl⟩;refine⟨[s0 (.int c),s0 (.int n),s0 (.str A),s0 (.int L),s0 (.int at'),s0 (.int f),aa (1,.list (((bD k).map (nm c)).map jK)),s0 (.int k),x8,x9,gu],rfl,?_⟩;refine cJ (d:=.str (hZ f at' k 0)) rfl (by simp) ?_
    refine fW (λY'=>∃ x9 gu:L2.Slot,Y'=[s0 (.int c),s0 (.int n),s0 (.str A),s0 (.int L),s0 (.int at'),s0 (.int f),aa (1,.list (((bD k).map (nm c)).map jK)),s0 (.int k),s0 (.str (nm c k)),x9,gu]) ?_ ?_
    .refine qQ (n:=L) (λj Y'=>∃ x9 gu:L2.Slot,Y'=[s0 (.int c),s0 (.int n),s0 (.str A),s0 (.int L),s0 (.int at'),s0 (.int f),aa (1,.list (((bD k).map (nm c)).map jK)),s0 (.int k),s0 (.str (hZ f at' k j)),x9,gu]) (gm (nM rfl ())) ⟨x9,gu,rfl⟩ ?_ ?_
     .rintro j _ hj ⟨y9,re,rfl⟩;refine⟨[s0 (.int c),s0 (.int n),s0 (.str A),s0 (.int L),s0 (.int at'),s0 (.int f),aa (1,.list (((bD k).map (nm c)).map jK)),s0 (.int k),s0 (.str (hZ f at' k j)),s0 (.int j),re],rfl,?_⟩
      let w:Int:=(j:Int)*j+(if j=at' then 1 else 0)*((k:Int)+1)
      refine cJ (d:=.int w) ?_ (by simp) ?_
      .refine aJ (a:=.int ((j:Int)*j)) (b:=.int ((if j=at' then 1 else 0)*((k:Int)+1))) ?_ (aJ (a:=.int (if j=at' then 1 else 0)) (b:=.int ((k:Int)+1)) (aX (ds:=[.bool (decide (j=at'))]) (aR (aJ (a:=.int j) (b:=.int at') rfl rfl (by rw[uY];simp;lia)) rfl) ?_) (by simp[az,aN,aU,bB,dS,ba,dE,fI,fK,eB,cV,frz,bN,eV,bV,aV,vS,vA,ah,bz,aB,eC,aL,cK,cD,aE,aH,aj,cU,cT,ck,dg,cZ,fj,eD,cR,fF,dh,cg,getL,dM,outD,ay,itemsOf,bQ,dP,cS,bK,bZ,fC,ff,dq,cy,fy,cz,dw,bA,cM,dW,dz,cY,eJ,eQ,aw,bo,bP,noDict,noDicts,dC,cI,bE,cQ,cB,cE,gB]) ?_) rfl
       .have:(j:Int).natAbs<18446744073709551616:=()
        simp[az,aN,aU,bB,dS,ba,dE,fI,fK,eB,cV,frz,bN,eV,bV,aV,vS,vA,ah,bz,aB,eC,aL,cK,cD,aE,aH,aj,cU,cT,ck,dg,cZ,fj,eD,cR,fF,dh,cg,getL,dM,outD,ay,itemsOf,bQ,dP,cS,bK,bZ,fC,ff,dq,cy,fy,cz,dw,bA,cM,dW,dz,cY,eJ,eQ,aw,bo,bP,noDict,noDicts,dC,cI,bE,cQ,cB,cE,gB]
        try lia
       .by_cases q:j=at'<;>simp[q,eQ]
       .by_cases q:j=at'<;>simp[q,az,aN,aU,bB,dS,ba,dE,fI,fK,eB,cV,frz,bN,eV,bV,aV,vS,vA,ah,bz,aB,eC,aL,cK,cD,aE,aH,aj,cU,cT,ck,dg,cZ,fj,eD,cR,fF,dh,cg,getL,dM,outD,ay,itemsOf,bQ,dP,cS,bK,bZ,fC,ff,dq,cy,fy,cz,dw,bA,cM,dW,dz,cY,eJ,eQ,aw,bo,bP,noDict,noDicts,dC,cI,bE,cQ,cB,cE,gB]
      have bw:=dX (f+w) (show(0:Int)<26 by decide)
      obtain⟨i,ei⟩:=kL bw.1;have hi:i<26:=()
      refine qU (d:=.str (hZ f at' k (j+1))) (aJ (a:=.str (hZ f at' k j)) (b:=.str ⟨#[97+i]⟩) rfl (aJ (a:=.str A) (b:=.int i) rfl (aJ (a:=.int (f+w)) (b:=.int 26) (by simp[az,aN,aU,bB,dS,ba,dE,fI,fK,eB,cV,frz,bN,eV,bV,aV,vS,vA,ah,bz,aB,eC,aL,cK,cD,aE,aH,aj,cU,cT,ck,dg,cZ,fj,eD,cR,fF,dh,cg,getL,dM,outD,ay,itemsOf,bQ,dP,cS,bK,bZ,fC,ff,dq,cy,fy,cz,dw,bA,cM,dW,dz,cY,eJ,eQ,aw,bo,bP,noDict,noDicts,dC,cI,bE,cQ,cB,cE,gB]) rfl (by rw[<-ei];simp[az,aN,aU,bB,dS,ba,dE,fI,fK,eB,cV,frz,bN,eV,bV,aV,vS,vA,ah,bz,aB,eC,aL,cK,cD,aE,aH,aj,cU,cT,ck,dg,cZ,fj,eD,cR,fF,dh,cg,getL,dM,outD,ay,itemsOf,bQ,dP,cS,bK,bZ,fC,ff,dq,cy,fy,cz,dw,bA,cM,dW,dz,cY,eJ,eQ,aw,bo,bP,noDict,noDicts,dC,cI,bE,cQ,cB,cE,gB])) (Jq as al hi)) ?_) (by simp) ⟨_,.inl rfl,_,_,rfl⟩
      show(if (hZ f at' k j).length+(⟨#[97+i]⟩:aD).length<=sizeLine then aa (jK (hZ f at' k j++⟨#[97+i]⟩)) else ab)=_
      rw[if_pos (jI (by rw[Vf];show j+1<=100000;lia)),<-Zz]
      have:sg f at' k j=97+i:=by
       show 97+((f+w)%26).toNat=97+i;rw[ei];simp
      rw[this]
     .rintro _ ⟨y9,re,rfl⟩;exact⟨_,rfl,y9,re,by rw[uh]⟩
    .rintro _ ⟨y9,re,rfl⟩;refine qV (d:=.str (nm c k)) (ds:=((bD k).map (nm c)).map jK) rfl rfl (by simp;lia) ⟨_,.inl rfl,s0 (.int k),s0 (.str (nm c k)),y9,re,?_⟩
     rw[Cj,hW,hW]
     rfl
   .rintro _ ⟨x7,x8,x9,gu,rfl⟩;exact⟨_,rfl,x7,x8,x9,gu,rfl⟩
  .rintro _ ⟨x7,x8,x9,gu,rfl⟩;exact⟨_,rfl,_,rfl,rfl⟩
 obtain⟨d,e,rfl⟩:=this;exact e
theorem KU (c:Int)(k:Nat):eY (.str (nm c k))=af:=by
 refine Gn λx m=>?_
 have m:x∈(bD (j1 c)).map (sg (c/144%26) (n9 c) k):=by simpa [nm,hZ] using m
 obtain⟨j,_,rfl⟩:=cG.1 m;have b:=dX (c/144%26+((j:Int)*j+(if j=n9 c then 1 else 0)*((k:Int)+1))) (show(0:Int)<26 by decide)
 unfold sg;generalize c/144%26+((j:Int)*j+(if j=n9 c then 1 else 0)*((k:Int)+1))=z at b
 have h:(z%26).toNat<26:=()
 generalize(z%26).toNat=y at h;simp[xF,letter]
 lia
abbrev iM (c:Int):aA:=.list (((bD 3).map (nm c)).map jK)
theorem xO (c:Int){a:Nat}(h:a<3):ai (iM c) (.int a)=aa (.str (nm c a)):=nN (q:=jK) (by rw[eU,pU h];rfl)
theorem AY{a:Nat}(h:a<ws.length):ai (lN ws) (.int a)=aa (.int (ws.getD a 0)):=nN (q:=λ(c:Nat)=>bC c) (getD_some 0 h)
def jn (c:Int)(ws:aam)(z:aD):Nat:=if z=nm c 0 then ws.getD 0 0 else if z=nm c 1 then ws.getD 1 0 else ws.getD 2 0
theorem AV (c:Int)(ws:aam){a:Nat}(h:a<3):jn c ws (nm c a)=ws.getD a 0:=by
 unfold jn;have O':¬ nm c 1=nm c 0:=λe=>by have:=KW () () e;lia
 have Ps:¬ nm c 2=nm c 0:=λe=>by have:=KW () () e;lia
 have P1:¬ nm c 2=nm c 1:=λe=>by have:=KW () () e;lia
 rcases(show a=0\/a=1\/a=2 by lia) with rfl|rfl|rfl
 .rw[if_pos rfl]
 .rw[if_neg O',if_pos rfl]
 .rw[if_neg Ps,if_neg P1]
theorem Xf {xs ys:aah}(h:xs.length+ys.length<=1000):pK (lK xs) (lK ys)=aa (lK (xs++ys)):=by
 show(if (xs.map kD).length+(ys.map kD).length<=sizeLine then aa (kJ (xs.map kD++ys.map kD)) else ab)=_
 rw[if_pos (jI (by simp;lia)),<-hW]
theorem PY (ks:aah):cutD (ks.map kD) ab (aa (m:Int))=(ks.take m).map kD:=by
 unfold cutD;have h1:HT.sIx (ks.map kD).length 0 ab=0:=rfl;rw[h1,List.drop_zero,Nat.sub_zero,<-MF];have h2:HT.sIx (ks.map kD).length (ks.map kD).length (aa (m:Int))=min m ks.length:=by
  simp[HT.sIx]
  lia
 rw[h2]
 congr 1
 rcases Nat.le_total m ks.length with h|h
 .rw[LZ h]
 .rw[Ci h,MD h,MD (bS _)]
theorem F5 (c:Int):∃ a:Nat,a<3/\ai (.list [.int 0,.int 0,.int 1,.int 0,.int 1,.int 2]) (.int (c%6))=aa (.int (a:Int)):=by
 have h1:=dX c (show(0:Int)<6 by decide)
 have:c%6=0\/c%6=1\/c%6=2\/c%6=3\/c%6=4\/c%6=5:=()
 rcases this with e|e|e|e|e|e<;>rw[e]
 .exact⟨0,(),rfl⟩
 .exact⟨0,(),rfl⟩
 .exact⟨1,(),rfl⟩
 .exact⟨0,(),rfl⟩
 .exact⟨1,(),rfl⟩
 .exact⟨2,(),rfl⟩
theorem Nx (a b:Int):∃ ks:aah,JN [.int a,.int b]=aa (lK ks)/\0<ks.length/\ks.length<=100/\∀ k∈ks,jW k:=by
 have:∃ d,JN [.int a,.int b]=aa d/\∃ ks:aah,d=lK ks/\0<ks.length/\ks.length<=100/\∀ k∈ks,jW k:=by
  refine hU rfl ?_;refine cJ (d:=lK [.inr "n1",.inr "n2",.inr "n3",.inr "n4",.inr "n5"]) rfl (by simp) ?_
  refine fW (λY'=>∃ ks:aah,(ks.length=5/\∀ k∈ks,jW k)/\Y'=[s0 (.int a),s0 (.int b),s0 (lK ks),ab,ab]) ?_ ?_
  .by_cases h2:a%2=0
   .have e:=SH (a/2) (n:=5) ()
    refine fL (by simp[az,aN,aU,bB,dS,ba,dE,fI,fK,eB,cV,frz,bN,eV,bV,aV,vS,vA,ah,bz,aB,eC,aL,cK,cD,aE,aH,aj,cU,cT,ck,dg,cZ,fj,eD,cR,fF,dh,cg,getL,dM,outD,ay,itemsOf,bQ,dP,cS,bK,bZ,fC,ff,dq,cy,fy,cz,dw,bA,cM,dW,dz,cY,eJ,eQ,aw,bo,bP,noDict,noDicts,dC,cI,bE,cQ,cB,cE,gB,h2]) (qU (d:=lK (((bD 5).map (nm (a/2))).map fX)) (aX (ds:=[.int (a/2),.int (5:Nat)]) (aR (by simp[az,aN,aU,bB,dS,ba,dE,fI,fK,eB,cV,frz,bN,eV,bV,aV,vS,vA,ah,bz,aB,eC,aL,cK,cD,aE,aH,aj,cU,cT,ck,dg,cZ,fj,eD,cR,fF,dh,cg,getL,dM,outD,ay,itemsOf,bQ,dP,cS,bK,bZ,fC,ff,dq,cy,fy,cz,dw,bA,cM,dW,dz,cY,eJ,eQ,aw,bo,bP,noDict,noDicts,dC,cI,bE,cQ,cB,cE,gB]) (aR rfl rfl)) (e.trans ?_)) (by simp) ⟨_,rfl,_,⟨by simp,λk m=>by
     obtain⟨z,mz,rfl⟩:=cG.1 m;obtain⟨y,_,rfl⟩:=cG.1 mz;exact KU _ y⟩,rfl⟩)
    show aa (kJ _)=aa (kJ _);rw[eN (f:=fX)]
    rfl
   .exact iB (by simp[az,aN,aU,bB,dS,ba,dE,fI,fK,eB,cV,frz,bN,eV,bV,aV,vS,vA,ah,bz,aB,eC,aL,cK,cD,aE,aH,aj,cU,cT,ck,dg,cZ,fj,eD,cR,fF,dh,cg,getL,dM,outD,ay,itemsOf,bQ,dP,cS,bK,bZ,fC,ff,dq,cy,fy,cz,dw,bA,cM,dW,dz,cY,eJ,eQ,aw,bo,bP,noDict,noDicts,dC,cI,bE,cQ,cB,cE,gB,h2]) (iC ⟨_,rfl,_,⟨rfl,λk m=>by
     simp only[dJ,pT,or_false] at m;rcases m with rfl|rfl|rfl|rfl|rfl<;>(show eY (.str _)=af;decide +kernel)⟩,rfl⟩)
  rintro _ ⟨ks,⟨hk,vb⟩,rfl⟩;refine cJ (d:=.int (b/48%10^60)) (by simp[az,aN,aU,bB,dS,ba,dE,fI,fK,eB,cV,frz,bN,eV,bV,aV,vS,vA,ah,bz,aB,eC,aL,cK,cD,aE,aH,aj,cU,cT,ck,dg,cZ,fj,eD,cR,fF,dh,cg,getL,dM,outD,ay,itemsOf,bQ,dP,cS,bK,bZ,fC,ff,dq,cy,fy,cz,dw,bA,cM,dW,dz,cY,eJ,eQ,aw,bo,bP,noDict,noDicts,dC,cI,bE,cQ,cB,cE,gB]) (by simp) ?_
  generalize b/48%10^60=o0;have b2:=dX (b/24) (show(0:Int)<2 by decide)
  have hs:(1-b/24%2*2).natAbs<18446744073709551616:=()
  refine cJ (d:=lK [.inl 0,.inl (o0*(1-b/24%2*2)),.inl 7]) (lH (aR rfl (aR (d:=.int (o0*(1-b/24%2*2))) (by simp[az,aN,aU,bB,dS,ba,dE,fI,fK,eB,cV,frz,bN,eV,bV,aV,vS,vA,ah,bz,aB,eC,aL,cK,cD,aE,aH,aj,cU,cT,ck,dg,cZ,fj,eD,cR,fF,dh,cg,getL,dM,outD,ay,itemsOf,bQ,dP,cS,bK,bZ,fC,ff,dq,cy,fy,cz,dw,bA,cM,dW,dz,cY,eJ,eQ,aw,bo,bP,noDict,noDicts,dC,cI,bE,cQ,cB,cE,gB,hs]) (aR rfl rfl)))) (by simp) ?_
  generalize o0*(1-b/24%2*2)=v;obtain⟨m1,e1⟩:∃ m:Nat,ai (.list [.int 0,.int 0,.int 1,.int 3]) (.int (b%4))=aa (.int (m:Int)):=by
   have h1:=dX b (show(0:Int)<4 by decide)
   have:b%4=0\/b%4=1\/b%4=2\/b%4=3:=()
   rcases this with e|e|e|e<;>rw[e]
   .exact⟨0,rfl⟩
   .exact⟨0,rfl⟩
   .exact⟨1,rfl⟩
   .exact⟨3,rfl⟩
  obtain⟨m2,e2⟩:=kL (dX (b/4) (show(0:Int)<4 by decide)).1
  let R:aQ:=[s0 (.int a),s0 (.int b),s0 (lK ks),s0 (.int o0),s0 (lK [.inl 0,.inl v,.inl 7])]
  have g1:nU (aB 2) oN (oS (ah bQ (eC (.int 2)) (ah ai (cD (aE (eC (.int 0)) (aE (eC (.int 0)) (aE (eC (.int 1)) (aE (eC (.int 3)) aH))))) (ah bK (aB 1) (eC (.int 4)))))) (vS R)=aa (lK (ks.take (2+m1))):=by
   rw[xG (ds:=ks.map kD) (l:=ab) (u:=aa ((2+m1:Nat):Int)) rfl rfl (uF (aJ (a:=.int 2) (b:=.int (m1:Int)) rfl (aJ (a:=.list [.int 0,.int 0,.int 1,.int 3]) (b:=.int (b%4)) (lH (ds:=[.int 0,.int 0,.int 1,.int 3]) rfl) (aJ (a:=.int b) (b:=.int 4) rfl rfl (kA b 4 ())) e1) (by show aa (bC _)=_;simp))),PY]
  have g2:nU (aB 4) oN (oS (ah bK (ah bZ (aB 1) (eC (.int 4))) (eC (.int 4)))) (vS R)=aa (lK (([.inl 0,.inl v,.inl 7]:aah).take m2)):=by
   rw[xG (ds:=([.inl 0,.inl v,.inl 7]:aah).map kD) (l:=ab) (u:=aa (m2:Int)) rfl rfl (uF (aJ (a:=.int (b/4)) (b:=.int 4) (aJ (a:=.int b) (b:=.int 4) rfl rfl (pC b 4 ())) rfl ((kA (b/4) 4 ()).trans (by rw[show((4:Nat):Int)=4 from rfl,e2])))),PY]
  refine cO (aJ g1 g2 (Xf (by simp;lia))) ⟨_,rfl,_,rfl,by simp[hk];lia,by simp;lia,λk m=>by
   rcases fP.1 m with m|m
   .exact vb k (EI m)
   .have m:=EI m;simp only[dJ,pT,or_false] at m;rcases m with rfl|rfl|rfl<;>rfl⟩
 obtain⟨d,e,ks,rfl,h⟩:=this;exact⟨ks,e,h⟩
theorem Mg (c c':Int){k:Nat}(hk:k<=1000)(hw:ws.length=3)(h6:∀ w∈ws,w<=3){ps:aah}(hp:0<ps.length)(hy:∀ k∈ps,jW k):∃ l:Ln,JY [.int c',.int k,iM c,lN ws,lK ps]=aa (aO l)/\hJ (jn c ws) l/\l.2.length<=3/\oY l/\l.1∈(bD 3).map (nm c):=by
 have:∃ d,JY [.int c',.int k,iM c,lN ws,lK ps]=aa d/\∃ l:Ln,d=aO l/\hJ (jn c ws) l/\l.2.length<=3/\oY l/\l.1∈(bD 3).map (nm c):=by
  refine hU rfl ?_;obtain⟨a,ha,ea⟩:=F5 c';refine cJ (d:=.int a) (aJ (a:=.list [.int 0,.int 0,.int 1,.int 0,.int 1,.int 2]) (b:=.int (c'%6)) (lH (ds:=[.int 0,.int 0,.int 1,.int 0,.int 1,.int 2]) rfl) (aJ (a:=.int c') (b:=.int 6) rfl rfl (kA c' 6 ())) ea) (by simp) ?_
  refine cJ (d:=.list []) rfl (by simp) ?_
  have hwa:ws.getD a 0<=3:=h6 _ (getD_mem 0 ())
  let A:L2.Slot:=s0 (.int c')
  let B:L2.Slot:=s0 (.int k)
  let C:L2.Slot:=s0 (iM c)
  let D:L2.Slot:=s0 (lN ws)
  let E:L2.Slot:=s0 (lK ps)
  refine fW (λY'=>∃ (ks:aah) (x7 x8:L2.Slot),(ks.length=ws.getD a 0/\∀ k∈ks,jW k)/\Y'=[A,B,C,D,E,s0 (.int a),aa (1,lK ks),x7,x8]) ?_ ?_
  .refine qQ (n:=ws.getD a 0) (λi Y'=>∃ (ks:aah) (x7 x8:L2.Slot),(ks.length=i/\∀ k∈ks,jW k)/\Y'=[A,B,C,D,E,s0 (.int a),aa (1,lK ks),x7,x8]) (gm (nM (aR (aJ (a:=lN ws) (b:=.int a) rfl rfl (AY ())) rfl) ())) ⟨[],ab,ab,⟨rfl,λk m=>by simp at m⟩,rfl⟩ ?_ ?_
   .rintro j _ hj ⟨ks,x7,x8,⟨hl,vb⟩,rfl⟩;refine⟨[A,B,C,D,E,s0 (.int a),aa (1,lK ks),s0 (.int j),x8],rfl,?_⟩;have hj6:j<6:=()
    have P3:((j:Int)*j).natAbs<18446744073709551616:=by
     have:(j:Int)*j<=6*6:=Cw () () () ()
     have:0<=(j:Int)*j:=Cv () ()
     lia
    have zm:(j:Int).natAbs<18446744073709551616:=()
    have hk0:(k:Int).natAbs<18446744073709551616:=()
    refine cJ (d:=.int ((c'/6+(k:Int)*40503+(j:Int)*j*7)%2147483647)) ?_ (by simp) ?_
    .refine aJ (a:=.int (c'/6+(k:Int)*40503+(j:Int)*j*7)) (b:=.int 2147483647) (aJ (a:=.int (c'/6+(k:Int)*40503)) (b:=.int ((j:Int)*j*7)) (aJ (a:=.int (c'/6)) (b:=.int ((k:Int)*40503)) (by simp[az,aN,aU,bB,dS,ba,dE,fI,fK,eB,cV,frz,bN,eV,bV,aV,vS,vA,ah,bz,aB,eC,aL,cK,cD,aE,aH,aj,cU,cT,ck,dg,cZ,fj,eD,cR,fF,dh,cg,getL,dM,outD,ay,itemsOf,bQ,dP,cS,bK,bZ,fC,ff,dq,cy,fy,cz,dw,bA,cM,dW,dz,cY,eJ,eQ,aw,bo,bP,noDict,noDicts,dC,cI,bE,cQ,cB,cE,gB,A]) (by simp[az,aN,aU,bB,dS,ba,dE,fI,fK,eB,cV,frz,bN,eV,bV,aV,vS,vA,ah,bz,aB,eC,aL,cK,cD,aE,aH,aj,cU,cT,ck,dg,cZ,fj,eD,cR,fF,dh,cg,getL,dM,outD,ay,itemsOf,bQ,dP,cS,bK,bZ,fC,ff,dq,cy,fy,cz,dw,bA,cM,dW,dz,cY,eJ,eQ,aw,bo,bP,noDict,noDicts,dC,cI,bE,cQ,cB,cE,gB,B]) rfl) (aJ (a:=.int ((j:Int)*j)) (b:=.int 7) ?_ rfl (by simp[az,aN,aU,bB,dS,ba,dE,fI,fK,eB,cV,frz,bN,eV,bV,aV,vS,vA,ah,bz,aB,eC,aL,cK,cD,aE,aH,aj,cU,cT,ck,dg,cZ,fj,eD,cR,fF,dh,cg,getL,dM,outD,ay,itemsOf,bQ,dP,cS,bK,bZ,fC,ff,dq,cy,fy,cz,dw,bA,cM,dW,dz,cY,eJ,eQ,aw,bo,bP,noDict,noDicts,dC,cI,bE,cQ,cB,cE,gB])) rfl) rfl (by simp[az,aN,aU,bB,dS,ba,dE,fI,fK,eB,cV,frz,bN,eV,bV,aV,vS,vA,ah,bz,aB,eC,aL,cK,cD,aE,aH,aj,cU,cT,ck,dg,cZ,fj,eD,cR,fF,dh,cg,getL,dM,outD,ay,itemsOf,bQ,dP,cS,bK,bZ,fC,ff,dq,cy,fy,cz,dw,bA,cM,dW,dz,cY,eJ,eQ,aw,bo,bP,noDict,noDicts,dC,cI,bE,cQ,cB,cE,gB])
     show ah cS (aB 7) (aB 7) (vS [A,B,C,D,E,s0 (.int a),aa (1,lK ks),s0 (.int j),x8])=_;refine aJ (a:=.int j) (b:=.int j) rfl rfl ?_;show(if ((j:Int).natAbs<2^64\/_)\/_ then aa (bC ((j:Int)*j)) else ab)=_
     rw[if_pos (.inl (.inl (by simpa using zm)))]
    generalize(c'/6+(k:Int)*40503+(j:Int)*j*7)%2147483647=N;obtain⟨i,d,hi,e⟩:=Ae (ds:=ps.map kD) (N*48271%2147483629/(j+1)) (by simpa using hp)
    rw[eU] at hi;obtain⟨kk,ux,rfl⟩:=iE.1 hi;have ip:(0:Int)<ps.length:=()
    refine qV (d:=kD kk) (ds:=ks.map kD) (aJ (a:=lK ps) (b:=.int (N*48271%2147483629/(j+1)%ps.length)) rfl (aJ (a:=.int (N*48271%2147483629/(j+1))) (b:=.int ps.length) (aJ (a:=.int (N*48271%2147483629)) (b:=.int ((j:Int)+1)) (aJ (a:=.int (N*48271)) (b:=.int 2147483629) (aJ (a:=.int N) (b:=.int 48271) rfl rfl (by simp[az,aN,aU,bB,dS,ba,dE,fI,fK,eB,cV,frz,bN,eV,bV,aV,vS,vA,ah,bz,aB,eC,aL,cK,cD,aE,aH,aj,cU,cT,ck,dg,cZ,fj,eD,cR,fF,dh,cg,getL,dM,outD,ay,itemsOf,bQ,dP,cS,bK,bZ,fC,ff,dq,cy,fy,cz,dw,bA,cM,dW,dz,cY,eJ,eQ,aw,bo,bP,noDict,noDicts,dC,cI,bE,cQ,cB,cE,gB])) rfl (by simp[az,aN,aU,bB,dS,ba,dE,fI,fK,eB,cV,frz,bN,eV,bV,aV,vS,vA,ah,bz,aB,eC,aL,cK,cD,aE,aH,aj,cU,cT,ck,dg,cZ,fj,eD,cR,fF,dh,cg,getL,dM,outD,ay,itemsOf,bQ,dP,cS,bK,bZ,fC,ff,dq,cy,fy,cz,dw,bA,cM,dW,dz,cY,eJ,eQ,aw,bo,bP,noDict,noDicts,dC,cI,bE,cQ,cB,cE,gB])) (by simp[az,aN,aU,bB,dS,ba,dE,fI,fK,eB,cV,frz,bN,eV,bV,aV,vS,vA,ah,bz,aB,eC,aL,cK,cD,aE,aH,aj,cU,cT,ck,dg,cZ,fj,eD,cR,fF,dh,cg,getL,dM,outD,ay,itemsOf,bQ,dP,cS,bK,bZ,fC,ff,dq,cy,fy,cz,dw,bA,cM,dW,dz,cY,eJ,eQ,aw,bo,bP,noDict,noDicts,dC,cI,bE,cQ,cB,cE,gB]) ?_) (aX (ds:=[lK ps]) rfl (by simp[bA])) (by simp[az,aN,aU,bB,dS,ba,dE,fI,fK,eB,cV,frz,bN,eV,bV,aV,vS,vA,ah,bz,aB,eC,aL,cK,cD,aE,aH,aj,cU,cT,ck,dg,cZ,fj,eD,cR,fF,dh,cg,getL,dM,outD,ay,itemsOf,bQ,dP,cS,bK,bZ,fC,ff,dq,cy,fy,cz,dw,bA,cM,dW,dz,cY,eJ,eQ,aw,bo,bP,noDict,noDicts,dC,cI,bE,cQ,cB,cE,gB,hp])) (by simpa [ai] using e)) rfl (by simp;lia) ⟨_,.inl rfl,ks++[kk],s0 (.int j),s0 (.int N),⟨by simp[hl],λk m=>by
     rcases fP.1 m with m|m
     .exact vb k m
     .rw[fN.1 m];exact hy kk (jE ux)⟩,by simp⟩
    show(if _ then aa (bC (N*48271%2147483629/((j:Int)+1))) else ab)=_
    rw[if_pos (by constructor<;>lia)]
   .rintro _ ⟨ks,x7,x8,hl,rfl⟩;exact⟨_,rfl,ks,x7,x8,hl,rfl⟩
  .rintro _ ⟨ks,x7,x8,⟨hl,vb⟩,rfl⟩;refine jH (cO (d:=aO (nm c a,ks)) (jQ (aR (aJ (a:=iM c) (b:=.int a) rfl rfl (xO c ha)) (aR (g:=aH) (aX (ds:=[lK ks]) rfl rfl) rfl))) ⟨_,rfl,(nm c a,ks),rfl,?_,?_,⟨KU c a,vb⟩,cG.2 ⟨a,hE.2 ha,rfl⟩⟩)
   .show ks.length=jn c ws (nm c a);rw[AV c ws ha,hl]
   .show ks.length<=3
    lia
 obtain⟨d,e,l,rfl,h⟩:=this;exact⟨l,e,h⟩
theorem uU{a:Int}(h:f Y=aa (.int a))(b:Nat)(hb:0<b/\b<1000000):ah bZ f (eC (.int b)) Y=aa (.int (a/b)):=by
 refine aJ (b:=.int b) h rfl ?_;have h1:0<b/\(b:Int)<1073741824:=()
 simp[bZ,dq]
 lia
theorem Ys {Y:aQ}{a:Int}{es:aae}{dv:aA}(h:f (vA Y)=aa (.int a))(hj:getL j Y=aa ds)(hi:(getL i Y).isSome=af)(hn:k9 ds.length a=aa n)(hv:ds[n]?=aa dv)(he:getL i (Y.set j (aa (1,.list (ds.eraseIdx n))))=aa es)(h1:ds.length<=1000)(h2:es.length<=1000)
  (k:P (.nx ((Y.set j (aa (1,.list (ds.eraseIdx n)))).set i (aa (1,.list (es++[dv])))))):Goes (BL i j .a f) Y P:=⟨_,by
 obtain⟨e0,P4⟩:=pS.1 hi;unfold BL eV;simp only[h,bR,cQ,cB,Bool.true_or,if_true,hj,P4,hn,hv,he];rw[if_pos ⟨jI (),by have:=jI (n:=100000) ();lia⟩],k⟩
theorem IR (c:Int)(h:n<=m)(hm:m<=100):∃ ps:aam,yX [.int c,.int n,.int m]=aa (tN ps)/\ps.length=n/\∀ p∈ps,p<m:=by
 have:∃ d,yX [.int c,.int n,.int m]=aa d/\∃ ps:aam,d=tN ps/\ps.length=n/\∀ p∈ps,p<m:=by
  refine hU rfl ?_;refine cJ (d:=lN (bD m)) (aX (ds:=[.int m]) rfl ?_) (by simp) ?_
  .show(if -4096<=(m:Int)/\(m:Int)<=4096 then aa (kJ (L2.upTo (m:Int).toNat)) else ab)=_
   rw[if_pos ⟨(),()⟩]
   rfl
  refine cJ (d:=lN []) rfl (by simp) ?_
  refine fW (λY'=>∃ (qs ps:aam) (x0 x5:L2.Slot),ps.length=n/\(∀ p∈ps,p<m)/\Y'=[x0,s0 (.int n),s0 (.int m),aa (1,lN qs),aa (1,lN ps),x5]) ?_ ?_
  .refine qQ (n:=n) (λi Y'=>∃ (c:Int) (qs ps:aam) (x5:L2.Slot),ps.length=i/\(∀ p∈ps,p<m)/\qs.length=m-i/\(∀ p∈qs,p<m)/\Y'=[s0 (.int c),s0 (.int n),s0 (.int m),aa (1,lN qs),aa (1,lN ps),x5]) (gm (nM rfl ())) ⟨c,bD m,[],ab,rfl,by simp,by simp,λp mp=>hE.1 mp,rfl⟩ ?_ ?_
   .rintro i _ hi ⟨c,qs,ps,x5,hp,o4,hq,rg,rfl⟩;refine⟨[s0 (.int c),s0 (.int n),s0 (.int m),aa (1,lN qs),aa (1,lN ps),s0 (.int i)],rfl,?_⟩;have h0:(0:Int)<qs.length:=()
    obtain⟨a,ea⟩:=kL (dX c h0).1;have ha:a<qs.length:=by have:=(dX c h0).2;lia
    refine fW (λY'=>Y'=[s0 (.int c),s0 (.int n),s0 (.int m),aa (1,lN (qs.eraseIdx a)),aa (1,lN (ps++[qs.getD a 0])),s0 (.int i)]) ?_ ?_
    .refine Ys (a:=a) (n:=a) (ds:=qs.map λ(c:Nat)=>bC c) (es:=ps.map λ(c:Nat)=>bC c) (dv:=.int (qs.getD a 0)) (aJ (a:=.int c) (b:=.int qs.length) rfl (aX (ds:=[lN qs]) rfl (Ac qs)) ?_) rfl rfl (Hv (by simpa using ha)) (by rw[eU,getD_some 0 ha];rfl) rfl (by simp;lia) (by simp;lia) ⟨_,rfl,?_⟩
     .show(if 0<(qs.length:Int) then aa (bC (c%qs.length)) else ab)=_
      rw[if_pos h0,ea]
     .show [s0 (.int c),s0 (.int n),s0 (.int m),aa (1,.list ((qs.map λ(c:Nat)=>bC c).eraseIdx a)),aa (1,.list ((ps.map λ(c:Nat)=>bC c)++[.int (qs.getD a 0)])),s0 (.int i)]=_
      rw[UX];simp
    .rintro _ rfl;refine qU (d:=.int (c/4)) (by simp[az,aN,aU,bB,dS,ba,dE,fI,fK,eB,cV,frz,bN,eV,bV,aV,vS,vA,ah,bz,aB,eC,aL,cK,cD,aE,aH,aj,cU,cT,ck,dg,cZ,fj,eD,cR,fF,dh,cg,getL,dM,outD,ay,itemsOf,bQ,dP,cS,bK,bZ,fC,ff,dq,cy,fy,cz,dw,bA,cM,dW,dz,cY,eJ,eQ,aw,bo,bP,noDict,noDicts,dC,cI,bE,cQ,cB,cE,gB]) (by simp) ⟨_,.inl rfl,c/4,qs.eraseIdx a,ps++[qs.getD a 0],s0 (.int i),by simp[hp],λp mp=>?_,?_,λp mp=>rg p (List.mem_of_mem_eraseIdx mp),rfl⟩
     .rcases fP.1 mp with q|q
      .exact o4 p q
      .rw[fN.1 q];exact rg _ (getD_mem 0 ha)
     .rw[List.length_eraseIdx_of_lt ha];lia
   .rintro _ ⟨c,qs,ps,x5,hp,o4,hq,rg,rfl⟩;exact⟨_,rfl,qs,ps,_,x5,hp,o4,rfl⟩
  .rintro _ ⟨qs,ps,x0,x5,hp,o4,rfl⟩;exact jH (jH (cO (d:=tN ps) (aX (ds:=[lN ps]) rfl rfl) ⟨_,rfl,ps,rfl,hp,o4⟩))
 obtain⟨d,e,ps,rfl,h⟩:=this;exact⟨ps,e,h⟩
theorem Sh {ps:aam}(h:∀ p∈ps,p<m)(hl:ps.length<64):∃ qs:aam,BJ [tN ps]=aa (lN qs)/\qs.length=ps.length/\∀ q∈qs,q<m:=by
 let is:aai:=ps.map λ(p:Nat)=>(p:Int)
 have p8:(sortI is).Perm is:=Cm is _;have nn:∀ i∈sortI is,∃ p:Nat,i=p/\p<m:=λi mi=>by
  obtain⟨p,mp,rfl⟩:=cG.1 (p8.mem_iff.1 mi);exact⟨p,rfl,h p mp⟩
 refine⟨(sortI is).map Int.toNat,?_,?_,?_⟩
 .have ea:rW (is.map bC)=aa is:=by
   generalize is=is;induction is with
   |nil=>rfl
   |cons i r ih=>
    show((rW (r.map bC)).bind λis=>aa (i::is))=_
    rw[ih]
    rfl
  have et:tN ps=.tuple (is.map bC):=by
   show fO _=fO _;rw[eN]
   rfl
  rw[et];show((rW (is.map bC)).bind λis=>if is.length<64 then aa (kJ ((sortI is).map bC)) else ab)=_
  rw[ea,bR,if_pos (by simpa [is] using hl)]
  show aa (kJ _)=aa (kJ _)
  congr 2
  rw[eN];refine kZ λi mi=>?_
  obtain⟨p,rfl,_⟩:=nn i mi;simp
 .rw[fA,p8.length_eq];simp[is]
 .intro q mq;obtain⟨i,mi,rfl⟩:=cG.1 mq;obtain⟨p,rfl,hp⟩:=nn i mi;simpa using hp
theorem uR (k:Nat):bQ (.int 1) (.int k)=aa (.int ((1+k:Nat):Int)):=by
 show aa (bC (1+(k:Int)))=_;rw[show((1+k:Nat):Int)=1+(k:Int) by lia]
theorem Ji (a b:Nat):AQ [.int a,.int b]=aa (.int (min a b:Nat)):=by
 show aa (bC (if (b:Int)<(a:Int) then(b:Int) else(a:Int)))=_
 congr 2
 split<;>lia
def wq (dt:aan):Rl->Prop
 |.key _ _=>True
 |.pts _ _ o _ _=>o∈dt
theorem Nf (c1 c2:Int)(c:Int)(hw:ws.length=3)(h1:∀ w∈ws,1<=w)(h6:∀ w∈ws,w<=3):∃ r,JQ [.int c1,.int c2,iM c,lN ws]=aa (bI r)/\ij (jn c ws) r/\wq ((bD 3).map (nm c)) r:=by
 suffices h:∃ d,JQ [.int c1,.int c2,iM c,lN ws]=aa d/\∃ r,d=bI r/\ij (jn c ws) r/\wq ((bD 3).map (nm c)) r by
  obtain⟨_,e,r,rfl,q⟩:=h;exact⟨r,e,q⟩
 refine hU rfl ?_;obtain⟨a,ha,ea⟩:=F5 c1;obtain⟨b,eb⟩:=kL (dX (c1/6) (show(0:Int)<3 by lia)).1
 have hb:b<3:=by have:=(dX (c1/6) (show(0:Int)<3 by lia)).2;lia
 have wa:=AY (ws:=ws) (a:=a) ()
 have wb:=AY (ws:=ws) (a:=b) ()
 have ra:1<=ws.getD a 0/\ws.getD a 0<=3:=⟨h1 _ (getD_mem 0 ()),h6 _ (getD_mem 0 ())⟩
 have rb:1<=ws.getD b 0/\ws.getD b 0<=3:=⟨h1 _ (getD_mem 0 ()),h6 _ (getD_mem 0 ())⟩
 have da:=AV c ws ha;have db:=AV c ws hb;generalize ws.getD a 0=A at wa ra da;generalize ws.getD b 0=B at wb rb db
 let C1:L2.Slot:=s0 (.int c1)
 let C2:L2.Slot:=s0 (.int c2)
 let TS:L2.Slot:=s0 (iM c)
 let WS:L2.Slot:=s0 (lN ws)
 let N:L2.Slot:=ab
 refine dB (Y':=[C1,C2,TS,WS,s0 (.int a),N,N,N,N,N]) (iY (m:=.s) (aJ (a:=.list [.int 0,.int 0,.int 1,.int 0,.int 1,.int 2]) (b:=.int (c1%6)) (lH (ds:=[.int 0,.int 0,.int 1,.int 0,.int 1,.int 2]) rfl) (aJ (a:=.int c1) (b:=.int 6) rfl rfl (kA c1 6 ())) ea) (by simp)) ?_
 refine dB (Y':=[C1,C2,TS,WS,s0 (.int a),s0 (.int b),N,N,N,N]) (iY (m:=.s) ((xM (b:=3) (uU (a:=c1) rfl 6 ()) rfl ()).trans (by rw[show((6:Nat):Int)=6 from rfl,eb])) (by simp)) ?_
 refine dB (Y':=[C1,C2,TS,WS,s0 (.int a),s0 (.int b),s0 (.int A),N,N,N]) (iY (m:=.s) (aJ (a:=lN ws) (b:=.int a) rfl rfl wa) (by simp)) ?_
 have tt:bV .s (aj (ah aw (ah bK (ah bZ (aB 0) (eC (.int 18))) (eC (.int 2))) (eC (.int 0)))) [C1,C2,TS,WS,s0 (.int a),s0 (.int b),s0 (.int A),N,N,N]=aa (decide (c1/18%2=0)):=cH (aJ (b:=.int 0) (xM (b:=2) (uU (a:=c1) rfl 18 ()) rfl nofun) rfl (uY _ _))
 refine uL tt (λ_=>?_) (λ_=>?_)
 .obtain⟨M,hM,hM1,hM2⟩:∃ M:Nat,AO [.int 1,.int ((A:Int)-1)]=aa (.int M)/\0<M/\M<=A:=by
   refine⟨max 1 (A-1),?_,(),()⟩
   show aa (bC (if (A:Int)-1 > 1 then(A:Int)-1 else 1))=_
   congr 2
   split<;>lia
  obtain⟨n,en⟩:=kL (dX c2 (show(0:Int)<M by lia)).1
  have hn:1+n<=A:=by have:=(dX c2 (show(0:Int)<M by lia)).2;lia
  refine dB (Y':=[C1,C2,TS,WS,s0 (.int a),s0 (.int b),s0 (.int A),s0 (.int ((1+n:Nat):Int)),N,N]) (iY (m:=.s) (aJ (a:=.int 1) (b:=.int n) rfl ((xM (a:=c2) (b:=M) rfl (aX (ds:=[.int 1,.int ((A:Int)-1)]) (aR rfl (aR (aJ (a:=.int A) (b:=.int 1) rfl rfl rfl) rfl)) hM) ()).trans (by rw[en])) (uR n)) (by simp)) ?_
  obtain⟨ps,ep,im,o4⟩:=IR (c2/4) hn ()
  obtain⟨qs,eq,P5,rg⟩:=Sh o4 ()
  exact cO (d:=bI (.key (nm c a) qs)) (jQ (ds:=[.str "key",.str (nm c a),tN qs]) (aR rfl (aR (aJ (a:=iM c) (b:=.int a) rfl rfl (xO c ha)) (aR (g:=aH) (aX (ds:=[lN qs]) (aR (aX (ds:=[tN ps]) (aR (aX (ds:=[.int (c2/4),.int ((1+n:Nat):Int),.int A]) (aR (uU (a:=c2) rfl 4 ()) rfl) ep) rfl) eq) rfl) rfl) rfl)))) ⟨_,rfl,_,rfl,.key (nm c a) qs,rfl,⟨λx mx=>by rw[da];exact rg x mx,by show qs.length<=1000;lia,trivial⟩,trivial⟩
 .have q2:=dX (c1/36) (show(0:Int)<2 by decide)
  have E6:ah bQ (eC (.int 1)) (ah cS (ah bK (ah bZ (aB 0) (eC (.int 36))) (eC (.int 2))) (eC (.int 3))) (vS [C1,C2,TS,WS,s0 (.int a),s0 (.int b),s0 (.int A),N,N,N])=aa (.int (1+c1/36%2*3)):=aJ (a:=.int 1) (b:=.int (c1/36%2*3)) rfl (aJ (a:=.int (c1/36%2)) (b:=.int 3) (xM (b:=2) (uU (a:=c1) rfl 36 ()) rfl nofun) rfl (by simp[cS,dq])) rfl
  generalize hz:1+c1/36%2*3=z at E6;have hz1:1<=z/\z<=4:=()
  have hm:0<min A B:=()
  obtain⟨n,en⟩:=kL (dX (c2/z) (show(0:Int)<(min A B:Nat) by lia)).1
  have hn:1+n<=min A B:=by have:=(dX (c2/z) (show(0:Int)<(min A B:Nat) by lia)).2;lia
  have fd:ah bZ (aB 1) (ah bQ (eC (.int 1)) (ah cS (ah bK (ah bZ (aB 0) (eC (.int 36))) (eC (.int 2))) (eC (.int 3)))) (vS [C1,C2,TS,WS,s0 (.int a),s0 (.int b),s0 (.int A),N,N,N])=aa (.int (c2/z)):=by
   refine aJ (a:=.int c2) (b:=.int z) rfl E6 ?_;show(if _ then aa (bC (c2/z)) else ab)=_
   rw[if_pos (by constructor<;>lia)]
  refine dB (Y':=[C1,C2,TS,WS,s0 (.int a),s0 (.int b),s0 (.int A),s0 (.int ((1+n:Nat):Int)),N,N]) (iY (m:=.s) (aJ (a:=.int 1) (b:=.int n) rfl ((xM (b:=(min A B:Nat)) fd (aX (ds:=[.int A,.int B]) (aR rfl (aR (aJ (a:=lN ws) (b:=.int b) rfl rfl wb) rfl)) (Ji A B)) ()).trans (by rw[en])) (uR n)) (by simp)) ?_
  obtain⟨ps,ep,im,o4⟩:=IR (c2/16) (show 1+n<=A by lia) ()
  obtain⟨qs,eq,P5,rg⟩:=IR (c2/1024) (show 1+n<=B by lia) ()
  refine dB (Y':=[C1,C2,TS,WS,s0 (.int a),s0 (.int b),s0 (.int A),s0 (.int ((1+n:Nat):Int)),s0 (tN ps),N]) (iY (m:=.s) (aX (ds:=[.int (c2/16),.int ((1+n:Nat):Int),.int A]) (aR (uU (a:=c2) rfl 16 ()) rfl) ep) (by simp)) ?_
  refine dB (Y':=[C1,C2,TS,WS,s0 (.int a),s0 (.int b),s0 (.int A),s0 (.int ((1+n:Nat):Int)),s0 (tN ps),s0 (tN qs)]) (iY (m:=.s) (aX (ds:=[.int (c2/1024),.int ((1+n:Nat):Int),.int B]) (aR (uU (a:=c2) rfl 1024 ()) (aR rfl (aR (aJ (a:=lN ws) (b:=.int b) rfl rfl wb) rfl))) eq) (by simp)) ?_
  exact cO (d:=bI (.pts (nm c a) ps (nm c b) qs B)) (jQ (ds:=[.str "points",.str (nm c a),tN ps,.str (nm c b),tN qs,.int B]) (aR rfl (aR (aJ (a:=iM c) (b:=.int a) rfl rfl (xO c ha)) (aR rfl (aR (aJ (a:=iM c) (b:=.int b) rfl rfl (xO c hb)) (aR rfl (aR (g:=aH) (aJ (a:=lN ws) (b:=.int b) rfl rfl wb) rfl))))))) ⟨_,rfl,.pts (nm c a) ps (nm c b) qs B,rfl,⟨⟨λx mx=>by rw[da];exact o4 x mx,λx mx=>by rw[db];exact rg x mx⟩,⟨(),()⟩,db.symm,rb.2,KU c b⟩,cG.2 ⟨b,hE.2 hb,rfl⟩⟩
theorem Oa {Y:aQ}{ts:aae}(h:f (vS Y)=aa (.tuple ts))(hg:getL i Y=aa ds)(hl:ds.length+ts.length<=100000)(k:P (.nx (Y.set i (aa (1,.list (ds++ts)))))):Goes (sN i .s f) Y P:=⟨_,by
 have h':eV 0 .s f Y=aa (.tuple ts):=h;unfold sN;rw[h',bR,hg,bR];show(if ds.length+ts.length<=sizeLine then aa (Out.nx (Y.set i (aa (1,.list (ds++ts))))) else ab)=_
 rw[if_pos (jI hl)],k⟩
theorem Mc (c:Int)(hl:ls.length<=100)(h6:∀ l∈ls,l.2.length<=6):∃ hd:aah,JT [.int c,.list (ls.map aO)]=aa (tK hd)/\hd.length<=4/\∀ k∈hd,∃ l∈ls,k∈l.2:=by
 have:∃ d,JT [.int c,.list (ls.map aO)]=aa d/\∃ hd:aah,d=tK hd/\hd.length<=4/\∀ k∈hd,∃ l∈ls,k∈l.2:=by
  refine hU rfl ?_;refine cJ (d:=.list []) rfl (by simp) ?_
  refine fW (λY'=>∃ (ks:aah) (x3 x4:L2.Slot),ks.length<=1000/\(∀ k∈ks,∃ l∈ls,k∈l.2)/\Y'=[s0 (.int c),s0 (.list (ls.map aO)),aa (1,lK ks),x3,x4]) ?_ ?_
  .refine lG (ds:=ls.map aO) (λi Y'=>∃ (ks:aah) (x3 x4:L2.Slot),ks.length<=6*i/\(∀ k∈ks,∃ l∈ls,k∈l.2)/\Y'=[s0 (.int c),s0 (.list (ls.map aO)),aa (1,lK ks),x3,x4]) (gm (pH rfl)) ⟨[],ab,ab,by simp,by simp,rfl⟩ ?_ ?_
   .rintro i d _ hd ⟨ks,x3,x4,hk,ny,rfl⟩;rw[eU] at hd;obtain⟨l,k4,rfl⟩:=iE.1 hd;have hi:i<ls.length:=(eW.1 k4).1;have:=h6 l (jE k4);refine⟨[s0 (.int c),s0 (.list (ls.map aO)),aa (1,lK ks),s0 (.str l.1),s0 (tK l.2)],rfl,Oa (ds:=ks.map kD) (ts:=l.2.map kD) rfl rfl (by simp;lia) ⟨_,.inl rfl,ks++l.2,s0 (.str l.1),s0 (tK l.2),by simp;lia,λk m=>(fP.1 m).elim (ny k) λm=>⟨l,jE k4,m⟩,by simp⟩⟩
   .rintro _ ⟨ks,x3,x4,hk,ny,rfl⟩;exact⟨_,rfl,ks,x3,x4,by simp at hk;lia,ny,rfl⟩
  .rintro _ ⟨ks,x3,x4,hk,ny,rfl⟩;refine jH ?_;show Goes _ [s0 (.int c),s0 (.list (ls.map aO)),s0 (lK ks),x3,x4] _;have len_k:bA [lK ks]=aa (.int ks.length):=by simp[bA]
   have e0:bV .s (aj (ah aw (aL bA (aE (aB 2) aH)) (eC (.int 0)))) [s0 (.int c),s0 (.list (ls.map aO)),s0 (lK ks),x3,x4]=aa (decide ((ks.length:Int)=0)):=cH (aJ (a:=.int ks.length) (b:=.int 0) (aX (ds:=[lK ks]) rfl len_k) rfl (uY _ _));by_cases hz:(ks.length:Int)=0
   .exact kF (fL (e0.trans (by rw[decide_eq_true hz])) (cO (d:=tK []) rfl ⟨_,rfl,_,rfl,[],rfl,by simp,by simp⟩))
   .refine dB (gL (e0.trans (by rw[decide_eq_false hz]))) ?_
    have hp:0<ks.length:=()
    obtain⟨n,en⟩:=kL (dX c (show(0:Int)<5 by decide)).1
    have hn:n<5:=by have:=(dX c (show(0:Int)<5 by decide)).2;lia
    obtain⟨vs,P6,hvl,ku⟩:=Mm (cap:=[ab,aa 2,aa 0]) (fi:=i7 (aE (ah bK (aB 0) (eC (.int 5))) aH)) (T:=gB 0) (t:=cE) (f:=ah ai (aB 1) (ah bK (ah bZ (aB 2) (ah bQ (ah cS (aB 0) (aB 0)) (eC (.int 5)))) (aL bA (aE (aB 1) aH)))) (Y:=vS [s0 (.int c),s0 (.list (ls.map aO)),s0 (lK ks),x3,x4]) (n:=n) kD (λk=>∃ l∈ls,k∈l.2) (nM (aR (d:=.int n) (by rw[<-en];simp[az,aN,aU,bB,dS,ba,dE,fI,fK,eB,cV,frz,bN,eV,bV,aV,vS,vA,ah,bz,aB,eC,aL,cK,cD,aE,aH,aj,cU,cT,ck,dg,cZ,fj,eD,cR,fF,dh,cg,getL,dM,outD,ay,itemsOf,bQ,dP,cS,bK,bZ,fC,ff,dq,cy,fy,cz,dw,bA,cM,dW,dz,cY,eJ,eQ,aw,bo,bP,noDict,noDicts,dC,cI,bE,cQ,cB,cE,gB]) rfl) ()) () λj hj=>by
     obtain⟨i,d,hi,e⟩:=Ae (ds:=ks.map kD) (c/((j:Int)*j+5)) (by simpa using hp)
     rw[eU] at hi;obtain⟨kk,ux,rfl⟩:=iE.1 hi;have zm:(j:Int).natAbs<18446744073709551616:=()
     have P3:0<=(j:Int)*j/\(j:Int)*j<=25:=by
      have h1:(j:Int)*j<=5*5:=Cw () () () ()
      have h2:0<=(j:Int)*j:=Cv () ()
      lia
     refine⟨[aa (.int j),aa (lK ks),aa (.int c)],kk,rfl,rfl,aJ (a:=lK ks) (b:=.int (c/((j:Int)*j+5)%ks.length)) rfl (aJ (a:=.int (c/((j:Int)*j+5))) (b:=.int ks.length) (aJ (a:=.int c) (b:=.int ((j:Int)*j+5)) rfl (aJ (a:=.int ((j:Int)*j)) (b:=.int 5) (aJ (a:=.int j) (b:=.int j) rfl rfl ?_) rfl rfl) ?_) (aX (ds:=[lK ks]) rfl len_k) (by simp[az,aN,aU,bB,dS,ba,dE,fI,fK,eB,cV,frz,bN,eV,bV,aV,vS,vA,ah,bz,aB,eC,aL,cK,cD,aE,aH,aj,cU,cT,ck,dg,cZ,fj,eD,cR,fF,dh,cg,getL,dM,outD,ay,itemsOf,bQ,dP,cS,bK,bZ,fC,ff,dq,cy,fy,cz,dw,bA,cM,dW,dz,cY,eJ,eQ,aw,bo,bP,noDict,noDicts,dC,cI,bE,cQ,cB,cE,gB,hp])) (by simpa [ai] using e),ny kk (jE ux)⟩
     .show(if ((j:Int).natAbs<2^64\/_)\/_ then aa (bC ((j:Int)*j)) else ab)=_
      rw[if_pos (.inl (.inl (by simpa using zm)))]
     .show(if _ then aa (bC (c/((j:Int)*j+5))) else ab)=_
      generalize(j:Int)*j=q at *;rw[if_pos (by constructor<;>lia)]
    exact cO (d:=tK vs) (aX (aR P6 rfl) rfl) ⟨_,rfl,vs,rfl,(),ku⟩
 obtain⟨d,e,hd,rfl,h⟩:=this;exact⟨hd,e,h⟩
theorem As {Y:aQ}{G:aae->aaf}{fa:AF}(h1:lB i Y=aa kds)(h2:fa (vS Y)=aa ds)(h3:G (.dict kds::ds)=aa d)(k:P (.nx (Y.set i (aa (2,d))))):Goes (wY i G fa) Y P:=⟨_,by
 unfold wY;rw[h1,bR,h2,bR,h3,bR],k⟩
theorem Mn {Y:aQ}{G:aae->aaf}{fa:AF}(h1:lB i Y=aa kds)(h2:fa (vS Y)=aa ds)(h3:G (.dict kds::ds)=aa d)(k:P (.rt d)):Goes (DR i G fa) Y P:=⟨_,by
 unfold DR;rw[h1,bR,h2,bR,h3,bR],k⟩
abbrev qE (c:Int):aan:=(bD 3).map (nm c)
theorem PJ (c:Int)(hw:ws.length=3)(h1:∀ w∈ws,1<=w)(t:aD):1<=jn c ws t:=by
 unfold jn;split
 .exact h1 _ (getD_mem 0 ())
 .split<;>exact h1 _ (getD_mem 0 ())
theorem Ki(hb:qN ns){ls2:aak}(c:Int)(hw:ws.length=3)(h1:∀ w∈ws,1<=w)(h6:∀ w∈ws,w<=3)(E7:ls.length<=20/\∀ l∈ls,l.2.length<=3/\hJ (jn c ws) l/\l.1∈qE c)(vc:ls2.length<=30/\∀ l∈ls2,l.2.length<=3/\hJ (jn c ws) l/\l.1∈qE c)(hr:∀ r∈rs,lX (jn c ws) r/\oe r) :
  ∃ L',JW [lI ns,.list (ls.map aO),bc ls2,iM c,lN ws,bx rs]=aa (.dict (bt L'))/\LOk (jn c ws) L'/\∀ r∈rs,kR (gv L') r:=by
 have main:∃ d,JW [lI ns,.list (ls.map aO),bc ls2,iM c,lN ws,bx rs]=aa d/\∃ L',d=.dict (bt L')/\LOk (jn c ws) L'/\∀ r∈rs,kR (gv L') r:=by
  refine hU rfl ?_
  let NS:L2.Slot:=s0 (lI ns)
  let A:L2.Slot:=s0 (.list (ls.map aO))
  let C:L2.Slot:=s0 (bc ls2)
  let T:L2.Slot:=s0 (iM c)
  let W:L2.Slot:=s0 (lN ws)
  let RS:L2.Slot:=s0 (bx rs)
  obtain⟨n7,e7⟩:=BO hb (k:=27) () ()
  refine cJ (n:=2) (d:=.dict []) rfl (by simp) ?_
  refine cJ (d:=.int n7) (aX (ds:=[lI ns,.int 27]) rfl e7) (by simp) ?_
  have zn:(qE c).length<=10:=by simp
  let J:aQ->Prop:=λY'=>∃ (L:aaq) (x8 x9 gu n6 x12 m6:L2.Slot),Y'=[NS,A,C,T,W,RS,aa (2,.dict (bt L)),s0 (.int n7),x8,x9,gu,n6,x12,m6]/\LOt (jn c ws) (qE c) L
  have j0:J [NS,A,C,T,W,RS,aa (2,.dict []),s0 (.int n7),ab,ab,ab,ab,ab,ab]:=⟨[],ab,ab,ab,ab,ab,ab,rfl,⟨by simp,λp m=>by simp at m,λp m=>by simp at m⟩⟩
  obtain⟨m2,P7⟩:=kL (dX n7 (show(0:Int)<2 by decide)).1
  have C6:m2<2:=by have:=(dX n7 (show(0:Int)<2 by decide)).2;lia
  refine fW J ?_ ?_
  .refine qQ (n:=1+m2) (λ_ Y'=>J Y') (gm (nM (aR (aJ (a:=.int 1) (b:=.int (m2:Int)) rfl ((aJ (a:=.int n7) (b:=.int 2) rfl rfl (kA n7 2 ())).trans (by rw[show((2:Nat):Int)=2 from rfl,P7])) (uR m2)) rfl) ())) j0 ?_ λY' i=>⟨Y',rfl,i⟩
   rintro j _ hj ⟨L,x8,x9,gu,n6,x12,m6,rfl,o⟩;refine⟨[NS,A,C,T,W,RS,aa (2,.dict (bt L)),s0 (.int n7),s0 (.int j),x9,gu,n6,x12,m6],rfl,?_⟩;obtain⟨nj,ej⟩:=BO hb (k:=28+(j:Int)) () ()
   obtain⟨ps,ep,_,B7⟩:=Ph (ls++ls2) (nj/2) (by simp;lia) (λl m=>(fP.1 m).elim (λm=>(E7.2 l m).1) λm=>(vc.2 l m).1)
   let J2:aQ->Prop:=λY'=>∃ (L:aaq) (x9 gu:L2.Slot),Y'=[NS,A,C,T,W,RS,aa (2,.dict (bt L)),s0 (.int n7),s0 (.int j),x9,gu,n6,x12,m6]/\LOt (jn c ws) (qE c) L
   refine lG (ds:=ps.map wu) (λ_ Y'=>J2 Y') (gm (pH ((aX (ds:=[.list ((ls++ls2).map aO),.int (nj/2)]) (aR (aJ (a:=.list (ls.map aO)) (b:=.list (ls2.map aO)) (aX (ds:=[.list (ls.map aO)]) rfl rfl) (aX (ds:=[bc ls2]) rfl rfl) ?_) (aR (aJ (a:=.int nj) (b:=.int 2) (aX (ds:=[lI ns,.int (28+(j:Int))]) rfl ej) rfl (pC nj 2 ())) rfl)) ep)))) ⟨L,x9,gu,rfl,o⟩ ?_ ?_
   .show(if (ls.map aO).length+(ls2.map aO).length<=sizeLine then aa (kJ (ls.map aO++ls2.map aO)) else ab)=_
    rw[if_pos (jI (by simp;lia)),<-hW]
   .rintro q d _ hd ⟨L,y9,re,rfl,o⟩;rw[eU] at hd;obtain⟨p,ep,rfl⟩:=iE.1 hd;obtain⟨l,ml,e1,e2⟩:=B7 p (jE ep);have hl:hJ (jn c ws) l/\l.1∈qE c:=(fP.1 ml).elim (λm=>(E7.2 l m).2) λm=>(vc.2 l m).2
    obtain⟨L',ea,o'⟩:=ZQ o zn (t:=p.1) (row:=p.2) (by rw[e1];exact hl.2) (by rw[e2,e1];exact hl.1)
    refine⟨[NS,A,C,T,W,RS,aa (2,.dict (bt L)),s0 (.int n7),s0 (.int j),s0 (.str p.1),s0 (bF p.2),n6,x12,m6],rfl,?_⟩;exact As (kds:=bt L) (ds:=[.str p.1,bF p.2]) rfl rfl ea ⟨_,.inl rfl,L',_,_,rfl,o'⟩
   .rintro _ ⟨L,y9,re,rfl,o⟩;exact⟨_,.inl rfl,L,_,_,_,_,_,_,rfl,o⟩
  rintro _ ⟨L,x8,x9,gu,n6,x12,m6,rfl,o⟩;obtain⟨m7,zo⟩:=kL (dX (n7/2) (show(0:Int)<7 by decide)).1
  have P8:m7<7:=by have:=(dX (n7/2) (show(0:Int)<7 by decide)).2;lia
  refine fW J ?_ ?_
  .refine qQ (n:=m7) (λ_ Y'=>J Y') (gm (nM (aR ((aJ (a:=.int (n7/2)) (b:=.int 7) (aJ (a:=.int n7) (b:=.int 2) rfl rfl (pC n7 2 ())) rfl (kA (n7/2) 7 ())).trans (by rw[show((7:Nat):Int)=7 from rfl,zo])) rfl) ())) ⟨L,x8,x9,gu,n6,x12,m6,rfl,o⟩ ?_ λY' i=>⟨Y',rfl,i⟩
   rintro j _ hj ⟨L,x8,x9,gu,n6,x12,m6,rfl,o⟩;refine⟨[NS,A,C,T,W,RS,aa (2,.dict (bt L)),s0 (.int n7),s0 (.int j),x9,gu,n6,x12,m6],rfl,?_⟩;obtain⟨nj,ej⟩:=BO hb (k:=30+(j:Int)) () ()
   refine cJ (d:=.int nj) (aX (ds:=[lI ns,.int (30+(j:Int))]) rfl ej) (by simp) ?_
   obtain⟨a,ea⟩:=kL (dX nj (show(0:Int)<3 by decide)).1
   have ha:a<3:=by have:=(dX nj (show(0:Int)<3 by decide)).2;lia
   refine cJ (d:=.int (a:Int)) ((aJ (a:=.int nj) (b:=.int 3) rfl rfl (kA nj 3 ())).trans (by rw[show((3:Nat):Int)=3 from rfl,ea])) (by simp) ?_
   let w:=ws.getD a 0
   have vd:w<=3:=h6 _ (getD_mem 0 ())
   have e:=iO (cap:=[ab,aa 11]) (fi:=i7 (aE (ah ai (aB 4) (aB 12)) aH)) (T:=gB 0) (t:=cE) (f:=ah bK (ah bZ (ah bZ (aB 1) (eC (.int 3))) (ah bQ (ah cS (aB 0) (aB 0)) (eC (.int 1)))) (eC (.int 3))) (Y:=vS [NS,A,C,T,W,RS,aa (2,.dict (bt L)),s0 (.int n7),s0 (.int j),x9,gu,s0 (.int nj),s0 (.int (a:Int)),m6]) (xs:=bD w) (q:=λ(k:Nat)=>bC k) (λ_=>af) (λ(k:Nat)=>.int (nj/3/((k*k+1:Nat):Int)%3)) (nM (aR (aJ (a:=lN ws) (b:=.int a) rfl rfl (AY ())) rfl) ()) (by simp;lia) (λk mk=>⟨[aa (.int k),aa (.int nj)],rfl,rfl,λ_=>by
    have hk:k<3:=by have:=hE.1 mk;lia
    refine aJ (a:=.int (nj/3/((k*k+1:Nat):Int))) (b:=.int 3) (aJ (a:=.int (nj/3)) (b:=.int ((k*k+1:Nat):Int)) (aJ (a:=.int nj) (b:=.int 3) rfl rfl (pC nj 3 ())) (aJ (a:=.int ((k:Int)*k)) (b:=.int 1) (aJ (a:=.int k) (b:=.int k) rfl rfl (OE ())) rfl (by show aa (bC _)=_;simp)) (pC _ _ () (by
     have:k*k<=3*3:=Nat.mul_le_mul () ()
     lia))) rfl (kA _ 3 ())⟩)
   rw[nD.2 (by simp)] at e
   refine cJ (n:=1) e (by simp) (jH ?_)
   let row:aai:=(bD w).map λ(k:Nat)=>nj/3/((k*k+1:Nat):Int)%3
   obtain⟨L',eL,o'⟩:=ZQ o zn (t:=nm c a) (row:=row) (cG.2 ⟨a,hE.2 ha,rfl⟩) (by rw[AV c ws ha];simp[row,w])
   refine As (kds:=bt L) (ds:=[.str (nm c a),bF row]) rfl (aR (aJ (a:=iM c) (b:=.int a) rfl rfl (xO c ha)) (aR (aX (ds:=[.list ((bD w).map λ(k:Nat)=>bC (nj/3/((k*k+1:Nat):Int)%3))]) rfl (by
    show aa (fO _)=aa (fO _);simp only[row,eN]
    rfl)) rfl)) eL ⟨_,.inl rfl,L',_,_,_,_,_,_,rfl,o'⟩
  rintro _ ⟨L,x8,x9,gu,n6,x12,m6,rfl,o⟩;obtain⟨L',e,o',k'⟩:=Yn hr (PJ c hw h1) (o.ok zn);exact Mn (kds:=bt L) (ds:=[bx rs]) rfl rfl e ⟨_,rfl,L',rfl,o',k'⟩
 obtain⟨d,e,L',rfl,h⟩:=main;exact⟨L',e,h⟩
theorem Nr {α:Type}[DecidableEq α]{xs:List α}(h:xs.Nodup):dU xs=xs:=by
 have:∀ (ys aq:List α),(aq++ys).Nodup->ys.foldl fS aq=aq++ys:=λys=>by
  induction ys with
  |nil=>intro aq _;simp
  |cons y ys ih=>
   intro aq h;have hy:y∉aq:=λm=>by
    rw[rO] at h;exact h.2.2 y m y bT rfl
   show ys.foldl fS (fS aq y)=_;rw[show fS aq y=aq++[y] from if_neg hy]
   have:=ih (aq++[y]) (by rwa [List.append_assoc])
   rw[this,List.append_assoc]
   rfl
 exact(this xs [] h).trans rfl
theorem WA:∀ ls:aak,iU (ls.map aO) (ls.map aO)=af
 |[]=>by simp[iU]
 |l::ls=>by
  rw[dF];have h1:=yG l l;have h2:=WA ls;simp only[iU,h1,h2];simp
theorem RL (hd:aah)(ls:aak):bP (aT hd ls)=af/\bE (aT hd ls) (aT hd ls)=af:=by
 have k1:=yP hd;have k2:=yS hd;have k3:=vL hd hd;have l1:noDicts (ls.map aO)=af:=rB λt m=>by
  obtain⟨x,_,rfl⟩:=cG.1 m;exact(BG x).1
 have l2:cI (ls.map aO)<=5:=yL λt m=>by
  obtain⟨x,_,rfl⟩:=cG.1 m;exact(BG x).2
 have l3:=WA ls;constructor
 .simp[bP,noDict,noDicts,k2,l1,dC,cI]
  lia
 .simp[bE,iU,k3,l3]
theorem Jg (hd:aah)(ls:aak):bo (aT hd ls) (aT hd ls)=aa (.bool ag):=by
 unfold bo;rw[(RL hd ls).1,(RL hd ls).2]
 rfl
theorem Il (hr:∀ r∈rs,ij wd r){c0:Cf}{fw:aD}{ss:List Sk}(F:FK wd rs c0 fw hd ls ss):∃ f,Pth wd rs ss f/\f 0=c0/\f ss.length=(hd,ls)/\Now wd hd ls/\ss.length<=101/\ls.length<=24:=by
 obtain⟨jl,A,h⟩:=F;obtain⟨f,f0,fl,fs⟩:=A.path;have P0:∀ m,m<jl.length->Now wd (f m).1 (f m).2/\nF (f m).2 rs (jl.getD m iu)/\lL [aT (f m).1 (f m).2,cq (jl.getD m iu),bx rs]=aa (aT (f (m+1)).1 (f (m+1)).2):=λm hm=>by
  have S:=fs m _ (getD_some iu hm);exact⟨S.now,S.ok,S.bh⟩
 have len:=A.len;have few:=A.now.few;rcases h with⟨_,rfl,_⟩|⟨_,n,i,j,c,rfl,_,ok⟩|⟨_,rfl,_⟩
 .exact⟨f,⟨P0⟩,f0,fl,A.now,(),few⟩
 .refine⟨λm=>if m<=jl.length then f m else(hd,ls),⟨λm hm=>?_⟩,by simpa using f0,by
   show(if (jl++[Sk.five "clash" n i j c]).length<=jl.length then _ else _)=_
   rw[if_neg (by simp)],A.now,by simp;lia,few⟩
  rw[wC,List.length_singleton] at hm;by_cases bu:m<jl.length
  .rw[if_pos (),if_pos (),show(jl++[Sk.five "clash" n i j c]).getD m iu=jl.getD m iu by rw[EL,zY bu,<-EL]]
   exact P0 m bu
  .have em:m=jl.length:=()
   subst em;rw[if_pos (bS _),if_neg (),fl,show(jl++[Sk.five "clash" n i j c]).getD jl.length iu=.five "clash" n i j c by simp[EL]]
   refine⟨A.now,ok,?_⟩;rcases WY A.now hr (show gV ls rs "clash" n i j c=af from ok) with⟨_,e⟩|⟨e,_⟩
   .exact e
   .exact absurd e (by rw[0])
 .exact⟨f,⟨P0⟩,f0,fl,A.now,(),few⟩
theorem RV {dt:aan}(hr:∀ r∈rs,ij wd r)(ho:∀ r∈rs,wq dt r){ss:List Sk}{f:Nat->Cf}(P:Pth wd rs ss f)(h0:∀ l∈(f 0).2,l.1∈dt):∀ m,m<=ss.length->∀ l∈(f m).2,l.1∈dt
 |0,_=>h0
 |m+1,h=>by
  have ih:=RV hr ho P h0 m ()
  obtain⟨W,ok,bh⟩:=P.step m ()
  have be:=KM W hr ok bh;generalize ss.getD m iu=s at be;generalize f (m+1)=c' at be;cases be with
  |clash _=>exact ih
  |same _=>
   intro l ml;obtain⟨l0,m0,rfl⟩:=cG.1 (Acs.1 ml);exact ih l0 m0
  |@put n i l hp F _ _=>
   intro x mx;rcases fP.1 mx with mx|mx
   .exact ih x mx
   .rw[fN.1 mx];obtain⟨t,c,o,d,w,nums,er,rfl,_⟩:=F;have hn:n<rs.length:=(yJ hr hp).1;have:=ho _ (getD_mem dr hn);rw[er] at this;exact this
theorem Px {B:aD->bv}{k:Kn}(M:MatchE B [] ls k)(hh:∀ z,fX z∈hd->iq ls (.inr z)):∃ ans,Led B ans hd ls k:=by
 let v:aD->Int:=λz=>(cC k z).getD 0
 have R:RelK k v ls:=⟨λz hz=>by
  obtain⟨u,hu⟩:=pS.1 ((M.dom z).2 (.inr hz));show cC k z=aa ((cC k z).getD 0);rw[hu]
  rfl,λz hz=>((M.dom z).1 hz).elim (λq=>by cases q) id⟩
 have inj:∀ (x y:aai),x.map (eR:Int->aG)=y.map eR->x=y:=λx=>by
  induction x with
  |nil=>intro y h;cases y with
   |nil=>rfl
   |cons _ _=>cases h
  |cons p x ih=>intro y h;cases y with
   |nil=>cases h
   |cons q y=>
    injection h with h1 h2;rw[LQ h1,ih y h2]
 refine⟨hd.map (val v),⟨v,R,λl m=>?_,rfl⟩,hh⟩
 obtain⟨r,mr,e⟩:=M.sat l m;rw[R.row λz hz=>⟨l,m,hz⟩] at e
 rw[show oO v l=r from inj _ _ e]
 exact mr
theorem pF(hb:qN ns)(k:Nat)(hk:k<=900):∃ c,kU [lI ns,.int (k:Int)]=aa (.int c):=BO hb () ()
theorem Ij (ns:aai)(hn:ns.length<=63)(hb:qN ns):NX [.list (ns.map bC)]=aa (.bool af):=by
 rw[7]
 let NS:L2.Slot:=s0 (lI ns)
 let N:L2.Slot:=ab
 obtain⟨c0,e0⟩:=pF hb 0 ()
 obtain⟨c1,e1⟩:=pF hb 1 ()
 obtain⟨c2,e2⟩:=pF hb 2 ()
 obtain⟨c3,e3⟩:=pF hb 3 ()
 obtain⟨c4,e4⟩:=pF hb 4 ()
 obtain⟨c5,e5⟩:=pF hb 5 ()
 obtain⟨w0,P9⟩:=kL (dX c1 (show(0:Int)<3 by decide)).1
 obtain⟨w1,Q0⟩:=kL (dX (c1/3) (show(0:Int)<3 by decide)).1
 obtain⟨w2,Q1⟩:=kL (dX (c1/9) (show(0:Int)<3 by decide)).1
 have h0:=(dX c1 (show(0:Int)<3 by decide)).2
 have h1:=(dX (c1/3) (show(0:Int)<3 by decide)).2
 have h2:=(dX (c1/9) (show(0:Int)<3 by decide)).2
 let ws:aam:=[1+w0,1+w1,1+w2]
 have sn:∀ w∈ws,1<=w/\w<=3:=λw m=>by
  simp only[ws,dJ,pT,or_false] at m;rcases m with rfl|rfl|rfl<;>lia
 have vd:ws.length=3:=rfl
 let wd:=jn c0 ws
 obtain⟨ps,ep,Q2,_,Q3⟩:=Nx c2 c3;refine cJ (d:=iM c0) (aX (ds:=[.int c0,.int (3:Nat)]) (aR (aX (ds:=[lI ns,.int (0:Nat)]) rfl e0) rfl) (SH c0 ())) (by simp) ?_
 refine cJ (d:=.int c1) (aX (ds:=[lI ns,.int (1:Nat)]) rfl e1) (by simp) ?_
 refine cJ (d:=lN ws) (lH (ds:=[.int ((1+w0:Nat):Int),.int ((1+w1:Nat):Int),.int ((1+w2:Nat):Int)]) (aR (aJ (a:=.int 1) (b:=.int (w0:Int)) rfl ((aJ (a:=.int c1) (b:=.int 3) rfl rfl (kA c1 3 ())).trans (by rw[show((3:Nat):Int)=3 from rfl,P9])) (uR w0)) (aR (aJ (a:=.int 1) (b:=.int (w1:Int)) rfl ((aJ (a:=.int (c1/3)) (b:=.int 3) (aJ (a:=.int c1) (b:=.int 3) rfl rfl (pC c1 3 ())) rfl (kA (c1/3) 3 ())).trans (by rw[show((3:Nat):Int)=3 from rfl,Q0])) (uR w1)) (aR (aJ (a:=.int 1) (b:=.int (w2:Int)) rfl ((aJ (a:=.int (c1/9)) (b:=.int 3) (aJ (a:=.int c1) (b:=.int 9) rfl rfl (pC c1 9 ())) rfl (kA (c1/9) 3 ())).trans (by rw[show((3:Nat):Int)=3 from rfl,Q1])) (uR w2)) rfl)))) (by simp) ?_
 refine cJ (d:=lK ps) (aX (ds:=[.int c2,.int c3]) (aR (aX (ds:=[lI ns,.int (2:Nat)]) rfl e2) (aR (aX (ds:=[lI ns,.int (3:Nat)]) rfl e3) rfl)) ep) (by simp) ?_
 refine cJ (n:=1) (d:=.list []) (lH (ds:=[]) rfl) (by simp) ?_
 let H:aQ:=[NS,s0 (iM c0),s0 (.int c1),s0 (lN ws),s0 (lK ps)]
 obtain⟨m5,Q4⟩:=kL (dX (c1/27) (show(0:Int)<5 by decide)).1
 have hm5:=(dX (c1/27) (show(0:Int)<5 by decide)).2
 let Gl:aak->Prop:=λls=>ls.Nodup/\∀ l∈ls,l.2.length<=3/\hJ wd l/\oY l/\l.1∈qE c0
 refine fW (λY'=>∃ (ls:aak) (x6 x7:L2.Slot),Y'=H++[aa (1,.list (ls.map aO)),x6,x7,N,N,N,N,N,N,N,N,N]/\ls.length<=4/\Gl ls) ?_ ?_
 .refine qQ (n:=m5) (λi Y'=>∃ (ls:aak) (x6 x7:L2.Slot),Y'=H++[aa (1,.list (ls.map aO)),x6,x7,N,N,N,N,N,N,N,N,N]/\ls.length<=i/\Gl ls) (gm (nM (aR ((aJ (a:=.int (c1/27)) (b:=.int 5) (aJ (a:=.int c1) (b:=.int 27) rfl rfl (pC c1 27 ())) rfl (kA (c1/27) 5 ())).trans (by rw[show((5:Nat):Int)=5 from rfl,Q4])) rfl) ())) ⟨[],N,N,rfl,bS _,by simp,λl m=>by simp at m⟩ ?_ ?_
  .rintro i _ hi ⟨ls,x6,x7,rfl,hl,wk,gl⟩;obtain⟨ci,ei⟩:=pF hb (6+i) ()
   obtain⟨l,el,lw,l3,ly,lt⟩:=Mg c0 ci (k:=i) () vd (λw m=>(sn w m).2) Q2 Q3
   refine⟨H++[aa (1,.list (ls.map aO)),s0 (.int i),x7,N,N,N,N,N,N,N,N,N],rfl,?_⟩;refine cJ (d:=aO l) (aX (ds:=[.int ci,.int (i:Int),iM c0,lN ws,lK ps]) (aR (aX (ds:=[lI ns,.int ((6+i:Nat):Int)]) (aR rfl (aR (aJ (a:=.int 6) (b:=.int (i:Int)) rfl rfl (by show aa (bC _)=_;simp)) rfl)) ei) rfl) el) (by simp[H]) ?_
   have t1:bV .a (aj (ah (fu af) (aB 7) (aB 5))) (H++[aa (1,.list (ls.map aO)),s0 (.int i),s0 (aO l),N,N,N,N,N,N,N,N,N])=aa (af != decide (l∈ls)):=cH (aJ (a:=aO l) (b:=.list (ls.map aO)) rfl rfl (TU af l ls));by_cases h:l∈ls
   .exact iB (t1.trans (by simp[h])) (iC ⟨_,.inl rfl,ls,_,_,rfl,(),wk,gl⟩)
   .refine fL (t1.trans (by simp[h])) (qV (d:=aO l) (ds:=ls.map aO) rfl rfl (by simp;lia) ⟨_,.inl rfl,ls++[l],s0 (.int i),s0 (aO l),?_,by simp;lia,?_,λx mx=>?_⟩)
    .rw[hW]
     rfl
    .rw[rO];exact⟨wk,by simp,λa ma b mb e=>h (by rw[<-fN.1 mb,<-e];exact ma)⟩
    .rcases fP.1 mx with mx|mx
     .exact gl x mx
     .rw[fN.1 mx];exact⟨l3,lw,ly,lt⟩
  .rintro _ ⟨ls,x6,x7,rfl,hl,g⟩;exact⟨_,rfl,ls,x6,x7,rfl,(),g⟩
 rintro _ ⟨ls,x6,x7,rfl,hl4,wk,gl⟩;refine jH ?_
 let LS:L2.Slot:=s0 (.list (ls.map aO))
 show Goes _ (H++[LS,x6,x7,N,N,N,N,N,N,N,N,N]) _;refine cJ (n:=1) (d:=.list []) (lH (ds:=[]) rfl) (by simp[H]) ?_
 obtain⟨m7,zo⟩:=kL (dX c4 (show(0:Int)<7 by decide)).1
 have P8:=(dX c4 (show(0:Int)<7 by decide)).2
 let Gr:List Rl->Prop:=λrs=>∀ r∈rs,ij wd r/\wq (qE c0) r
 refine fW (λY'=>∃ (rs:List Rl) (x6 x9:L2.Slot),Y'=H++[LS,x6,x7,aa (1,bx rs),x9,N,N,N,N,N,N,N]/\Gr rs) ?_ ?_
 .refine qQ (n:=m7) (λi Y'=>∃ (rs:List Rl) (x6 x9:L2.Slot),Y'=H++[LS,x6,x7,aa (1,bx rs),x9,N,N,N,N,N,N,N]/\rs.length<=i/\Gr rs) (gm (nM (aR ((aJ (a:=.int c4) (b:=.int 7) (aX (ds:=[lI ns,.int (4:Nat)]) rfl e4) rfl (kA c4 7 ())).trans (by rw[show((7:Nat):Int)=7 from rfl,zo])) rfl) ())) ⟨[],x6,N,rfl,bS _,λr m=>by simp at m⟩ ?_ ?_
  .rintro i _ hi ⟨rs,y6,y9,rfl,hl,gr⟩;obtain⟨ca,ea⟩:=pF hb (12+2*i) ()
   obtain⟨cb,eb⟩:=pF hb (13+2*i) ()
   obtain⟨r,er,rk,ro⟩:=Nf ca cb c0 vd (λw m=>(sn w m).1) (λw m=>(sn w m).2)
   refine⟨H++[LS,s0 (.int i),x7,aa (1,bx rs),y9,N,N,N,N,N,N,N],rfl,?_⟩;have ix:∀ (k:Nat) (x9:L2.Slot),ah bQ (eC (.int k)) (ah cS (eC (.int 2)) (aB 6)) (vS (H++[LS,s0 (.int i),x7,aa (1,bx rs),x9,N,N,N,N,N,N,N]))=aa (.int ((k+2*i:Nat):Int)):=λk x9=>aJ (a:=.int (k:Int)) (b:=.int (2*(i:Int))) rfl (aJ (a:=.int 2) (b:=.int (i:Int)) rfl rfl (OE ())) (by show aa (bC _)=_;simp)
   refine cJ (d:=.int ca) (aX (ds:=[lI ns,.int ((12+2*i:Nat):Int)]) (aR rfl (aR (ix 12 _) rfl)) ea) (by simp[H]) ?_
   refine qV (d:=bI r) (ds:=rs.map bI) (aX (ds:=[.int ca,.int cb,iM c0,lN ws]) (aR rfl (aR (aX (ds:=[lI ns,.int ((13+2*i:Nat):Int)]) (aR rfl (aR (ix 13 _) rfl)) eb) rfl)) er) rfl (by simp;lia) ⟨_,.inl rfl,rs++[r],s0 (.int i),s0 (.int ca),?_,by simp;lia,λx mx=>?_⟩
   .unfold bx;rw[hW]
    rfl
   .rcases fP.1 mx with mx|mx
    .exact gr x mx
    .rw[fN.1 mx];exact⟨rk,ro⟩
  .rintro _ ⟨rs,y6,y9,rfl,_,gr⟩;exact⟨_,rfl,rs,y6,y9,rfl,gr⟩
 rintro _ ⟨rs,y6,y9,rfl,gr⟩;refine jH ?_;have hr:∀ r∈rs,ij wd r:=λr m=>(gr r m).1
 let RS:L2.Slot:=s0 (bx rs)
 show Goes _ (H++[LS,y6,x7,RS,y9,N,N,N,N,N,N,N]) _;obtain⟨hd,eh,Q5,zp⟩:=Mc c5 (ls:=ls) () (λl m=>by have:=(gl l m).1;lia)
 refine cJ (d:=aT hd ls) (jQ (ds:=[tK hd,bc ls]) (aR (aX (ds:=[.int c5,.list (ls.map aO)]) (aR (aX (ds:=[lI ns,.int (5:Nat)]) rfl e5) rfl) eh) (aR (aX (ds:=[.list (ls.map aO)]) rfl rfl) rfl))) (by simp[H]) ?_
 have on:=Nr wk;have W0:Now wd hd (dU ls):=by
  rw[on];exact⟨λl m=>(gl l m).2.1,λl m=>(gl l m).1,(),λl m=>(gl l m).2.2.1,Q5⟩
 obtain⟨fw,f7,ls2,ss,ec,F⟩:=Xd (rs:=rs) W0 (by rw[on];lia) (λl m=>(gl l m).2.2.1) () hr
 rw[on] at F;obtain⟨f,P,f0,fe,W2,hss,h24⟩:=Il hr F;have ft:=RV hr (λr m=>(gr r m).2) P (by rw[f0];exact λl m=>(gl l m).2.2.2) ss.length (bS _)
 let AL:L2.Slot:=s0 (aT hd ls)
 refine Mr (Y':=H++[LS,y6,x7,RS,y9,AL,s0 (.str fw),s0 (aT f7 ls2),s0 (i9 ss),N,N,N]) (aX (ds:=[aT hd ls,bx rs]) rfl ec) rfl ?_
 let cw:=fG f ss ss.length
 have es:=Yd P hr ()
 rw[f0] at es;refine cJ (d:=.list (cw.map fq)) (aX (ds:=[aT hd ls,i9 ss,bx rs]) rfl es) (by simp[H]) ?_
 obtain⟨bl,bh⟩:=UJ P hr ss.length (bS _);rw[f0,fe] at bl bh;refine dB (gL (lJ (x:=af) (aX (ds:=[aT hd ls,.list (cw.map fq),aT f7 ls2]) rfl (Yx cw (λl m=>by have:=(gl l m).1;lia) () bl bh)))) ?_
 have au:cw.length=ss.length:=by simp[cw,fG]
 let Y4:aQ:=H++[LS,y6,x7,RS,y9,AL,s0 (.str fw),s0 (aT f7 ls2),s0 (i9 ss),s0 (.list (cw.map fq)),N,N]
 refine dB (gL ?_) ?_
 .have t:bV .s (cT (aj (ah cz (aL bA (aE (aB 14) aH)) (eC (.int 0)))) (aj (ah bo (ah ai (ah ai (aB 14) (ah dP (aL bA (aE (aB 14) aH)) (eC (.int 1)))) (eC (.int 0))) (aB 12)))) Y4=aa (decide (0<ss.length)&&ag):=by
   refine mV (cH (aJ (a:=.int ((ss.length:Nat):Int)) (b:=.int 0) (aX (ds:=[.list (cw.map fq)]) rfl (by simp[bA,au])) rfl (GF _))) λq=>cH (aJ (a:=aT f7 ls2) (b:=aT f7 ls2) ?_ rfl (Jg f7 ls2))
   have h0:0<ss.length:=of_decide_eq_true q;refine aJ (a:=fq (oP f ss (ss.length-1))) (b:=.int 0) (aJ (a:=.list (cw.map fq)) (b:=.int ((ss.length-1:Nat):Int)) rfl (aJ (a:=.int ((ss.length:Nat):Int)) (b:=.int 1) (aX (ds:=[.list (cw.map fq)]) rfl (by simp[bA,au])) rfl (by
    show aa (bC ((ss.length:Int)-1))=_
    congr 2
    lia)) (nN (q:=fq) (by show(fG f ss ss.length)[ss.length-1]?=_;unfold fG;rw[eU,pU ()];rfl))) rfl ?_
   show aa (aT (f (ss.length-1+1)).1 (f (ss.length-1+1)).2)=_;rw[Nat.sub_add_cancel h0,fe]
  exact t.trans (by simp)
 obtain⟨L',eb,ob,kb⟩:=Ki hb (ls:=ls) (ls2:=ls2) c0 (rs:=rs) vd (λw m=>(sn w m).1) (λw m=>(sn w m).2) ⟨(),λl m=>⟨(gl l m).1,(gl l m).2.1,(gl l m).2.2.2⟩⟩ ⟨(),λl m=>⟨W2.six l m,W2.lw l m,by rw[fe] at ft;exact ft l m⟩⟩ (λr m=>⟨(hr r m).1,(hr r m).2.1⟩)
 refine cJ (d:=.dict (bt L')) (aX (ds:=[lI ns,.list (ls.map aO),bc ls2,iM c0,lN ws,bx rs]) (aR rfl (aR rfl (aR (aJ (a:=aT f7 ls2) (b:=.int 1) rfl rfl rfl) rfl))) eb) (by simp[H]) ?_
 have bk:=ob.bk (PJ c0 vd λw m=>(sn w m).1)
 obtain⟨ks,ek,Q6,Q7⟩:=WH bk ls 6 [] () (λl m=>⟨(gl l m).1,(gl l m).2.1⟩) (by simp;lia)
 let Y5:aQ:=H++[LS,y6,x7,RS,y9,AL,s0 (.str fw),s0 (aT f7 ls2),s0 (i9 ss),s0 (.list (cw.map fq)),s0 (.dict (bt L')),N]
 refine fW (λY'=>True) (lG (ds:=ks.map bj) (λ_ Y'=>∃ E8:L2.Slot,Y'=Y5.set 16 E8) (gm (pH (aX (ds:=[.dict (bt L'),.list (ls.map aO),bj []]) rfl ek))) ⟨N,rfl⟩ ?_ λY' _=>⟨Y',rfl,trivial⟩) ?_
 .rintro q d _ hq ⟨E8,rfl⟩;rw[eU] at hq;obtain⟨k,Q8,rfl⟩:=iE.1 hq;have M:=Q7 k (jE Q8);obtain⟨ans,L0⟩:=Px (hd:=hd) M λz hz=>zp _ hz
  refine⟨Y5.set 16 (s0 (bj k)),rfl,?_⟩;have le:=Hi (rs:=rs) P bk hr kb () (by rw[fe];exact λl m=>by have:=W2.six l m;lia) (by rw[f0];show hd.length<=100;lia) (by rw[fe];have:=W2.hd4;show f7.length<=100;lia) (ans:=ans) (kn:=k) (by rw[f0];exact L0) (by have:=M.len;simp at this;lia)
  rw[f0] at le;exact iB (lJ (x:=af) (aX (ds:=[aT hd ls,bj k,.list (cw.map fq),.dict (bt L')]) rfl le)) (iC ⟨_,.inl rfl,s0 (bj k),rfl⟩)
 .intro Y' _;exact cO (d:=.bool af) rfl rfl
end Aw
set_option hygiene false in
local macro_rules | `(tactic| sleep 0)=>`(tactic| repeat' first|exact dG _|exact kC|refine iR ?_ ?_|((with_reducible show PE _ _ _);first|((with_reducible show DF _ _ _ (eC _));first|exact gW|exact pD|exact KQ|exact Fk|exact Ak)|((with_reducible show DF _ _ _ (ah _ _ _));first|((with_reducible show DF _ _ _ (ah ai (eC _) _));refine Ie g_PARTS rfl ki ?_ (λ_ _=>rfl))|((with_reducible show DF _ _ _ (ah ai _ _));refine nJ hv ?_ ?_ (λ_ _=>rfl))|((with_reducible show DF _ _ _ (ah bK _ _));refine ZF ?_ ?_)|((with_reducible show DF _ _ _ (ah bZ _ _));refine GS ?_ ?_)|((with_reducible show DF _ _ _ (ah bQ _ _));refine BC ?_ ?_)|((with_reducible show DF _ _ _ (ah cS _ _));refine ZO ?_ ?_)|((with_reducible show DF _ _ _ (ah dP _ _));refine Gv ?_ ?_)|((with_reducible show DF _ _ _ (ah mM _ _));refine Nt ?_ ?_)|((with_reducible show DF 1 _ _ (ah pK _ _));refine ZX ?_ ?_))|((with_reducible show DF _ _ _ (aL _ _));first|((with_reducible show DF _ _ _ (aL bA _));refine nQ yR yK rfl Q.B.len EA ?_)|((with_reducible show DF _ _ _ (aL cY _));refine tJ Ud Se rfl Q.B.tuple Cd ?_)|refine xD (by assumption) (hr.mono nofun) rfl ?_)|((with_reducible show DF _ _ _ (du _ _ _ _ _));refine YR hS ?_ (λ_ _ _ _ _=>?_) (λ_ _ _ _ _=>?_))|((with_reducible show DF _ _ _ (bz (cM _) _));refine AW (T:="str") rfl Q.B.isinstance rfl Q.B.str PyProof.Rows.boot_str nofun ?_)|refine uO ?_|refine ZJ ?_|refine Ng ?_|refine Aj hv ?_ ?_ ?_|(refine lO (n:=1) ?_;first|exact Ak|refine uO ?_|((with_reducible show DF _ _ _ (du _ _ _ _ _));refine YR hS ?_ (λ_ _ _ _ _=>?_) (λ_ _ _ _ _=>?_))|((with_reducible show DF _ _ _ (ah pK _ _));refine ZX ?_ ?_)|((with_reducible show DF _ _ _ (aL eJ _));refine tJ (Su rfl) Qi rfl Q.B.list PyProof.Rows.boot_list ?_)|((with_reducible show DF _ _ _ (aL _ _));refine xD (by assumption) (hr.mono nofun) rfl ?_)))|((with_reducible show PSs _ _ _);first|(with_reducible refine Bg _ ?_)|((with_reducible show jm _ _ _ _ _ (aN _ _));refine vC ?_ ?_)|refine xZ ?_|refine vC ?_ ?_|exact HC)|((with_reducible show PS _ _ _);first|refine GA _ _ nd rfl (by trivial) ?_|((with_reducible show DS _ _ _ _ _ (dQ _ (ay _) _ _));refine sT oB rfl ?_ ?_ ?_)|((with_reducible show DS _ _ _ _ _ (dQ _ (i7 _) _ _));refine PN _ oB rfl ?_ ?_ ?_)|((with_reducible show DS _ _ _ _ _ (dQ _ (rn _) _ _));refine PN _ oB rfl ?_ ?_ ?_)|refine FR _ ?_ ?_ ?_|refine Pb _ _ ?_|refine KJ _ ?_|exact Lh _|refine Up _ ?_|exact Fj)|((with_reducible show PT _ _ _);first|((with_reducible show DT _ _ (aj (ah aw _ _)));refine jG (lZ hu) lY ?_ ?_ (gC _))|((with_reducible show DT _ _ (aj (ah bo _ _)));refine jG (YM hu) ZE ?_ ?_ (gC _))|((with_reducible show DT _ _ (aj (ah cz _ _)));refine jG Fz Hr ?_ ?_ (gC _))|((with_reducible show DT _ _ (aj (ah cy _ _)));refine jG (Awv.or vI) uP ?_ ?_ (gC _))|((with_reducible show DT _ _ (aj (ah kP _ _)));refine jG Ax PV ?_ ?_ (gC _))|((with_reducible show DT _ _ (aj (ah rY _ _)));refine jG Kq Me ?_ ?_ (gC _))|((with_reducible show DT _ _ (aj (ah (fu _) _ _)));first|refine Pw g_PARTS rfl ki ?_|refine jG (QS hu) xS ?_ ?_ (by with_unfolding_all rfl)|refine jG (JR hu) xS ?_ ?_ (by with_unfolding_all rfl))|refine Iw ?_|((with_reducible show DT _ _ (cT _ _));refine AR ?_)|((with_reducible show DT _ _ (ck _ _));refine AR ?_)|refine Hb ?_)|((with_reducible show PW _ _ _);first|refine GC ?_ ?_|refine Ge ?_ ?_|refine GK ?_|refine Ja ?_)|exact BQ|refine xY ?_|refine AZ ?_|refine IU rfl Q.B.range ?_|refine UF rfl Q.B.range ?_|exact ON nd rfl (by trivial)|exact Kb rfl nd rfl rfl (by trivial) (by trivial))
namespace Aw
open PySem L2
variable {K:aM}{n:aD}{i:Nat}{P:bW}{w:bG}
def DH (K:aM):Sp:=λvs H Q _=>∃ (a:aC) (ns:aai),vs=[.ref a]/\SqL K H a (ns.map V.int)/\ns.length<=63/\qN ns/\∀ H',Q (.bl af) H'
theorem Ks:∀ vs H Q E,DH K vs H Q E->qb K 0 NX vs H Q E:=λvs H Q E gh=>by
 obtain⟨a,ns,ev,hS,hl,hb,k⟩:=gh;subst ev;have e0:hid H (λ_=>False)=H:=by
  funext b;unfold hid;rw[if_neg (λz=>z)]
 refine⟨λ_=>False,[.list (ns.map bC)],.bool af,λ_ z=>z.elim,?_,Ij ns hl hb,eI λv H' _ r=>?_⟩
 .rw[e0];exact Aag.2 ⟨_,_,rfl,Abp.2 ⟨a,_,rfl,hS,IQ ns⟩,Aal.2 rfl⟩
 .rw[Aao.1 r];exact k H'
def Hs (K:aM)(n:aD)(i:Nat):Prop:=∃ f fd,Fun K n n (fg i) f fd/\pR K iS n=aa (aa (.ref f))
theorem Bh6{f:aC}{od an:Option aC}{sl:Array aao}{oc kV dc pm cd ct:aF}(a:pR K iS n=aa (aa (.ref f)))(l:K.lookup f=aa ⟨oc,od,.func (vW n n (yB (fg i)) (mW (fg i)) (dI (fg i)) .none kV dc pm an cd ct),sl⟩)(c:LR K cd n=af)(k:EB K (.ref f)=af):Hs K n i:=⟨_,_,Jd (st:=fg i) l c k,a⟩
theorem Biq{i:Int}{t:Tok}(h:pR K iS n=aa (aa (.int i t))):∃ t,pR K iS n=aa (aa (.int i t)):=⟨t,h⟩
theorem Bix{a:aC}{o:bJ}{kvs:bm}(q:pR K iS n=aa (aa (.ref a)))(s:(a==iD)=ag)(l:K.lookup a=aa o)(v:GO P w o kvs):∃ a,pR K iS n=aa (aa (.ref a))/\GD P w K a kvs:=⟨a,q,GD.of s l v⟩
structure Al (P:bW)(w:bG)(K:aM)(mg:aD->Option aF)(base h:aY):Prop where
 X:K.In h
 G:h.Ns iS mg
 a1:Hs K "is_whole" 1
 a2:Hs K "put_in" 2
 a3:Hs K "once" 4
 a4:Hs K "picked" 6
 a5:Hs K "unlike" 12
 a6:Hs K "word_of" 13
 a7:Hs K "new_names" 24
 a8:Hs K "is_past" 27
 a9:Hs K "_law_cell" 30
 a10:Hs K "_law_names" 31
 a11:Hs K "_law_line" 33
 a12:Hs K "_law_places" 34
 a13:Hs K "_law_head" 36
 a14:Hs K "_law_with" 37
 a15:Hs K "_law_at" 38
 a16:Hs K "_law_add" 39
 a17:Hs K "_law_fit" 44
 a18:Hs K "_law_became" 50
 a19:Hs K "put_in_lines" 3
 a20:Hs K "meet" 11
 a21:Hs K "step_of" 14
 a22:Hs K "points_to_one" 16
 a23:Hs K "is_step" 20
 a24:Hs K "behind_put" 25
 a25:Hs K "_law_pool" 32
 a26:Hs K "_law_rule" 35
 a27:Hs K "_law_filled" 40
 a28:Hs K "_law_bad" 41
 a29:Hs K "_law_put" 46
 a30:Hs K "_law_stands" 47
 a31:Hs K "_law_within" 51
 a32:Hs K "due_by_key" 15
 a33:Hs K "wants_put" 17
 a34:Hs K "is_right_key_step" 21
 a35:Hs K "behind_same" 23
 a36:Hs K "_law_lawful" 42
 a37:Hs K "_law_led" 48
 a38:Hs K "due_put" 18
 a39:Hs K "is_right" 22
 a40:Hs K "_law_book" 43
 a41:Hs K "due" 19
 a42:Hs K "behind" 26
 a43:Hs K "chase" 28
 a44:Hs K "_law_stood" 49
 a45:Hs K "_law_matches" 45
 a46:Hs K "law" 52
 c1:∃ t,pR K iS "MOST_LINES_THERE" = aa (aa (.int 5 t))
 c2:∃ t,pR K iS "MOST_PUTS" = aa (aa (.int 16 t))
 g1:∃ a,pR K iS "PARTS" = aa (aa (.ref a))/\GD P w K a (qa mU)
 z:Blt λx=>pR K iS x=aa ab
section
set_option maxHeartbeats 4000000
variable {mg:aD->aao}{base h:aY}(Q:Al P w K mg base h)
include Q
theorem Al.B:Blt λx=>mg x=ab:=
 have M:=λx=>PySem.W.mg_none_of (n:=x) Q.X Q.G
 ⟨M _ Q.z.1,M _ Q.z.2,M _ Q.z.3,M _ Q.z.4,M _ Q.z.5,M _ Q.z.6,M _ Q.z.7,M _ Q.z.8,M _ Q.z.9,M _ Q.z.10,M _ Q.z.11,M _ Q.z.12,M _ Q.z.13,M _ Q.z.14,M _ Q.z.15,M _ Q.z.16,M _ Q.z.17,M _ Q.z.18,M _ Q.z.19,M _ Q.z.20,M _ Q.z.21⟩
theorem Hs.dd(Hh:Hs K n i)(k n0 np:Nat)(N:aan)(b:SF)
  (hb:∀ {f:aC} {cc:aF} {A:cP} {outer:List fE} {s:aK} {H:Hp} {E:XK} {P0:aC->Prop} (hr:Room k (A.deeper (rN n (dI (fg i)) s.heap.objs.size f cc))),Sx (dI (fg i)).names N->N.Nodup->(A.deeper (rN n (dI (fg i)) s.heap.objs.size f cc)).units+100<cLine->(A.deeper (rN n (dI (fg i)) s.heap.objs.size f cc)).units+40<cLine->jm (mL jw P w K mg base N n (dI (fg i)) f cc A outer s H E).nox H P0 n0 (mW (fg i)) b)
  (S:FnScope N (N.take np) (dI (fg i)):=by constructor<;>first|rfl|decide +kernel) (h1:np=(N.take np).length:=by rfl) (h2:(N.take np).length<=N.length:=by decide)
  (bn:∀ f fd,Fun K n n (fg i) f fd->Binds K fd (N.take np) []:=by exact λ_ _ F=>F.binds λ_ _ _ _ _ _ us h=>by rcases us with _|⟨_,_|⟨_,_|⟨_,_|⟨_,_|⟨_,_|⟨_,_|⟨_,_⟩⟩⟩⟩⟩⟩⟩<;>first|(simp at h;done)|rfl):Def P w K mg base n (k+1) (N.take np) (qb K n0 (az np N.length b)):=
 let ⟨_,_,F,a⟩:=Hh
 ⟨_,_,NV F S h1 h2 λcc A outer s H E P0 hr=>hb hr ⟨⟩ S.nd (DL hr) (zI hr),tT Q.X Q.G a,F.kp,bn _ _ F⟩
theorem Al.Z:Gds P w K mg:=⟨let ⟨a,e,g⟩:=Q.g1;⟨a,tT Q.X Q.G e,g⟩⟩
theorem Hs.dA(Hh:Hs K n i)(k np j:Nat)(N:aan)(g:EF)(t:BF)(e:EF)
  (hb:∀ {f:aC} {cc:aF} {A:cP} {outer:List fE} {s:aK} {H H0:Hp} {E:XK} {P0:aC->Prop} (hr:Room k (A.deeper (rN n (dI (fg i)) s.heap.objs.size f cc))),Sx (dI (fg i)).names N->N.Nodup->(A.deeper (rN n (dI (fg i)) s.heap.objs.size f cc)).units+100<cLine->(A.deeper (rN n (dI (fg i)) s.heap.objs.size f cc)).units+40<cLine->PSs (mL jw P w K mg base N n (dI (fg i)) f cc A outer s H E).nox (mW (fg i)) (FE K H0 P0 j g t e))
  (S:FnScope N (N.take np) (dI (fg i)):=by constructor<;>first|rfl|decide +kernel) (h1:(N.take np).length=np:=by rfl) (h2:j≠0:=by decide)
  (bn:∀ f fd,Fun K n n (fg i) f fd->Binds K fd (N.take np) []:=by exact λ_ _ F=>F.binds λ_ _ _ _ _ _ us h=>by rcases us with _|⟨_,_|⟨_,_|⟨_,_|⟨_,_|⟨_,_|⟨_,_|⟨_,_⟩⟩⟩⟩⟩⟩⟩<;>first|(simp at h;done)|rfl):Def P w K mg base n (k+1) (N.take np) (GH K (z0 np N.length j g t e)):=
 let ⟨_,_,F,a⟩:=Hh
 ⟨_,_,Ir F S h1 h2 λcc A outer s H H0 E P0 hr=>hb hr ⟨⟩ S.nd (DL hr) (zI hr),tT Q.X Q.G a,F.kp,bn _ _ F⟩
theorem Hs.dH(Hh:Hs K n i)(k n0 np:Nat)(N:aan)(b:SF)
  (hb:∀ {f:aC} {cc:aF} {A:cP} {outer:List fE} {s:aK} {H H0:Hp} {E:XK} {P0:aC->Prop} (hr:Room k (A.deeper (rN n (dI (fg i)) s.heap.objs.size f cc))),Sx (dI (fg i)).names N->N.Nodup->(A.deeper (rN n (dI (fg i)) s.heap.objs.size f cc)).units+100<cLine->(A.deeper (rN n (dI (fg i)) s.heap.objs.size f cc)).units+40<cLine->jm (mL jw P w K mg base N n (dI (fg i)) f cc A outer s H E).nox H0 P0 n0 (mW (fg i)) b)
  (S:FnScope N (N.take np) (dI (fg i)):=by constructor<;>first|rfl|decide +kernel) (h1:(N.take np).length=np:=by rfl)
  (bn:∀ f fd,Fun K n n (fg i) f fd->Binds K fd (N.take np) []:=by exact λ_ _ F=>F.binds λ_ _ _ _ _ _ us h=>by rcases us with _|⟨_,_|⟨_,_|⟨_,_|⟨_,_|⟨_,_|⟨_,_|⟨_,_⟩⟩⟩⟩⟩⟩⟩<;>first|(simp at h;done)|rfl):Def P w K mg base n (k+1) (N.take np) (z5 K n0 (z3 np N.length b)):=
 let ⟨_,_,F,a⟩:=Hh
 ⟨_,_,Hz F S h1 λcc A outer s H H0 E P0 hr=>hb hr ⟨⟩ S.nd (DL hr) (zI hr),tT Q.X Q.G a,F.kp,bn _ _ F⟩
def Qv:=Hs.dd Q Q.a1 0 0 1 ["thing"] VO λhr hS nd hu hv=>by
 rw[8];refine qP ?_ ?_;refine AW (T:="int") rfl Q.B.isinstance rfl Q.B.int PyProof.Rows.boot_int nofun ?_
 rw[8];refine sQ ?_;refine YO ?_;refine AW (T:="bool") rfl Q.B.isinstance rfl Q.B.bool PyProof.Rows.boot_bool nofun ?_
 rw[8]
def PU:=Hs.dd Q Q.a2 0 0 2 ["terms","known"] SC λhr hS nd hu hv=>by
 rw[8]
theorem Mt {f:aC}{fd:lA}(F:Fun K "once" "once" (fg 4) f fd):FnOk P w K mg base jw 1 f fd ["lines"] (qb K 0 sW):=by
 have S:FnScope ["lines","kept","line"] ["lines"] (dI (fg 4)):=by constructor<;>first|rfl|decide +kernel
 have nd:=S.nd;have hB:=Q.B.tuple;have key:∀ (ds:aae) (d:aA),sW ds=aa d->∃ xs kss,ds=[.tuple xs]/\lU xs=aa kss/\xs.length<sizeLine/\d=.tuple ((qH kss).map fO):=by
  intro ds d e;unfold sW FU at e;split at e
  .obtain⟨kss,e1,e2⟩:=ao e;obtain⟨hl,rfl⟩:=cX e2;exact⟨_,kss,rfl,e1,hl,rfl⟩
  .cases e
 refine F.ok S (λvs H Q E h=>?_) (λcc A outer s H vs Q E hr h=>?_)
 .obtain⟨P0,ds,d,_,r,ef,_⟩:=h;obtain⟨xs,kss,rfl,_⟩:=key ds d ef;rw[r.length]
  rfl
 .obtain⟨P0,ds,d,hP,r,ef,k⟩:=h;obtain⟨xs,kss,rfl,ek,hl,rfl⟩:=key ds d ef;obtain⟨v,rfl,r1⟩:=gQ r;obtain⟨a,us,rfl,ha,ru⟩:=Aan.1 r1;obtain⟨zq,Q9⟩:=HR ek;have hu:=zI hr;refine⟨_,yF (KI (i:=1) nd rfl (by trivial) Vy)
   (yF (ZA oB rfl (ZU (pv 0)) (oI (i:=2) nd rfl (by trivial)) (BR (HK hu (pv 1) (pv 2) NK rfl)))
   (BR (uQ (CL (Sy rfl) rfl hB Cd (gX (pv 1) kQ))))),?_⟩
  intro p hp;have Rs:a≠p:=kT (Aau _ _ ha) hp;have au:us.length=kss.length:=by rw[ru.length,zq,fA]
  refine⟨_,rfl,a,rfl,⟨us,SqT.of (Ext.new hp _ _ (Aau _ _ ha))⟩,Ld (K:=K) (a:=a) (xs:=us)
   (λi σ H2=>∃ n,H2=upd H p (.dT n (oF (kss.take i)))/\∃ v,σ=[aa (.ref a),aa (.ref p),v]) ⟨_,rfl,ab,rfl⟩ (λi σ H2 _ gh=>by
    obtain⟨_,e,_⟩:=gh;rw[e];exact SqT.of (by rw[dY Rs];exact Aau _ _ ha)) ?_ ?_⟩
  .rintro i x σ H2 hx ⟨n0,rfl,v,rfl⟩;have hi:i<us.length:=(eW.1 hx).1;have zr:kss[i]?=aa kss[i]:=jU ()
   have R0:xs[i]?=aa (.tuple kss[i]):=by rw[zq,eU,zr];rfl
   obtain⟨v',h1,h2⟩:=ru.get R0;have:v'=x:=fM (h1.symm.trans hx);subst this;obtain⟨c1,c2⟩:=Q9 kss[i] (jE zr);obtain⟨b,rfl,tk⟩:=(h2.ext Aau).tupK c1 c2;have R3:Apc (upd H p (.dT n0 (oF (kss.take i)))) kss[i] b:=tk.keep λc ys ec=>by
    rw[dY (kT ec hp)];exact ec
   refine⟨_,rfl,_,rfl,p,_,rfl,.inr ⟨_,_,_,⟨_,fT⟩,rfl,R3,?_,rfl⟩,?_⟩
   .have:=Yg (kss.take i);have h3:(kss.take i).length<=kss.length:=List.length_take_le' _ _;have h4:xs.length=kss.length:=by rw[zq,fA]
    lia
   .refine λn1=>⟨n1,?_,_,rfl⟩
    rw[Kk,<-Qk,tU,zr]
    rfl
  .rintro σ H2 ⟨n0,rfl,v,rfl⟩;refine⟨_,rfl,p,_,_,rfl,fT,λl as k4 ip=>?_⟩
   rw[show kss.take us.length=kss by rw[au];exact wA] at ip k4 ⊢
   have x2:Ext H (upd (upd H p (.dT n0 (oF kss))) l (.tup (as.map V.ref))):=λc o ec=>Ext.new k4 _ _ (Ext.new hp _ _ ec)
   refine k.zero x2 (Aan.2 ⟨l,_,rfl,(hP.ext x2).tup fT,?_⟩);rw[<-Ra];exact XB (λc ys ec=>(hP.ext x2).tup (Ext.new k4 _ _ ec)) ip
theorem YN:Def P w K mg base "once" 1 ["lines"] (qb K 0 sW):=
 let ⟨_,_,F,a⟩:=Q.a3
 ⟨_,_,Mt Q F,tT Q.X Q.G a,F.kp,F.binds λ_ _ _ _ _ _ us h=>by rcases us with _|⟨_,_|⟨_,_⟩⟩<;>first|(simp at h;done)|rfl⟩
def HS:=Hs.dd Q Q.a4 0 0 2 ["values","columns"] QC λhr hS nd hu hv=>by
 rw[8]
def QR:=Hs.dd Q Q.a5 0 1 2 ["line","other"] QH λhr hS nd hu hv=>by
 rw[8];refine FO rfl (rC (N:=["column","term","other"]) (cap:=[ab,ab,aa 1]) (out:=(dI (fg 12)).names) (XN:=(["line","other"]:aan)) rfl rfl (by rw[0]) rfl) ZR ?_ (λcl C s₀ H₀ ex=>⟨QG (i:=0) (j:=1) rfl (show(["column","term","other"]:aan).Nodup by rw[0]) rfl rfl (eT rfl) (eT rfl),xY (jG (YM hu) ZE (dG 1) (nJ hv (nJ hv (dG 2) gW (λ_ _=>rfl)) (dG 0) (λ_ _=>rfl)) (gC _)),(dG 0)⟩)
 refine xX rfl Q.B.enumerate ?_;rw[8]
def Yf:=Hs.dd Q Q.a6 0 0 2 ["term","other"] SR λhr hS nd hu hv=>by
 rw[8];refine BX ?_ pD pD;rw[8]
def Sl:=Hs.dd Q Q.a7 0 1 2 ["alternative","many","taken","line","names"] JX λhr hS nd hu hv=>by
 rw[8];refine tJ (WL rfl) WR rfl Q.B.dict LV ?_;rw[8];refine TJ 2 .s ?_;refine lO (n:=1) ?_;refine tJ (WL rfl) WR rfl Q.B.dict LV ?_;rw[8];exact(yC (i:=4) .s rfl nd rfl (by trivial) (rC (N:=["number"]) (cap:=[ab]) (out:=(dI (fg 24)).names) (XN:=(["alternative","many","taken","line","names"]:aan)) rfl rfl (by rw[0]) rfl) qI (xH (UF rfl Q.B.range (iR gW (iR (BC (BC (nQ yR yK rfl Q.B.len EA (iR (dG 2) kC)) (dG 1)) gW) kC)))) (λcl C s₀ H₀ ex=>⟨vD (j:=0) (show(["number"]:aan).Nodup by rw[0]) rfl (eT rfl),BQ,(Lv (dG 0) (by rw[0]) (by rw[0]) pD)⟩))
 rw[8];refine xR ?_ uW ?_;rw[8];refine uZ ?_;rw[8]
def Za:=Hs.dd Q Q.a8 0 0 4 ["alternative","steps","step","rules","other","there","puts"] UH λhr hS nd hu hv=>by
 obtain⟨_,f8⟩:=Q.c1;obtain⟨_,jv⟩:=Q.c2;rw[8];exact(yC (i:=5) .s rfl nd rfl (by trivial) (rC (N:=["line","other"]) (cap:=[ab,aa 4]) (out:=(dI (fg 27)).names) (XN:=(["alternative","steps","step","rules","other","there","puts"]:aan)) rfl rfl (by rw[0]) rfl) qI (AZ (nJ hv (dG 0) gW (λ_ _=>rfl))) (λcl C s₀ H₀ ex=>⟨vD (j:=0) (show(["line","other"]:aan).Nodup by rw[0]) rfl (eT rfl),xY (jG (lZ hu) lY (nJ hv (dG 0) gW (λ_ _=>rfl)) (dG 1) (gC _)),(dG 0)⟩))
 rw[8];exact(yC (i:=6) .s rfl nd rfl (by trivial) (rC (N:=["taken"]) (cap:=[ab]) (out:=(dI (fg 27)).names) (XN:=(["alternative","steps","step","rules","other","there","puts"]:aan)) rfl rfl (by rw[0]) rfl) qI (AZ (dG 1)) (λcl C s₀ H₀ ex=>⟨vD (j:=0) (show(["taken"]:aan).Nodup by rw[0]) rfl (eT rfl),xY (jG (lZ hu) lY (nJ hv (dG 0) gW (λ_ _=>rfl)) pD (gC _)),(dG 0)⟩))
 rw[8];refine Gk ?_ ?_;refine lF DB AX ?_ ?_ (gC _);rw[8];exact(RH (i:=5) rfl (tT Q.X Q.G f8) ⟨_,rfl⟩);refine sQ ?_;refine lF DB AX ?_ ?_ (gC _);rw[8];exact(RH (i:=16) rfl (tT Q.X Q.G jv) ⟨_,rfl⟩)
def VY:=Hs.dd Q Q.a9 0 0 2 ["_law_script","_law_k","_law_number"] XD λhr hS nd hu hv=>by
 rw[8]
def XH:=Hs.dd Q Q.a10 0 1 2 ["_law_cell_here","_law_size","_law_letters","_law_long","_law_at_here","_law_first","_law_names_here","_law_k","_law_name","_law_j","_law_step"] XJ λhr hS nd hu hv=>by
 rw[8];refine tJ Qp Pj rfl Q.B.int PyProof.Rows.boot_int ?_;rw[8];refine lF (lZ hu) lY ?_ ?_ (gC _);rw[8]
def Ru:=Hs.dd Q Q.a11 0 0 5 ["_law_cell_here","_law_k","_law_tables","_law_widths","_law_pool_here","_law_at_here","_law_terms","_law_j","_law_number"] WQ λhr hS nd hu hv=>by
 rw[8]
def Tp:=Hs.dd Q Q.a12 0 0 3 ["_law_cell_here","_law_size","_law_below","_law_left","_law_found","_law_k"] XU λhr hS nd hu hv=>by
 rw[8];refine Xu rfl rfl Q.B.list rfl Q.B.range ?_;rw[8];refine Pe 4 3 .a ?_;rw[8]
def Ry:=Hs.dd Q Q.a13 0 0 2 ["_law_cell_here","_law_lines","_law_terms","_law_table","_law_row"] WO λhr hS nd hu hv=>by
 rw[8];refine WE 2 .s ?_;rw[8];refine xH ?_;rw[8]
def JS:=Hs.dd Q Q.a14 0 0 2 ["_law_terms","_law_known"] XC λhr hS nd hu hv=>by
 rw[8]
def Qq:=Hs.dd Q Q.a15 0 1 2 ["_law_terms","_law_columns"] TB λhr hS nd hu hv=>by
 rw[8]
def Qg:=Hs.dA Q Q.a16 0 3 3 ["_law_book_here","_law_table","_law_row","_law_rows"] CU yV yU λhr hS nd hu hv=>by
 exact Ke nd rfl (by trivial) (dG 1) (AR (GC (jG (JR hu) xS (dG 2) (dG 3) (by with_unfolding_all rfl)) (GK (jG (Awv.or vI) uP (nQ yR yK rfl Q.B.len EA (iR (dG 3) kC)) gW (gC _))))) (dG 2)
def VX:=Hs.dd Q Q.a17 0 1 3 ["_law_line_here","_law_row","_law_known","_law_found","_law_term","_law_number"] VS λhr hS nd hu hv=>by
 rw[8];refine tJ VG VU rfl Q.B.dict LV ?_;rw[8];refine sT oB rfl ?_ ?_ ?_;refine Gu rfl Q.B.zip ?_;rw[8];exact Yb;rw[8];refine Ao 3 .s .s hv ?_ ?_;rw[8]
def Tw:=Hs.dd Q Q.a18 0 0 2 ["_law_stands_here","_law_term","_law_now","_law_step","_law_pair"] XW λhr hS nd hu hv=>by
 rw[8];exact(GW (i:=2) (j:=3) (l:=4) rfl nd rfl rfl rfl (by trivial) (by trivial) (by trivial))
 rw[8]
def Uh:=Hs.dd Q Q.a19 1 0 2 ["lines","known"] YI λhr hS nd hu hv=>by
 have:=PU Q;rw[8]
def YS:=Hs.dd Q Q.a20 1 0 3 ["rule","line","other"] ZD λhr hS nd hu hv=>by
 have:=HS Q;rw[8];refine lF (lZ hu) lY ?_ ?_ (gC _);rw[8]
def UN:=Hs.dd Q Q.a21 1 0 5 ["lines","number","i","j","column"] TN λhr hS nd hu hv=>by
 have:=Yf Q;rw[8]
def Uj:=Hs.dd Q Q.a22 1 0 3 ["lines","rule","line","wanted"] YJ λhr hS nd hu hv=>by
 have:=HS Q;rw[8];refine nQ (Pp rfl) Yh rfl Q.B.any boot_any ?_;rw[8];refine qP ?_ ?_;refine lF (lZ hu) lY ?_ ?_ (gC _);rw[8];refine sQ ?_;refine lF (lZ hu) lY ?_ ?_ (gC _);rw[8]
def Ov:=Hs.dd Q Q.a23 1 0 1 ["thing"] SU λhr hS nd hu hv=>by
 have:=Qv Q;obtain⟨_,ki,g_PARTS⟩:=Q.Z.PARTS;rw[8];refine AW (T:="tuple") rfl Q.B.isinstance rfl Q.B.tuple Cd nofun ?_
 rw[8];refine nQ (Zf rfl) Oy rfl Q.B.all boot_all ?_;rw[8];refine Iq ?_ ?_ uW;rw[8];exact(uZ gW);rw[8];refine qP ?_ ?_;rw[8];refine sQ ?_;refine lF DB AX ?_ gW (gC _);rw[8]
def Sz:=Hs.dd Q Q.a24 1 0 3 ["alternative","rule","line","terms","free","added"] XO λhr hS nd hu hv=>by
 have:=HS Q;have:=Sl Q;rw[8];refine QA rfl rfl Q.B.dict rfl Q.B.zip ?_;rw[8];exact(yC (i:=4) .a rfl nd rfl (by trivial) (rC (N:=["column","terms"]) (cap:=[ab,aa 3]) (out:=(dI (fg 25)).names) (XN:=(["alternative","rule","line","terms","free","added"]:aan)) rfl rfl (by rw[0]) rfl) qI (xH (IU rfl Q.B.range (iR (nJ hv (dG 1) gW (λ_ _=>rfl)) kC))) (λcl C s₀ H₀ ex=>⟨vD (j:=0) (show(["column","terms"]:aan).Nodup by rw[0]) rfl (eT rfl),xY (jG (JR hu) xS (dG 0) (dG 1) (by with_unfolding_all rfl)),(dG 0)⟩))
 rw[8];refine TJ 3 .s ?_;refine lO (n:=1) ?_;refine QA rfl rfl Q.B.dict rfl Q.B.zip ?_;rw[8];refine xH ?_;rw[8];refine Nl ?_ ?_;rw[8]
def Rr:=Hs.dd Q Q.a25 1 1 2 ["_law_one","_law_two","_law_names_here","_law_far","_law_numbers"] WM λhr hS nd hu hv=>by
 have:=XH Q;rw[8];exact(Ju gW gW);rw[8];refine lO (n:=1) ?_;refine xR ?_ uW ?_;rw[8];refine uZ ?_;rw[8];refine lO (n:=1) ?_;refine xR ?_ uW ?_;rw[8];refine uZ ?_;rw[8]
def Sn:=Hs.dd Q Q.a26 1 0 4 ["_law_one","_law_two","_law_tables","_law_widths","_law_at_here","_law_to","_law_wide","_law_size","_law_columns","_law_others"] WV λhr hS nd hu hv=>by
 have:=Tp Q;rw[8];refine nQ (Pk rfl) Qd rfl Q.B.max PyProof.Rows.boot_max ?_;rw[8];refine lO (n:=1) ?_;refine nQ Tt Tn rfl Q.B.sorted c7 ?_;rw[8];refine nQ (Ym rfl) Yp rfl Q.B.min PyProof.Rows.boot_min ?_;rw[8]
def Ub:=Hs.dd Q Q.a27 1 1 2 ["_law_lines","_law_cell_here","_law_known","_law_table","_law_terms","_law_term"] YC λhr hS nd hu hv=>by
 have:=JS Q;rw[8];refine Ao 2 .a .s hv ?_ ?_;rw[8];refine FO rfl (rC (N:=["_law_table","_law_terms","_law_known"]) (cap:=[ab,ab,aa 2]) (out:=(dI (fg 40)).names) (XN:=(["_law_lines","_law_cell_here","_law_known","_law_table","_law_terms","_law_term"]:aan)) rfl rfl (by rw[0]) rfl) ZR ?_ (λcl C s₀ H₀ ex=>⟨QG (i:=0) (j:=1) rfl (show(["_law_table","_law_terms","_law_known"]:aan).Nodup by rw[0]) rfl rfl (eT rfl) (eT rfl),BQ,(ZJ (iR (dG 0) (iR (xD (by assumption) (hr.mono nofun) rfl (iR (dG 1) (iR (dG 2) kC))) kC)))⟩)
 rw[8]
def Rg:=Hs.dd Q Q.a28 1 1 2 ["_law_book_here","_law_rule_here","_law_rows","_law_there","_law_found","_law_seen","_law_row"] VH λhr hS nd hu hv=>by
 have:=Qq Q;rw[8];refine lO (n:=1) ?_;refine nQ Sw Rt rfl Q.B.sorted c7 ?_;rw[8]
def Qe:=Hs.dd Q Q.a29 1 0 3 ["_law_book_here","_law_now","_law_known","_law_line_here","_law_row","_law_more"] WG λhr hS nd hu hv=>by
 have:=VX Q;rw[8]
def Ua:=Hs.dd Q Q.a30 1 0 3 ["_law_book_here","_law_lines","_law_known","_law_table","_law_terms"] YD λhr hS nd hu hv=>by
 have:=JS Q;rw[8]
def Tu:=Hs.dd Q Q.a31 1 0 3 ["_law_alternative","_law_stands_here","_law_ended","_law_table","_law_terms"] XX λhr hS nd hu hv=>by
 have:=Tw Q;rw[8];refine lF (lZ hu) lY ?_ ?_ (gC _);rw[8]
def Tg:=Hs.dd Q Q.a32 2 0 3 ["lines","number","rule","i","line","j","columns"] XF λhr hS nd hu hv=>by
 have:=QR Q;have:=YS Q;have:=UN Q;rw[8];refine sT oB rfl ?_ ?_ ?_;refine xX rfl Q.B.enumerate ?_;rw[8];refine BX ?_ ?_ ?_;rw[8]
def WX:=Hs.dd Q Q.a33 2 0 3 ["lines","rule","line"] WT λhr hS nd hu hv=>by
 have:=Uj Q;rw[8];refine qP ?_ ?_;refine lF (lZ hu) lY ?_ pD (gC _);rw[8];refine qP ?_ ?_;refine lF (lZ hu) lY ?_ ?_ (gC _);rw[8];refine sQ ?_;refine YO ?_;rw[8]
def Ul:=Hs.dd Q Q.a34 2 0 3 ["lines","rule","step","i","j"] YL λhr hS nd hu hv=>by
 have:=QR Q;have:=YS Q;have:=UN Q;rw[8];refine Vj (Awv.or vI) (Awv.or vI) uP uP ?_ ?_ ?_;rw[8];refine qP ?_ ?_;refine lF (QS hu) xS ?_ ?_ (by with_unfolding_all rfl)
 rw[8];refine sQ ?_;refine lF (lZ hu) lY ?_ ?_ (gC _);rw[8]
def Tq:=Hs.dd Q Q.a35 2 0 3 ["alternative","term","other","known"] YE λhr hS nd hu hv=>by
 have:=PU Q;have:=YN Q;have:=Uh Q;rw[8];refine BX ?_ ?_ ?_;rw[8];refine lO (n:=1) ?_;refine RO ?_ ?_;rw[8];refine lO (n:=1) ?_;refine RO ?_ ?_;rw[8]
def To:=Hs.dH Q Q.a36 2 0 2 ["_law_book_here","_law_rules","_law_bad_here","_law_rule_here","_law_gone"] zG λhr hS nd hu hv=>by
 have:=Rg Q;rw[8];refine SJ .s 200 oB ?_ ?_;rw[8];refine a0 0 .a .s hv ?_ ?_;rw[8]
def Qj:=Hs.dd Q Q.a37 2 0 4 ["_law_alternative","_law_known","_law_stands_here","_law_book_here","_law_answer","_law_now","_law_step","_law_pair","_law_ended"] VM λhr hS nd hu hv=>by
 have:=JS Q;have:=Qe Q;have:=Ua Q;rw[8];exact(GW (i:=5) (j:=6) (l:=7) rfl nd rfl rfl rfl (by trivial) (by trivial) (by trivial))
 rw[8];refine tJ VG VU rfl Q.B.dict LV ?_;rw[8];refine Xp 1 .s ?_;rw[8];refine qP ?_ ?_;rw[8];refine sQ ?_;refine lF (lZ hu) lY ?_ ?_ (gC _);rw[8]
def Os:=Hs.dd Q Q.a38 3 0 2 ["lines","rules","i","line","number","rule"] UG λhr hS nd hu hv=>by
 have:=WX Q;rw[8];refine sT oB rfl ?_ ?_ ?_;refine xX rfl Q.B.enumerate ?_;rw[8];refine sT oB rfl ?_ ?_ ?_;refine xX rfl Q.B.enumerate ?_;rw[8]
def Qf:=Hs.dd Q Q.a39 3 0 3 ["lines","step","rules","rule"] VQ λhr hS nd hu hv=>by
 have:=Ov Q;have:=WX Q;have:=Ul Q;rw[8];refine jG DB AX ?_ ?_ (gC _);rw[8];refine qP ?_ ?_;refine lF (Awv.or vI) uP ?_ ?_ (gC _);rw[8]
def Sf:=Hs.dd Q Q.a40 3 0 6 ["_law_script","_law_lines","_law_chased","_law_tables","_law_widths","_law_rules","_law_book_here","_law_cell_here","_law_k","_law_table","_law_row","_law_number","_law_at_here","_law_values"] WN λhr hS nd hu hv=>by
 have:=VY Q;have:=Qg Q;have:=Ub Q;have:=To Q;rw[8];exact Xa;rw[8];refine PC 6 (by assumption) (hr.mono nofun) rfl ?_
 rw[8];exact(yC (i:=13) .s rfl nd rfl (by trivial) (rC (N:=["_law_j","_law_number"]) (cap:=[ab,aa 11]) (out:=(dI (fg 43)).names) (XN:=(["_law_script","_law_lines","_law_chased","_law_tables","_law_widths","_law_rules","_law_book_here","_law_cell_here","_law_k","_law_table","_law_row","_law_number","_law_at_here","_law_values"]:aan)) rfl rfl (by rw[0]) rfl) qI (xH (IU rfl Q.B.range (iR (nJ hv (dG 4) (dG 12) (λ_ _=>rfl)) kC))) (λcl C s₀ H₀ ex=>⟨vD (j:=0) (show(["_law_j","_law_number"]:aan).Nodup by rw[0]) rfl (eT rfl),BQ,(ZF (GS (GS (dG 1) gW) (BC (ZO (dG 0) (dG 0)) gW)) gW)⟩))
 rw[8];refine PC 6 (by assumption) (hr.mono nofun) rfl ?_
 rw[8];refine Uq 6 (by assumption) (hr.mono nofun) rfl ?_
 rw[8]
def Gm:=Hs.dd Q Q.a41 4 0 2 ["alternative","rules","number","rule","step"] OJ λhr hS nd hu hv=>by
 have:=Tg Q;have:=Os Q;rw[8];refine sT oB rfl ?_ ?_ ?_;refine xX rfl Q.B.enumerate ?_;rw[8];refine BX ?_ ?_ KQ;rw[8]
def QZ:=Hs.dd Q Q.a42 4 0 3 ["alternative","step","rules","lines"] QF λhr hS nd hu hv=>by
 have:=Sz Q;have:=Tq Q;have:=Qf Q;rw[8]
def Nz:=Hs.dd Q Q.a43 5 2 2 ["alternative","rules","stands","steps","step"] Ba λhr hS nd hu hv=>by
 have:=YN Q;have:=Za Q;have:=Gm Q;have:=QZ Q;rw[8];refine SJ .a 200 oB ?_ ?_;rw[8];refine Av .s .s 3 pD ?_;rw[8];refine Av .s .s 3 pD ?_;rw[8];refine Mq .s .s .a pD ?_ ?_;rw[8]
def Th:=Hs.dd Q Q.a44 5 1 3 ["_law_alternative","_law_steps","_law_rules","_law_now","_law_found","_law_step","_law_pair"] XI λhr hS nd hu hv=>by
 have:=QZ Q;rw[8]
theorem YF:∀ m,Def P w K mg base "_law_matches" (1+m+1) (List.take 3 ["_law_book_here","_law_lines","_law_known","_law_found","_law_row","_law_more"]) (qb K 1 (vM m))
 |0=>Hs.dd Q Q.a45 _ 1 3 ["_law_book_here","_law_lines","_law_known","_law_found","_law_row","_law_more"] (λ_=>ab) λ_ _ _ _ _=>Xg
 |m+1=>Hs.dd Q Q.a45 _ 1 3 ["_law_book_here","_law_lines","_law_known","_law_found","_law_row","_law_more"] (YG (vM m)) λhr hS nd hu hv=>by
  have:=YF m;have:=VX Q;refine vC ?_ ?_;refine FR .s ?_ ?_ HC;refine jG (lZ hu) lY ?_ gW (gC _);refine nQ yR yK rfl Q.B.len EA ?_;refine iR ?_ ?_ ?_;exact(dG 1);exact kC
  rfl
  refine xZ ?_;refine KJ .s ?_;refine uO ?_;refine iR ?_ ?_ ?_;exact(dG 2);exact kC
  rfl
  refine vC ?_ ?_;refine GA (i:=3) 1 .s ?_ ?_ ?_ ?_ ?_ ?_;exact nd
  rfl
  first|exact eT rfl|exact fQ rfl
  exact(uO kC)
  rfl
  first|exact eT rfl|exact fQ rfl|assumption
  refine vC ?_ ?_;refine sT ?_ ?_ ?_ ?_ ?_ ?_;exact oB
  rfl
  refine AZ ?_;refine Aj hv ?_ ?_ ?_;exact(dG 0);refine nJ hv ?_ gW (λ_ _=>rfl)
  refine nJ hv ?_ gW (λ_ _=>rfl)
  exact(dG 1);refine lO (n:=1) ?_;exact(uO kC);exact(ON (i:=4) nd rfl (by trivial))
  refine vC ?_ ?_;refine GA (i:=5) 0 .s ?_ ?_ ?_ ?_ ?_ ?_;exact nd
  rfl
  first|exact eT rfl|exact fQ rfl
  refine lO (n:=1) ?_;refine xD (by assumption) (hr.mono ()) rfl ?_
  refine iR ?_ ?_ ?_;refine nJ hv ?_ gW (λ_ _=>rfl)
  exact(dG 1);refine iR ?_ ?_ ?_;exact(dG 4);refine iR ?_ ?_ ?_;exact(dG 2);exact kC
  rfl
  rfl
  rfl
  rfl
  first|exact eT rfl|exact fQ rfl|assumption
  refine xZ ?_;refine FR .a ?_ ?_ HC;refine AR ?_;refine GC ?_ ?_;refine jG Ax PV ?_ KQ (gC _);exact(dG 5);refine GK ?_;refine jG (Awv.or vI) uP ?_ gW (gC _);refine nQ yR yK rfl Q.B.len EA ?_;refine iR ?_ ?_ ?_;exact(dG 3);exact kC
  rfl
  refine xZ ?_;refine WE 3 .s ?_;refine lO (n:=1) ?_;refine xD (by assumption) (hr.mono ()) rfl ?_
  refine iR ?_ ?_ ?_;exact(dG 0);refine iR ?_ ?_ ?_;refine lO (n:=1) ?_;refine xR ?_ ?_ uW;exact(dG 1);exact(uZ gW);refine iR ?_ ?_ ?_;exact(dG 5);exact kC
  rfl
  rfl
  rfl
  intro _;rfl;refine Bg 3 ?_;refine xZ ?_;refine KJ .s ?_;refine xR ?_ uW ?_;exact(dG 3);exact(uZ gW)
def Ui:=YF Q 6
end
set_option maxHeartbeats 4000000 in
theorem all_mk{h:aY}{mg:aD->aao}{fa:aC}(R4:mg "law" = aa (.ref fa))(Q:∀ base,Al P w K mg base h) :
  ∃ fd:lA,(∀ (s:aK) (v:aF),BindsTo s fd ⟨[v],[]⟩ [("_law_script",v)])/\∀ base:aY,K.In base->base.Ns iS mg->FnOk P w K mg base jw 9 fa fd ["_law_script"] (DH K):=by
 obtain⟨f,fd,F,a⟩:=(Q h).a46;cases R4.symm.trans (tT (Q h).X (Q h).G a);refine⟨fd,λs v=>?_,λbase _ _=>?_⟩
 .obtain⟨_,_,_,_,_,_,_,_,_,rfl,_⟩:=F.ex;exact .of_eq rfl
 have Q:=Q base;refine(NV F (N:=["_law_script","_law_tables","_law_cell_here","_law_widths","_law_pool_here","_law_lines","_law_k","_law_line_here","_law_rules","_law_one","_law_alternative","_law_word","_law_ended","_law_steps","_law_stands_here","_law_book_here","_law_known"]) (ps:=["_law_script"]) (by constructor<;>first|rfl|decide +kernel) rfl nofun λcc A outer s H E P0 hr=>?_).imp Ks
 have hS:Sx (dI (fg 52)).names ["_law_script","_law_tables","_law_cell_here","_law_widths","_law_pool_here","_law_lines","_law_k","_law_line_here","_law_rules","_law_one","_law_alternative","_law_word","_law_ended","_law_steps","_law_stands_here","_law_book_here","_law_known"]:=⟨⟩;have nd:(["_law_script","_law_tables","_law_cell_here","_law_widths","_law_pool_here","_law_lines","_law_k","_law_line_here","_law_rules","_law_one","_law_alternative","_law_word","_law_ended","_law_steps","_law_stands_here","_law_book_here","_law_known"]:aan).Nodup:=by rw[0]
 have hu:=DL hr;have hv:=zI hr;have:=VY Q;have:=XH Q;have:=Ru Q;have:=Ry Q;have:=Rr Q;have:=Sn Q;have:=Tu Q;have:=Qj Q;have:=Sf Q;have:=Nz Q;have:=Th Q;have:=Ui Q;rw[8];refine Mw .s ?_ ?_;refine lO (n:=2) ?_;rw[8];exact(GW (i:=11) (j:=12) (l:=13) rfl nd rfl rfl rfl (by trivial) (by trivial) (by trivial))
 rw[8]
theorem walk {l:PySem.W.OpenLaw}{q:bW}{jc:aan}{XP:(aD->aao)->aY->Prop}{YP:bG->aY->Prop}{d:DefRec}{K:Params->aM}(hn:l.most=aa 63)(uu:d.params.defaults=[])
  (hY:∀ (w:bG) (h:aY),YP w h->(K w.params).In h)
  (F:∀ (w:bG) (mg:aD->aao) (fa:aC) (h:aY),(K w.params).In h->h.Ns iS mg->mg d.name=aa (.ref fa) ->
   ∃ fd:lA,(∀ (s:aK) (u:aF),BindsTo s fd ⟨[u],[]⟩ [("_law_script",u)])/\∀ base:aY,(K w.params).In base->base.Ns iS mg->FnOk l.prog w (K w.params) mg base jw 9 fa fd ["_law_script"] (DH (K w.params))) :
  PySem.W.WalkO q jc XP YP l.row.toRowW d [] (λf vs=>PySem.call f vs):=
 L2.A5n (n:=63) (k:=9) (x:="_law_script") (CX:=λ_=>jw) (sp:=λw=>DH (K w.params)) hn nofun uu ⟨rfl,nofun,nofun⟩ hY F (λ_ _ a ns hb hl _ hS=>⟨a,ns,rfl,hS,hl,hb,λ_=>rfl⟩) λ_ _ _ _ _ z=>z
end Aw
namespace PySem.W.Fast
def tw8878511881825646279:=0
def tw10247524861367852925:=0
def tw15532010261613445346:=0
def tw15191234743059506624:=0
def tw8452773331421676124:=0
def tw10833026492601015652:=0
def tw14618028089900393094:=0
def tw6407009140059739297:=0
def tw10827994053574195279:=0
def tw6265624588855530694:=0
def tw10270908839919251827:=0
def tw6065562737195916228:=0
def tw8289487419413721843:=0
def tw13567516155919019104:=0
def tw14756353564650367469:=0
def tw17934382495777337387:=0
def tw17713387482273888063:=0
def tw10367123744160750235:=0
def tw1768517445358039792:=0
def tw8351799287565194787:=0
def tw3892336716241842341:=0
def tw10513425056158908390:=0
def tw13757384905146870768:=0
def tw4232647271359711568:=0
def tw1215459495246872823:=0
def tw12320963647817349756:=0
def tw6070496100591227229:=0
def tw513462801326113028:=0
def tw9618087717905144122:=0
def tw14653562447347071406:=0
def tw6608057660942062232:=0
def tw1382201426971695036:=0
def tw5402184531294226544:=0
def tw5193016766419227531:=0
def tw9371517485649912753:=0
def tw3751940400753790025:=0
def tw4826655958983291718:=0
def tw15451770977849014076:=0
def tw2237320430273373443:=0
def tw781304750349954253:=0
def tw12133609819586950939:=0
def tw6014922108153450192:=0
def tw5101082600371754469:=0
def tw12023826164289507036:=0
def tw17608850940713431437:=0
def tw15879907496505414257:=0
def tw14197183029232967619:=0
def tw7758918540348718813:=0
def tw16561547836215053009:=0
def tw12141890108271264642:=0
def tw9213978023451076300:=0
def tw11989433266328947315:=0
def tw8528541861672357251:=0
def tw8739176601028929629:=0
def tw17386549339168134856:=0
def tw4650709733650504575:=0
def tw12108524586766976458:=0
def tw1531056880565293560:=0
def tw6888623307850712838:=0
def tw18025769785545421547:=0
def tw3216323592836149948:=0
def tw2258478460066916999:=0
def tw7443231837220154478:=0
def tw16995642011380839314:=0
def tw4835878250825712280:=0
def tw16028725740277997311:=0
def tw9743433859202017955:=0
def tw12898832413356832378:=0
def tw12147078031623809272:=0
def tw11053880475093311024:=0
def tw573955970329622145:=0
def tw3301811869082479795:=0
def tw977045060511248472:=0
def tw12037617730964045394:=0
def tw16313150334482886516:=0
def tw15515484692671002577:=0
def tw13906748918181941514:=0
def tw18405688946201557421:=0
def tw9379321040503120722:=0
def tw16191437212593834310:=0
def tw10446385756165769361:=0
def tw15018985966961874362:=0
def tw14959559592544664727:=0
def tw14920808751554344379:=0
def tw2282686952703013817:=0
def tw9249466012644372241:=0
def tw1961592004193832388:=0
def tw6739576187499626137:=0
def tw11047370553013212929:=0
def tw11471678215949035451:=0
def tw9160993465330509811:=0
def tw13450396831892988465:=0
def tw10899579084378898197:=0
def tw6345191477944616046:=0
def tw9057874206459488933:=0
def tw1823650505192416982:=0
def tw4299849676407216951:=0
def tw10640745162955081465:=0
def tw11003952090579894892:=0
def tw13580735878275754012:=0
def tw4029908088417161702:=0
def tw13131032455748983370:=0
def tw4483768275539122842:=0
def tw12739329400303002874:=0
def tw3397464080497641185:=0
def tw2551644722786562586:=0
def tw17066697009131475090:=0
def tw14983856146987650218:=0
def tw4405155695293652224:=0
def tw10410197361384036018:=0
def tw16790441063498434311:=0
def tw12253856585944016863:=0
def tw12019481128050219195:=0
def tw11991369972295918892:=0
def tw14833475105169567302:=0
def tw7509339672858180324:=0
def tw7044910882331248743:=0
def tw15593658419759987985:=0
def tw17580578961714205616:=0
def tw8688030533981898546:=0
def tw6790002483400600390:=0
def tw15422988538929418676:=0
def tw13626566527364192535:=0
def tw9953037096416337191:=0
def tw4662726467200347829:=0
def tw1395612643240230677:=0
def tw13357643048416440139:=0
def tw13934077680266917361:=0
def tw14597397986995433604:=0
def tw5236234453495288878:=0
def tw2128677182443221609:=0
def tw6619115528743700133:=0
def tw10906478140511722740:=0
def tw11654902923495944128:=0
def tw17704791934576160914:=0
def tw6743637082408629781:=0
def tw14767897141187926665:=0
def tw17167374315657487523:=0
def tw17478464114166282352:=0
def tw5834419034172214424:=0
def tw12668501589797000834:=0
def tw381930434355464431:=0
def tw11993858777760346756:=0
def tw13124055271350495613:=0
def tw1222783629743976371:=0
def tw16563630180736773371:=0
def tw8519098740446153104:=0
def tw14330235370239445101:=0
def tw8122136066820615464:=0
def tw583219810944358471:=0
def tw11450758038261981755:=0
def tw1327530592227137655:=0
def tw2609729109503239212:=0
def tw14995666695500589540:=0
def tw1818553057493370147:=0
def tw12584701764332031251:=0
def tw14169630203205886115:=0
def tw17049190349369422084:=0
def tw8699557671141074892:=0
def tw10911202320087091889:=0
def tw16591479568425661423:=0
def tw5219085645834243603:=0
def tw9132267089361540277:=0
def tw6440759906072495963:=0
def tw6715033953963700556:=0
def tw2033820665152397832:=0
def tw5766288244983147599:=0
def tw15093907147109092752:=0
def tw12731890743691580243:=0
def tw4163625545336829227:=0
def tw16803938343828155167:=0
def tw5724445586203365043:=0
def tw6080795641433043527:=0
def tw10909458412908105223:=0
def tw10114843587318777058:=0
def tw4831251818859711749:=0
def tw4600944502294303821:=0
def tw3577840310078316979:=0
def tw11902680456602032577:=0
def tw14485980558091813160:=0
def tw16075060014561261615:=0
def tw12064828241117112899:=0
def tw12941270503305425231:=0
def tw15772962088232235489:=0
def tw7778601413707033004:=0
def tw8468020727165189437:=0
def tw3736405164242989255:=0
def tw6571009425657822421:=0
def tw3328523136295151515:=0
def tw8535577041205455785:=0
def tw5837577539884997970:=0
def tw3112315749429169202:=0
def tw13739701231492933446:=0
def tw2884681549905866521:=0
def tw3276811533517660648:=0
def tw9407223989341980780:=0
def tw9955878273299506532:=0
def tw15272020245906646231:=0
def tw7139212256287370720:=0
def tw3291664291069962886:=0
def tw3345029395958668639:=0
def tw5776071368829755431:=0
def tw8371027750895153248:=0
def tw17997146388995822407:=0
def tw17823940206869400705:=0
def tw2736459498451370078:=0
def tw17455336275746248032:=0
def tw12708669004985918510:=0
def tw5416090434496527743:=0
def tw6108984038343389769:=0
def tw3325691063243044474:=0
def tw5836655439157006412:=0
def tw3452151312610445907:=0
def tw12591421606695032287:=0
def tw14021004347267287841:=0
def tw10925865212722105552:=0
def tw4135142532341982243:=0
def tw9224274373447383217:=0
def tw9942071796880867715:=0
def tw1621693644713157673:=0
def tw6978549640099828332:=0
def tw2599098194857922258:=0
def tw1165570013747693586:=0
def tw9670883627071058516:=0
def tw4228705324389709548:=0
def tw15897179425448060617:=0
def tw14912355034233535660:=0
def tw16721486990455974578:=0
def tw12084813992757369838:=0
def tw952048143606098993:=0
def tw10870848926796044530:=0
def tw5676786187572771634:=0
def tw15199161611319162789:=0
def tw15018732361413946875:=0
def tw13508328963428361451:=0
def tw16268556438824710971:=0
def tw5032885317845233190:=0
def tw2935423202194820570:=0
def tw5828483963821538684:=0
def tw8010614057183390333:=0
def tw15241142516038328632:=0
def tw16707510120151367855:=0
def tw11798188612865294125:=0
def tw14706917573840987186:=0
def tw5648068544813730048:=0
def tw4729513738109387850:=0
def tw998192369525218156:=0
def tw231172419113461841:=0
def tw18421554818712510328:=0
def tw16538374930252957894:=0
def tw4378468406953119570:=0
def tw13398073637326641125:=0
def tw7394370373683532854:=0
def tw6313948417176100666:=0
def tw11892549067946252273:=0
def tw901919671603850274:=0
def tw4940060103157914597:=0
def tw17428641973235682346:=0
def tw15839173449347866410:=0
def tw13155125439060534321:=0
def tw12941234768109531908:=0
def tw9698215395144413859:=0
def tw2410232943908872984:=0
def tw12851914007568089890:=0
def tw1147238697722412741:=0
def tw11486145332077162159:=0
end PySem.W.Fast
open PySem PySem.W PyProof.Rows
set_option maxRecDepth 100000 in
set_option maxHeartbeats 0 in
theorem PySem.Challenge.cw_askwithin_k49_whole_chases_keep_answers_holds : PySem.Challenge.rw_askwithin_k49_whole_chases_keep_answers.Holds := by
 w_on;o_law;k_head;(case hw=>w_witness2)
 k_fill
 refine Aw.walk (l:=PySem.Challenge.rw_askwithin_k49_whole_chases_keep_answers) rfl rfl (λw h ad=>PySem.W.kIn_of ad) ?F
 case F=>
  intro w mg fa h KX G uv;refine Aw.all_mk (h:=h) uv λ_=>?_;refine' ⟨KX,G,?_,?_,?_,?_,?_,?_,?_,?_,?_,?_,?_,?_,?_,?_,?_,?_,?_,?_,?_,?_,?_,?_,?_,?_,?_,?_,?_,?_,?_,?_,?_,?_,?_,?_,?_,?_,?_,?_,?_,?_,?_,?_,?_,?_,?_,?_,?_,?_,Aw.Bix ?q1 ?s1 ?l1 ?v1,⟨?_,?_,?_,?_,?_,?_,?_,?_,?_,?_,?_,?_,?_,?_,?_,?_,?_,?_,?_,?_,?_⟩⟩;any_goals refine' Aw.Bh6 ?_ ?_ ?_ ?_
  any_goals refine' Aw.Biq ?_
  (case q1=>k_is);(case l1=>k_is);(case s1=>rfl);(case v1=>exact L2.Bh0 [("clash",5,_,_),("same",5,_,_),("put",3,_,_)] _ (by rw[0]))
  any_goals k_is
